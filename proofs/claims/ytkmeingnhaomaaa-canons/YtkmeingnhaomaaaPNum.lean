/- The program's appendNumber, and its small tests. -/
import Derived.Test.YtkmeingnhaomaaaPCheck
import Derived.Maps.AppendAt
namespace Go.Proofs.Ytkmeingnhaomaaa
open Go.RowKit

theorem Try.infoU8 : (Try.prog.info? 5).map (fun i => (i.zero, i.size, i.bytes)) = some (some (.int .u8 0), 1, 1) := by kernel_rfl

/-- Bytes as cells. -/
def byteVals (l : List UInt8) : List Value := l.map fun b => Value.int .u8 (b.toNat : Int)

/-- The slice value v owns the bytes l, in blocks from B on. -/
def OwnsB (B : Nat) (w : World) (v : Value) (l : List UInt8) : Prop := w.ownsRow B 5 1 v l.length (byteVals l)

/-- What an append to v that gives v' has turned: v's own block alone; v' lies there, or in a new block. -/
structure Grew (w w' : World) (v v' : Value) : Prop where
  by_ : w.grownBy w' v.ownBlock
  at_ : v'.ownBlock = v.ownBlock ∨ ∃ g, w.heap.size ≤ g ∧ v'.ownBlock = some g
theorem Grew.refl (w : World) (v : Value) : Grew w w v v := ⟨⟨rfl, rfl, rfl, Nat.le_refl _, fun _ _ _ => rfl⟩, .inl rfl⟩
theorem Grew.trans {w w1 w2 : World} {v v1 v2 : Value} (h : Grew w w1 v v1) (k : Grew w1 w2 v1 v2) : Grew w w2 v v2 := by
  refine ⟨⟨k.by_.os.trans h.by_.os, k.by_.tape.trans h.by_.tape, k.by_.output.trans h.by_.output, Nat.le_trans h.by_.size k.by_.size, fun j hj hne => ?_⟩, ?_⟩
  · refine (k.by_.block j (Nat.lt_of_lt_of_le hj h.by_.size) ?_).trans (h.by_.block j hj hne)
    rcases h.at_ with e | ⟨g, hg, e⟩
    · rw [e]; exact hne
    · rw [e]; intro e2; simp only [Option.some.injEq] at e2; omega
  · rcases k.at_ with e | ⟨g, hg, e⟩
    · rw [e]; exact h.at_
    · exact .inr ⟨g, Nat.le_trans h.by_.size hg, e⟩
theorem Grew.of_alloc {w w2 : World} {o : Obj} {v v2 : Value} (hg : (w.alloc o).grownBy w2 v.ownBlock) (ha : v2.ownBlock = v.ownBlock ∨ v2.ownBlock = some (w.alloc o).heap.size) : Grew w w2 v v2 := by
  have h0 : Grew w (w.alloc o) v v := ⟨⟨rfl, rfl, rfl, by simp, fun j hj _ => Below.heap_alloc w o j hj⟩, .inl rfl⟩
  exact h0.trans ⟨hg, ha.elim .inl (fun e => .inr ⟨_, Nat.le_refl _, e⟩)⟩

theorem byteVals_append (a b : List UInt8) : byteVals (a ++ b) = byteVals a ++ byteVals b := by simp [byteVals]
theorem u8_cast (x : Nat) : ((UInt8.ofNat (x % 256)).toNat : Int) = (x : Int) % 256 := by
  simp

set_option maxRecDepth 100000 in
set_option maxHeartbeats 1000000 in
theorem num_any (B : Nat) (v : Value) (l : List UInt8) (n size : Nat) (w : World) (hn : n < 2 ^ 32) (hs : size ≤ 4) (h1 : 1 ≤ size) (hl : l.length ≤ 100000) (hB : B ≤ w.heap.size) (hown : OwnsB B w v l) :
    Calls Try.prog 117 #[v, .int .u32 n, .int .i64 size] w fun e w' => ∃ v', e = .returned v' ∧ OwnsB B w' v' (l ++ lowB n size) ∧ Grew w w' v v' := by
  obtain ⟨i0, hi, hz0, hz1, hz2⟩ := info_parts Try.infoU8
  go_enter Try.func117, Try.ntmps117
  go_wp2
  go_loopw [0, 7] (fun v1 sh wr => ∃ j : Nat, j ≤ size ∧ sh = .int .i64 (8 * ((j : Int) - 1)) ∧ (∃ pre, lowB n size = pre ++ lowB n j ∧ OwnsB B wr v1 (l ++ pre)) ∧ Grew w wr v v1) (fun _ sh _ => (intOf sh + 8).toNat)
  case atStart => exact ⟨size, Nat.le_refl _, rfl, ⟨[], rfl, by simpa using hown⟩, Grew.refl _ _⟩
  case round =>
    obtain ⟨j, hj, rfl, ⟨pre, hpre, hown1⟩, hgr⟩ := hrel
    have HP : Hid _ := hpre
    have hlen : pre.length + j = size := by
      have := congrArg List.length hpre
      simp [lowB_length] at this; omega
    clear hpre
    rcases j with _ | j
    · go_wp2
      go_ret
      have := HP.out
      simp only [lowB, List.append_nil] at this
      exact ⟨_, rfl, by rw [this]; exact hown1, hgr⟩
    · have hj4 : j = 0 ∨ j = 1 ∨ j = 2 ∨ j = 3 := by omega
      have hbw : B ≤ wr.heap.size := Nat.le_trans hB hgr.by_.size
      have HR : Hid (∀ x : Int, x = ((n / 256 ^ j : Nat) : Int) % 256 → ∀ v' w1, w1.ownsRow B 5 1 v' ((l ++ pre).length + 1) (byteVals (l ++ pre) ++ [.int .u8 x]) → OwnsB B w1 v' (l ++ (pre ++ [UInt8.ofNat (n / 256 ^ j % 256)]))) := by
        intro x hx v' w1 ho
        have e1 : l ++ (pre ++ [UInt8.ofNat (n / 256 ^ j % 256)]) = (l ++ pre) ++ [UInt8.ofNat (n / 256 ^ j % 256)] := by simp
        unfold OwnsB
        rw [e1, byteVals_append, List.length_append]
        rw [hx] at ho
        simpa [byteVals] using ho
      have HL : Hid (lowB n size = (pre ++ [UInt8.ofNat (n / 256 ^ j % 256)]) ++ lowB n j) := by
        have := HP.out
        simp only [lowB] at this
        show _ = _
        simpa using this
      clear HP
      have hll : (l ++ pre).length ≤ 100004 := by simp; omega
      have HO : Hid (wr.ownsRow B 5 1 _ (l ++ pre).length (byteVals (l ++ pre))) := hown1
      clear hown1 hown
      rcases hj4 with rfl | rfl | rfl | rfl
      all_goals
        go_wp2_with (at_builtin; refine wpList_append_own_at _ rfl (.tmp 15) (.tmp 20) 72 rfl B 5 i0 (.int .u8 0) 1 1 Try.underlying72 hi hz0 hz1 hz2 rfl (by decide) _ _ _ rfl (HO.out.alloc _) ⟨wr.heap.size, 0, none⟩ 1 1 [_] rfl rfl (cell_one_new _ _ _) (by intro u hu; simp at hu; subst hu; rfl) (by unfold maxLen; omega) (by omega) (by simp; omega) ?_; intro v' w1 hown' hgrow _ hat)
        go_roundw
        case rel => exact ⟨_, by omega, rfl, ⟨_, HL.out, HR.out _ (by first | rfl | (simp only [Nat.reducePow]; omega)) _ _ hown'⟩, hgr.trans (Grew.of_alloc hgrow hat)⟩
        case measure => simp [intOf]
end Go.Proofs.Ytkmeingnhaomaaa
