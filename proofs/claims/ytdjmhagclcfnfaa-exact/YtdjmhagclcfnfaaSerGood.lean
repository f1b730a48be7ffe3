/- The reference's Serialize, of a stream that is well made. -/
import Derived.Test.YtdjmhagclcfnfaaSer
namespace Go.Proofs.Ytdjmhagclcfnfaa
open Go.RowKit

theorem Recs.moved {W W' : World} {sv : Value} {rs : List Rc} (h : Recs W.heap.size W sv rs) (hb : Below W.heap.size W W') : Recs W'.heap.size W' sv rs := by
  rcases h.below hb (Nat.le_refl _) with e | ⟨b, off, cap, e, h1, h2⟩
  · exact .inl e
  · exact .inr ⟨b, off, cap, e, Nat.lt_of_lt_of_le h1 hb.size, h2⟩

theorem Recs.slice {B : Nat} {W : World} {sv : Value} {rs : List Rc} (h : Recs B W sv rs) : ∃ a cap, sv = .slice a rs.length cap := by
  rcases h with ⟨rfl, a, cap, e⟩ | ⟨b, off, cap, e, _⟩
  · exact ⟨a, cap, e⟩
  · exact ⟨_, _, e⟩
/-- The cells of one of the records. -/
theorem Recs.at {B : Nat} {W : World} {a : Option Addr} {l cap : Nat} {rs : List Rc} (h : Recs B W (.slice a l cap) rs) {k : Nat} (hk : k < rs.length) :
    ∃ b off, a = some ⟨b, off, none⟩ ∧ b < B ∧ W.cell? ⟨b, off + k * 3, none⟩ = some (.bool rs[k].free) ∧ W.cell? ⟨b, off + k * 3 + 1, none⟩ = some (.int .i64 rs[k].block) ∧ W.cell? ⟨b, off + k * 3 + 2, none⟩ = some (.string rs[k].data) := by
  rcases h with ⟨rfl, _⟩ | ⟨b, off, cap, e, hb, hc⟩
  · simp at hk
  · simp only [Value.slice.injEq] at e
    exact ⟨b, off, e.1, hb, hc k hk⟩
theorem recsB_take_length (b z : Int) (hz : z ≤ 64) (rs : List Rc) (last : Int) (h : recsOk b z last rs = true) (k : Nat) : (recsB (rs.take k)).length ≤ 67 * rs.length := by
  have h1 := recsOk_append b z (rs.take k) last (rs.drop k)
  rw [List.take_append_drop, h] at h1
  have h2 := recsB_length b z hz (rs.take k) last (by
    cases h3 : recsOk b z last (rs.take k) with
    | true => rfl
    | false => rw [h3] at h1; simp at h1)
  have h4 : (rs.take k).length ≤ rs.length := by simp [List.length_take]; omega
  omega
theorem headB_length (f t b z n : Nat) : (headB f t b z n).length = 14 := by simp [headB, lowB_length]

theorem bapp (a b : List UInt8) : (⟨a.toArray⟩ ++ ⟨b.toArray⟩ : ByteArray) = ⟨(a ++ b).toArray⟩ := by apply ByteArray.ext; simp

theorem check_list (L : List UInt8) (w : World) (hs : L.length ≤ 100000) :
    Calls Try.prog 56 #[.string ⟨L.toArray⟩] w fun e w' => e = .returned (.string ⟨(lowB (crc L) 4).toArray⟩) ∧ Below w.heap.size w w' :=
  check_any ⟨L.toArray⟩ w hs

set_option maxRecDepth 100000 in
set_option maxHeartbeats 2000000 in
theorem ser_good (f t b z : Nat) (sv : Value) (rs : List Rc) (w : World) (hr : Recs w.heap.size w sv rs) (hw : wellHead f t b z = true) (ho : recsOk b z (-1) rs = true) :
    Calls Try.prog 19 #[.agg #[.int .i64 f, .int .i64 t, .int .i64 b, .int .i64 z, sv]] w fun e w' => e = .returned (.tuple #[.string ⟨(serB f t b z rs).toArray⟩, .int .i64 0]) ∧ Below w.heap.size w w' := by
  obtain ⟨h1, h2, h3, h4, h5, h6, h7, h8, h9⟩ : (0 : Int) ≤ f ∧ (f : Int) ≤ 2147483647 ∧ (1 : Int) ≤ t ∧ (t : Int) ≤ 2147483647 ∧ (f : Int) ≠ t ∧ (1 : Int) ≤ b ∧ (b : Int) ≤ 100 ∧ (1 : Int) ≤ z ∧ (z : Int) ≤ 64 := of_decide_eq_true hw
  have hn : rs.length ≤ 100 := by have := recsOk_length b z rs ho (by omega); omega
  have hrb := recsB_length b z h9 rs (-1) ho
  have hat := recsOk_at b z rs (-1) ho
  have HW : ∀ w1 : World, Below w.heap.size w w1 → Calls Try.prog 53 #[.agg #[.int .i64 f, .int .i64 t, .int .i64 b, .int .i64 z, sv]] w1 fun e w' => e = .returned (.bool true) ∧ Below w1.heap.size w1 w' := by
    intro w1 hb1
    have := well_good f t b z sv rs w1 hw (hr.moved hb1) (by omega)
    rw [ho] at this
    exact this
  obtain ⟨a, cap, rfl⟩ := hr.slice
  have hat' : ∀ k (h : k < rs.length), 0 ≤ rs[k].block ∧ rs[k].block ≤ 65535 ∧ rs[k].data.size ≤ 100000 := by
    intro k h
    have := hat k h
    refine ⟨by omega, by omega, ?_⟩
    have h3 := this.2.2
    split at h3 <;> omega
  clear hat
  have HA : Hid _ := hat'
  have HWW : Hid _ := HW
  clear hat' HW
  go_enter Try.func19, Try.ntmps19
  go_wp2_with fail
  refine (HWW.out _ ((Below.refl _ _).alloc (Nat.le_refl _) _)).mono ?_
  rintro e w1 ⟨rfl, hb⟩
  generalize hO : (Obj.cells #[.int .i64 f, .int .i64 t, .int .i64 b, .int .i64 z, .slice a rs.length cap] 24) = O at *
  have hB0 : Below w.heap.size w (w.alloc O) := (Below.refl _ _).alloc (Nat.le_refl _) _
  have c0 : (w.alloc O).cell? ⟨w.heap.size, 0, none⟩ = some (.int .i64 f) := by subst hO; simp [go_sem]
  have c1 : (w.alloc O).cell? ⟨w.heap.size, 1, none⟩ = some (.int .i64 t) := by subst hO; simp [go_sem]
  have c2 : (w.alloc O).cell? ⟨w.heap.size, 2, none⟩ = some (.int .i64 b) := by subst hO; simp [go_sem]
  have c3 : (w.alloc O).cell? ⟨w.heap.size, 3, none⟩ = some (.int .i64 z) := by subst hO; simp [go_sem]
  have c4 : (w.alloc O).cell? ⟨w.heap.size, 4, none⟩ = some (.slice a rs.length cap) := by subst hO; simp [go_sem]
  have hsz : w.heap.size < (w.alloc O).heap.size := by simp
  clear hO
  generalize w.alloc O = W0 at *
  have d0 := (hb.cell (p := ⟨w.heap.size, 0, none⟩) hsz).trans c0
  have d1 := (hb.cell (p := ⟨w.heap.size, 1, none⟩) hsz).trans c1
  have d2 := (hb.cell (p := ⟨w.heap.size, 2, none⟩) hsz).trans c2
  have d3 := (hb.cell (p := ⟨w.heap.size, 3, none⟩) hsz).trans c3
  have d4 := (hb.cell (p := ⟨w.heap.size, 4, none⟩) hsz).trans c4
  have hlb := headB_length f t b z rs.length
  go_wp2_with (go_at_call 54; refine (head_any f t b z rs.length _ _ (by omega) (by omega) (by omega) (by omega) (by omega) a rs.length cap rfl).mono ?_; rintro e w2 ⟨rfl, hb2⟩)
  clear d0 d1 d2 d3
  replace hb2 : Below W0.heap.size W0 w2 := keepB hb hb2
  have HP : Hid (∀ l : List UInt8, ⟨#[83, 84, 82, 68]⟩ ++ (⟨l.toArray⟩ : ByteArray) = ⟨([83, 84, 82, 68] ++ l).toArray⟩) := fun l => by apply ByteArray.ext; simp
  rw [HP.out]
  go_loopw [5, 6] (fun tx i wr => ∃ k : Nat, k ≤ rs.length ∧ i = .int .i64 k ∧ tx = .string ⟨([83, 84, 82, 68] ++ headB f t b z rs.length ++ recsB (rs.take k)).toArray⟩ ∧ Below W0.heap.size W0 wr) (fun _ i _ => rs.length - (intOf i).toNat)
  case atStart => exact ⟨0, Nat.zero_le _, rfl, by simp [recsB], hb2⟩
  case round =>
    obtain ⟨k, hk, rfl, rfl, hB⟩ := hrel
    have g4 := (hB.cell (p := ⟨w.heap.size, 4, none⟩) hsz).trans c4
    have hsw : w.heap.size < wr.heap.size := Nat.lt_of_lt_of_le hsz hB.size
    have hLl : ([83, 84, 82, 68] ++ headB f t b z rs.length ++ recsB (rs.take k)).length ≤ 10000 := by
      have := recsB_take_length b z h9 rs (-1) ho k
      rw [List.length_append, List.length_append, hlb]
      simp only [List.length_cons, List.length_nil]
      omega
    by_cases hlt : k < rs.length
    · obtain ⟨bb, off, ha, hbb, q0, q1, q2⟩ := hr.at hlt
      subst ha
      have hB2 := hB0.trans (hB.mono (Nat.le_of_lt hsz))
      replace q0 := (hB2.cell (p := ⟨bb, off + k * 3, none⟩) hbb).trans q0
      replace q1 := (hB2.cell (p := ⟨bb, off + k * 3 + 1, none⟩) hbb).trans q1
      replace q2 := (hB2.cell (p := ⟨bb, off + k * 3 + 2, none⟩) hbb).trans q2
      have hrk := HA.out k hlt
      have hrl : (recB rs[k]).length ≤ 67 := recB_length _ z h9 (recsOk_at b z rs (-1) ho k hlt).2.2
      have HT : Hid (recsB (rs.take (k + 1)) = recsB (rs.take k) ++ recB rs[k]) := by
        show _ = _
        rw [List.take_succ_eq_append_getElem hlt, recsB_snoc]
      generalize rs[k] = r at *
      generalize hL : [83, 84, 82, 68] ++ headB f t b z rs.length ++ recsB (rs.take k) = L at *
      have HLL : Hid _ := hL
      clear hL
      go_wp2_with (go_at_call 55; refine (record_any r _ hrk.1 hrk.2.1 hrk.2.2).mono ?_; rintro e w3 ⟨rfl, hb3⟩)
      go_roundw
      case rel =>
        have hfin : Value.string (⟨L.toArray⟩ ++ ⟨(recB r).toArray⟩) = Value.string ⟨([83, 84, 82, 68] ++ headB f t b z rs.length ++ recsB (rs.take (k + 1))).toArray⟩ := by
          rw [HT.out, ← List.append_assoc, HLL.out]
          exact congrArg Value.string (by apply ByteArray.ext; simp)
        (repeat apply Exists.intro); exact ⟨⟨k + 1, by omega, by go_num, hfin, keepB hB hb3⟩, rfl⟩
      case measure => simp [intOf]; omega
    · obtain rfl : k = rs.length := by omega
      rw [List.take_length] at hLl
      rw [List.take_length]
      have HS : Hid (serB f t b z rs = ([83, 84, 82, 68] ++ headB f t b z rs.length ++ recsB rs) ++ lowB (crc ([83, 84, 82, 68] ++ headB f t b z rs.length ++ recsB rs)) 4) := rfl
      generalize [83, 84, 82, 68] ++ headB f t b z rs.length ++ recsB rs = L at *
      have hl4 := lowB_length (crc L) 4
      go_wp2_with (go_at_call 56; refine (check_list L _ (by omega)).mono ?_; rintro e w3 ⟨rfl, hb3⟩)
      go_ret2
      rw [HS.out]
      exact ⟨by simp [bapp], hB0.trans ((keepB hB hb3).mono (Nat.le_of_lt hsz))⟩
end Go.Proofs.Ytdjmhagclcfnfaa
