/- The reference's said, Volume and Apply. -/
import Derived.Test.YtdjmhagclcfnfaaClOwn
namespace Go.Proofs.Ytdjmhagclcfnfaa
open Go.RowKit Go.Shelf

/-- The record of a block. -/
def saidR (rs : List Rc) (i : Int) : Option Rc := rs.find? (fun r => r.block == i)
def volOk (cs : List Cl) (b z : Nat) : Bool := decide (cs.length = b) && cs.all (fun c => decide (c.data.size = if c.held then z else 0))

theorem saidR_take (rs : List Rc) (i : Int) (k : Nat) (h : k < rs.length) (ht : saidR (rs.take k) i = none) : (rs[k].block = i → saidR rs i = some rs[k]) ∧ (rs[k].block ≠ i → saidR (rs.take (k + 1)) i = none) := by
  refine ⟨fun e => ?_, fun e => ?_⟩
  · have hd : rs = rs.take k ++ rs[k] :: rs.drop (k + 1) := by rw [← List.drop_eq_getElem_cons h, List.take_append_drop]
    have h1 : saidR (rs.take k ++ rs[k] :: rs.drop (k + 1)) i = some rs[k] := by
      unfold saidR at *
      rw [List.find?_append, ht, Option.none_or, List.find?_cons_of_pos (by simp [e])]
    rw [← hd] at h1
    exact h1
  · unfold saidR at *
    rw [List.take_succ_eq_append_getElem h, List.find?_append, ht]
    simp [e]

set_option maxRecDepth 100000 in
set_option maxHeartbeats 1000000 in
theorem said_any (sv : Value) (rs : List Rc) (i : Int) (w : World) (hR : Recs w.heap.size w sv rs) (hlen : rs.length ≤ 1000000) :
    Calls Try.prog 58 #[sv, .int .i64 i] w fun e w' => w.grownBy w' none ∧
      ((∃ r, saidR rs i = some r ∧ e = .returned (.tuple #[.agg #[.bool r.free, .int .i64 r.block, .string r.data], .bool true])) ∨ (saidR rs i = none ∧ e = .returned (.tuple #[.agg #[.bool false, .int .i64 0, .string ⟨#[]⟩], .bool false]))) := by
  obtain ⟨a, c, rfl⟩ := hR.slice
  have HR : Hid (∀ W, Below w.heap.size w W → _) := fun W h => Recs.below hR h (Nat.le_refl _)
  clear hR
  go_enter Try.func58, Try.ntmps58
  go_wp2
  obtain ⟨W0, hW0⟩ : ∃ W0, W0 = w.alloc (.cells #[.bool false, .int .i64 0, .string ⟨#[]⟩] 34) := ⟨_, rfl⟩
  have hB : Below w.heap.size w W0 := by rw [hW0]; exact (Below.refl _ _).alloc (Nat.le_refl _) _
  have hx : W0.heap[w.heap.size]? = some (.cells #[.bool false, .int .i64 0, .string ⟨#[]⟩] 34 (0, 0)) := by rw [hW0]; exact World.alloc_heap_new _ _
  rw [← hW0]
  have hR0 := HR.out _ hB
  have r0 := boxed_cell (i := 0) (v := .bool false) hx rfl
  have r1 := boxed_cell (i := 1) (v := .int .i64 0) hx rfl
  have r2 := boxed_cell (i := 2) (v := .string ⟨#[]⟩) hx rfl
  have z0 := boxed_frozen (i := 0) hx
  have z1 := boxed_frozen (i := 1) hx
  have z2 := boxed_frozen (i := 2) hx
  have HB : Hid _ := hB
  clear hW0 hB hx HR
  go_loop [6] (fun v => ∃ k : Nat, k ≤ rs.length ∧ v = .int .i64 k ∧ saidR (rs.take k) i = none) (fun v => rs.length - (intOf v).toNat)
  case atStart => exact ⟨0, Nat.zero_le _, rfl, rfl⟩
  case round =>
    obtain ⟨k, hk, rfl, hs⟩ := hrel
    by_cases hlt : k < rs.length
    · obtain ⟨b, off, ha, hb, q0, q1, q2⟩ := hR0.at hlt
      obtain ⟨t1, t2⟩ := saidR_take rs i k hlt hs
      have HT1 : Hid _ := t1
      have HT2 : Hid _ := t2
      subst ha
      clear t1 t2 hs
      generalize rs[k] = r at *
      have hneb : ¬ b = w.heap.size := by omega
      have hneb' : ¬ w.heap.size = b := by omega
      by_cases he : r.block = i
      · have HS : Hid _ := HT1.out he
        clear HT1 HT2
        subst he
        go_wp2
        refine bodyPost_ret (v := .tuple #[.agg #[.bool r.free, .int .i64 r.block, .string r.data], .bool true]) (by simp [results, Try.results58, go_sem, r0, r1, r2]) rfl ?_
        exact ⟨gfresh (gfresh (gfresh (gbelow HB.out) (Nat.le_refl _)) (Nat.le_refl _)) (Nat.le_refl _), .inl ⟨r, HS.out, rfl⟩⟩
      · have HS : Hid _ := HT2.out he
        have e1 : (r.block == i) = false := by simp [he]
        clear HT1 HT2
        go_wp2
        go_round
        case rel => exact ⟨k + 1, by omega, by go_num, HS.out⟩
        case measure => simp [intOf]; omega
    · rw [List.take_of_length_le (by omega)] at hs
      have HS : Hid _ := hs
      clear hs
      go_wp2
      refine bodyPost_ret (v := .tuple #[.agg #[.bool false, .int .i64 0, .string ⟨#[]⟩], .bool false]) (by simp [results, Try.results58, go_sem, r0, r1, r2]) rfl ?_
      exact ⟨gfresh (gfresh (gfresh (gbelow HB.out) (Nat.le_refl _)) (Nat.le_refl _)) (Nat.le_refl _), .inr ⟨HS.out, rfl⟩⟩

set_option maxRecDepth 100000 in
set_option maxHeartbeats 1000000 in
theorem volume_any (sv : Value) (cs : List Cl) (b z : Nat) (w : World) (hR : Cls w.heap.size w sv cs) (hlen : cs.length ≤ 4611686018427387904) (hb : b ≤ 1000) (_hz : z ≤ 1000) :
    Calls Try.prog 57 #[sv, .int .i64 b, .int .i64 z] w fun e w' => e = .returned (.bool (volOk cs b z)) ∧ w' = w := by
  obtain ⟨a, c, rfl⟩ := hR.slice
  have HR : Hid _ := hR
  clear hR
  go_enter Try.func57, Try.ntmps57
  by_cases hl : cs.length = b
  · subst hl
    go_wp2
    go_loop [7] (fun v => ∃ k : Nat, k ≤ cs.length ∧ v = .int .i64 k ∧ (cs.take k).all (fun c => decide (c.data.size = if c.held then z else 0)) = true) (fun v => cs.length - (intOf v).toNat)
    case atStart => exact ⟨0, Nat.zero_le _, rfl, rfl⟩
    case round =>
      obtain ⟨k, hk, rfl, ha⟩ := hrel
      by_cases hlt : k < cs.length
      · obtain ⟨b, off, e, hb', q0, q1⟩ := Cls.at HR.out hlt
        subst e
        have HN : Hid (decide (cs[k].data.size = if cs[k].held then z else 0) = true → (cs.take (k + 1)).all (fun c => decide (c.data.size = if c.held then z else 0)) = true) := fun h => by
          rw [List.take_succ_eq_append_getElem hlt, List.all_append, ha, Bool.true_and, List.all_cons, h]
          rfl
        have HF : Hid (decide (cs[k].data.size = if cs[k].held then z else 0) = false → volOk cs cs.length z = false) := fun h => by
          unfold volOk
          rw [Bool.and_eq_false_iff]
          right
          rw [List.all_eq_false]
          exact ⟨cs[k], List.getElem_mem hlt, by rw [h]; simp⟩
        clear ha
        generalize cs[k] = r at *
        obtain ⟨hh, d⟩ := r
        have hde : d.toList.isEmpty = decide (d.size = 0) := by
          rw [ByteArray.toList_eq]
          cases hd : d.data.toList with
          | nil =>
            have : d.size = 0 := by simpa using congrArg List.length hd
            simp [this]
          | cons x l =>
            have : d.size ≠ 0 := by
              have := congrArg List.length hd
              simp at this
              omega
            simp [this]
        by_cases hgood : d.size = if hh then z else 0
        · have H2 : Hid _ := HN.out (by simpa using hgood)
          clear HN HF
          cases hh
          · have e1 : d.toList.isEmpty = true := by rw [hde]; simpa using hgood
            clear hde
            go_wp2
            go_round
            case rel => exact ⟨k + 1, by omega, by go_num, H2.out⟩
            case measure => simp [intOf]; omega
          · have e1 : ((d.size : Int) != (z : Int)) = false := by simp at hgood; simp [hgood]
            clear hde
            go_wp2
            go_round
            case rel => exact ⟨k + 1, by omega, by go_num, H2.out⟩
            case measure => simp [intOf]; omega
        · have H2 : Hid _ := HF.out (by simpa using hgood)
          clear HN HF
          cases hh
          · have e1 : d.toList.isEmpty = false := by rw [hde]; simpa using hgood
            clear hde
            go_wp2
            go_ret
            exact ⟨by rw [H2.out]; rfl, rfl⟩
          · have e1 : ((d.size : Int) != (z : Int)) = true := by simp at hgood; simp; omega
            clear hde
            go_wp2
            go_ret
            exact ⟨by rw [H2.out]; rfl, rfl⟩
      · rw [List.take_of_length_le (by omega)] at ha
        have H2 : Hid (volOk cs cs.length z = true) := by
          show _ = _
          unfold volOk
          rw [ha]
          simp
        clear ha
        go_wp2
        go_ret
        exact ⟨by rw [H2.out]; rfl, rfl⟩
  · have hv : volOk cs b z = false := by simp [volOk, hl]
    rw [hv]
    have hne : ((cs.length : Int) != (b : Int)) = true := by simp; omega
    go_wp2
    go_ret
    exact ⟨rfl, rfl⟩
end Go.Proofs.Ytdjmhagclcfnfaa
