/- The reference's Serialize. -/
import Derived.Test.YtdjmhagclcfnfaaWellGood
namespace Go.Proofs.Ytdjmhagclcfnfaa
open Go.RowKit

def recB (r : Rc) : List UInt8 := if r.free then 2 :: lowB r.block.toNat 2 else 1 :: (lowB r.block.toNat 2 ++ r.data.data.toList)
def recsB (rs : List Rc) : List UInt8 := (rs.map recB).flatten
def aheadB (f t b z : Nat) (rs : List Rc) : List UInt8 := [83, 84, 82, 68] ++ headB f t b z rs.length ++ recsB rs
def serB (f t b z : Nat) (rs : List Rc) : List UInt8 := aheadB f t b z rs ++ lowB (crc (aheadB f t b z rs)) 4

theorem recsB_snoc (rs : List Rc) (r : Rc) : recsB (rs ++ [r]) = recsB rs ++ recB r := by simp [recsB]

/-- Each record of a list that is right. -/
theorem recsOk_at (b z : Int) : ∀ (rs : List Rc) (last : Int), recsOk b z last rs = true → ∀ k (h : k < rs.length), last + k < rs[k].block ∧ rs[k].block < b ∧ (rs[k].data.size : Int) = if rs[k].free then 0 else z
  | [], _, _, k, h => by simp at h
  | r :: rs, last, ho, k, h => by
    simp only [recsOk, Bool.and_eq_true] at ho
    obtain ⟨h1, h2⟩ := ho
    have h1' : last < r.block ∧ r.block < b ∧ (r.data.size : Int) = if r.free then 0 else z := of_decide_eq_true h1
    cases k with
    | zero => simpa using h1'
    | succ k =>
      have := recsOk_at b z rs r.block h2 k (by simpa using h)
      simp only [List.getElem_cons_succ]
      refine ⟨?_, this.2.1, this.2.2⟩
      have h3 := this.1
      have h4 := h1'.1
      simp only [Int.natCast_add, Int.natCast_one]
      omega
theorem recsOk_length (b z : Int) (rs : List Rc) (h : recsOk b z (-1) rs = true) (hb : 0 ≤ b) : (rs.length : Int) ≤ b := by
  cases hl : rs.length with
  | zero => simpa using hb
  | succ n =>
    have := recsOk_at b z rs (-1) h n (by omega)
    have h1 := this.1
    have h2 := this.2.1
    simp only [Int.natCast_add, Int.natCast_one]
    omega
theorem recB_length (r : Rc) (z : Int) (hz : z ≤ 64) (h : (r.data.size : Int) = if r.free then 0 else z) : (recB r).length ≤ 67 := by
  have hs : r.data.data.toList.length = r.data.size := by simp
  unfold recB
  split
  · simp [lowB_length]
  · rename_i hf
    rw [if_neg hf] at h
    rw [List.length_cons, List.length_append, lowB_length, hs]
    omega
theorem recsB_length (b z : Int) (hz : z ≤ 64) : ∀ (rs : List Rc) (last : Int), recsOk b z last rs = true → (recsB rs).length ≤ 67 * rs.length
  | [], _, _ => by simp [recsB]
  | r :: rs, last, h => by
    simp only [recsOk, Bool.and_eq_true] at h
    have h1 : last < r.block ∧ r.block < b ∧ (r.data.size : Int) = if r.free then 0 else z := of_decide_eq_true h.1
    have h2 := recsB_length b z hz rs r.block h.2
    have h3 := recB_length r z hz h1.2.2
    simp only [recsB, List.map_cons, List.flatten_cons, List.length_append, List.length_cons] at *
    omega

/-- The reference's record, of a record that is right. -/
theorem record_any (r : Rc) (w : World) (h0 : 0 ≤ r.block) (h1 : r.block ≤ 65535) (hd : r.data.size ≤ 100000) :
    Calls Try.prog 55 #[.agg #[.bool r.free, .int .i64 r.block, .string r.data]] w fun e w' => e = .returned (.string ⟨(recB r).toArray⟩) ∧ Below w.heap.size w w' := by
  obtain ⟨f, n, d⟩ := r
  obtain ⟨n, rfl⟩ := Int.eq_ofNat_of_zero_le h0
  dsimp only at *
  cases f
  · exact record_full n d w (by omega) hd
  · exact record_free n d w (by omega)

set_option maxRecDepth 100000 in
set_option maxHeartbeats 1000000 in
theorem ser_bad (f t b z : Int) (sv : Value) (rs : List Rc) (w : World) (hr : Recs w.heap.size w sv rs) (hlen : rs.length ≤ 4611686018427387904) (h : (wellHead f t b z && recsOk b z (-1) rs) = false) :
    Calls Try.prog 19 #[.agg #[.int .i64 f, .int .i64 t, .int .i64 b, .int .i64 z, sv]] w fun e w' => e = .returned (.tuple #[.string ⟨#[]⟩, .int .i64 9]) ∧ Below w.heap.size w w' := by
  have hsl : ∃ a l c, sv = .slice a l c := by
    rcases hr with ⟨_, _, _, e⟩ | ⟨b, off, cap, e, _⟩ <;> exact ⟨_, _, _, e⟩
  obtain ⟨a, l, c, rfl⟩ := hsl
  have hW : ∀ w1 : World, Below w.heap.size w w1 → Calls Try.prog 53 #[.agg #[.int .i64 f, .int .i64 t, .int .i64 b, .int .i64 z, .slice a l c]] w1 fun e w' => e = .returned (.bool false) ∧ Below w1.heap.size w1 w' := by
    intro w1 hb1
    cases hh : wellHead f t b z with
    | false => exact well_bad f t b z a l c w1 hh
    | true =>
      rw [hh, Bool.true_and] at h
      have := well_good f t b z (.slice a l c) rs w1 hh (by
        rcases hr.below hb1 (Nat.le_refl _) with e | ⟨b, off, cap, e, h1, h2⟩
        · exact .inl e
        · exact .inr ⟨b, off, cap, e, Nat.lt_of_lt_of_le h1 hb1.size, h2⟩) hlen
      rw [h] at this
      exact this
  clear h hr
  go_enter Try.func19, Try.ntmps19
  go_wp2_with fail
  refine (hW _ ((Below.refl _ _).alloc (Nat.le_refl _) _)).mono ?_
  rintro e w1 ⟨rfl, hb⟩
  go_wp2
  go_ret2
  exact ⟨rfl, ((Below.refl _ _).alloc (Nat.le_refl _) _).trans (hb.mono (by simp))⟩
end Go.Proofs.Ytdjmhagclcfnfaa
