/- What Split answers, purely. -/
import Derived.Test.YtdjmhagclcfnfaaRWrite
namespace Go.Proofs.Ytdjmhagclcfnfaa
open Go.RowKit Go.Shelf

def lenR (r : Rc) : Nat := (recB r).length
def mostR (rs : List Rc) : Nat := rs.foldl (fun m r => max m (lenR r)) 0
theorem mostR_snoc (rs : List Rc) (r : Rc) : mostR (rs ++ [r]) = max (mostR rs) (lenR r) := by simp [mostR, List.foldl_append]
theorem mostR_take (rs : List Rc) (k : Nat) (h : k < rs.length) : mostR (rs.take (k + 1)) = max (mostR (rs.take k)) (lenR rs[k]) := by
  rw [List.take_succ_eq_append_getElem h, mostR_snoc]

/-- Where chunks begin, and how long the last one is, behind so many records. -/
def stepSt (limit : Int) (s : List Nat × Nat) (i : Nat) (r : Rc) : List Nat × Nat :=
  if limit < ((s.2 + lenR r : Nat) : Int) then (s.1 ++ [i], 28 + lenR r) else (s.1, s.2 + lenR r)
def stK (limit : Int) (rs : List Rc) : Nat → List Nat × Nat
  | 0 => ([0], 28)
  | k + 1 => match rs[k]? with
    | none => stK limit rs k
    | some r => stepSt limit (stK limit rs k) k r
theorem stK_succ (limit : Int) (rs : List Rc) (k : Nat) (h : k < rs.length) : stK limit rs (k + 1) = stepSt limit (stK limit rs k) k rs[k] := by
  rw [stK, List.getElem?_eq_getElem h]
/-- They rise. -/
theorem stK_up (limit : Int) (rs : List Rc) : ∀ k, k ≤ rs.length → (∀ x ∈ (stK limit rs k).1, x ≤ k) ∧ (stK limit rs k).1.Pairwise (· ≤ ·) ∧ (stK limit rs k).1.length ≤ k + 1 ∧ 1 ≤ (stK limit rs k).1.length ∧ (stK limit rs k).1[0]? = some 0
  | 0, _ => by simp [stK]
  | k + 1, h => by
    obtain ⟨h1, h2, h3, h4, h5⟩ := stK_up limit rs k (by omega)
    rw [stK_succ limit rs k (by omega)]
    unfold stepSt
    split
    · refine ⟨?_, ?_, ?_, ?_, ?_⟩
      · intro x hx
        rw [List.mem_append, List.mem_singleton] at hx
        rcases hx with hx | rfl
        · have := h1 x hx; omega
        · omega
      · rw [List.pairwise_append]
        refine ⟨h2, by simp, fun x hx y hy => ?_⟩
        rw [List.mem_singleton] at hy
        subst hy
        exact h1 x hx
      · simp only [List.length_append, List.length_singleton]; omega
      · simp only [List.length_append, List.length_singleton]; omega
      · rw [List.getElem?_append_left (by omega)]; exact h5
    · exact ⟨fun x hx => by have := h1 x hx; omega, h2, Nat.le_succ_of_le h3, h4, h5⟩
theorem stK_size (limit : Int) (rs : List Rc) : ∀ k, k ≤ rs.length → (∀ r ∈ rs, lenR r ≤ 67) → (stK limit rs k).2 ≤ 28 + 67 * k
  | 0, _, _ => by simp [stK]
  | k + 1, h, hr => by
    have h1 := stK_size limit rs k (by omega) hr
    have h2 := hr rs[k] (List.getElem_mem (by omega))
    rw [stK_succ limit rs k (by omega)]
    unfold stepSt
    split
    · show 28 + lenR rs[k] ≤ _
      omega
    · show (stK limit rs k).2 + lenR rs[k] ≤ _
      omega

def startsR (limit : Int) (rs : List Rc) : List Nat := (stK limit rs rs.length).1
/-- Where the chunk with this number begins and ends. -/
def endAt (st : List Nat) (n i : Nat) : Nat := (st[i + 1]?).getD n
def partR (st : List Nat) (rs : List Rc) (i : Nat) : List Rc := (rs.take (endAt st rs.length i)).drop (st[i]?.getD 0)
def chunksR (f t b z : Nat) (rs : List Rc) (st : List Nat) : List (List UInt8) := (List.range st.length).map fun i => chunkB f t b z rs.length i st.length (partR st rs i)
def splitR (l : List UInt8) (limit : Int) : Int ⊕ List (List UInt8) :=
  match parseR l with
  | .inl k => .inl k
  | .inr (f, t, b, z, rs) => if limit < ((28 + mostR rs : Nat) : Int) then .inl 12 else .inr (chunksR f t b z rs (startsR limit rs))

theorem endAt_ok (limit : Int) (rs : List Rc) (i : Nat) (h : i < (startsR limit rs).length) : (startsR limit rs)[i] ≤ endAt (startsR limit rs) rs.length i ∧ endAt (startsR limit rs) rs.length i ≤ rs.length := by
  obtain ⟨h1, h2, -, -, -⟩ := stK_up limit rs rs.length (Nat.le_refl _)
  unfold endAt
  by_cases hi : i + 1 < (startsR limit rs).length
  · rw [List.getElem?_eq_getElem hi, Option.getD_some]
    exact ⟨List.pairwise_iff_getElem.1 h2 i (i + 1) h hi (by omega), h1 _ (List.getElem_mem hi)⟩
  · rw [List.getElem?_eq_none (by omega), Option.getD_none]
    exact ⟨h1 _ (List.getElem_mem h), Nat.le_refl _⟩

theorem lastOf_ge (b z : Int) : ∀ (xs : List Rc) (last : Int), recsOk b z last xs = true → last ≤ lastOf last xs
  | [], last, _ => by simp [lastOf]
  | r :: xs, last, h => by
    simp only [recsOk, Bool.and_eq_true] at h
    have h1 : last < r.block ∧ r.block < b ∧ (r.data.size : Int) = if r.free then 0 else z := of_decide_eq_true h.1
    have h2 := lastOf_ge b z xs r.block h.2
    simp only [lastOf]
    omega
/-- A part of records that are right is right. -/
theorem recsOk_part (b z : Int) (rs : List Rc) (h : recsOk b z (-1) rs = true) (i j : Nat) : ∃ last, -1 ≤ last ∧ recsOk b z last ((rs.take j).drop i) = true := by
  have h1 := recsOk_append b z (rs.take j) (-1) (rs.drop j)
  rw [List.take_append_drop, h] at h1
  have h2 : recsOk b z (-1) (rs.take j) = true := by
    cases h3 : recsOk b z (-1) (rs.take j) with
    | true => rfl
    | false => rw [h3] at h1; simp at h1
  have h4 := recsOk_append b z ((rs.take j).take i) (-1) ((rs.take j).drop i)
  rw [List.take_append_drop, h2] at h4
  have h5 := h4.symm
  rw [Bool.and_eq_true] at h5
  exact ⟨_, lastOf_ge b z _ _ h5.1, h5.2⟩
end Go.Proofs.Ytdjmhagclcfnfaa
