/- How records are cut into pieces, as mathematics. -/
import Derived.Test.YtdjmhagclcfnfaaSplitM
namespace Go.Proofs.Ytdjmhagclcfnfaa

/-- One more record: the pieces that are closed, the open one, its bytes. -/
def cutStep (limit : Int) (s : List (List Rc) × List Rc × Nat) (r : Rc) : List (List Rc) × List Rc × Nat :=
  if limit < ((s.2.2 + lenR r : Nat) : Int) then (s.1 ++ [s.2.1], [r], 28 + lenR r) else (s.1, s.2.1 ++ [r], s.2.2 + lenR r)
def cutS (limit : Int) (rs : List Rc) : List (List Rc) × List Rc × Nat := rs.foldl (cutStep limit) ([], [], 28)
theorem cutS_snoc (limit : Int) (rs : List Rc) (r : Rc) : cutS limit (rs ++ [r]) = cutStep limit (cutS limit rs) r := by simp [cutS, List.foldl_append]

/-- The pieces between starts. -/
def pcs : List Nat → List Rc → List (List Rc)
  | [], _ => []
  | [s], L => [L.drop s]
  | s :: s' :: st, L => (L.take s').drop s :: pcs (s' :: st) L

theorem partR_succ (s : Nat) (st : List Nat) (L : List Rc) (i : Nat) : partR (s :: st) L (i + 1) = partR st L i := by
  simp [partR, endAt]
theorem pcs_eq : ∀ (st : List Nat) (L : List Rc), (List.range st.length).map (partR st L) = pcs st L
  | [], _ => rfl
  | [s], L => by simp [pcs, partR, endAt]
  | s :: s' :: st, L => by
    rw [pcs, ← pcs_eq (s' :: st) L, List.length_cons, List.range_succ_eq_map, List.map_cons, List.map_map]
    congr 1

theorem pcs_snoc (r : Rc) (L : List Rc) : ∀ (st : List Nat), st ≠ [] → (∀ x ∈ st, x ≤ L.length) → pcs (st ++ [L.length]) (L ++ [r]) = pcs st L ++ [[r]]
  | [], h, _ => absurd rfl h
  | [s], _, hx => by
    have := hx s (by simp)
    simp [pcs]
  | s :: s' :: st, _, hx => by
    have h1 := hx s' (by simp)
    rw [List.cons_append, List.cons_append, pcs, pcs, ← List.cons_append, pcs_snoc r L (s' :: st) (by simp) (fun x h => hx x (by simp [h])), List.take_append_of_le_length h1]
    rfl
theorem pcs_more (r : Rc) (L : List Rc) : ∀ (st : List Nat) (ps : List (List Rc)) (cur : List Rc), (∀ x ∈ st, x ≤ L.length) → pcs st L = ps ++ [cur] → pcs st (L ++ [r]) = ps ++ [cur ++ [r]]
  | [], ps, cur, _, h => by simp [pcs] at h
  | [s], ps, cur, hx, h => by
    have h1 := hx s (by simp)
    simp only [pcs] at h ⊢
    cases ps with
    | nil =>
      simp only [List.nil_append, List.cons.injEq, and_true] at h ⊢
      rw [List.drop_append_of_le_length h1, h]
    | cons p ps => simp at h
  | s :: s' :: st, ps, cur, hx, h => by
    have h1 := hx s' (by simp)
    rw [pcs] at h ⊢
    cases ps with
    | nil =>
      simp only [List.nil_append, List.cons.injEq] at h
      cases st with
      | nil => simp [pcs] at h
      | cons a st => simp [pcs] at h
    | cons p ps =>
      simp only [List.cons_append, List.cons.injEq] at h ⊢
      rw [List.take_append_of_le_length h1, pcs_more r L (s' :: st) ps cur (fun x hh => hx x (by simp [hh])) h.2]
      exact ⟨h.1, rfl⟩

theorem cut_starts (limit : Int) (rs : List Rc) : ∀ k, k ≤ rs.length → (cutS limit (rs.take k)).1 ++ [(cutS limit (rs.take k)).2.1] = pcs (stK limit rs k).1 (rs.take k) ∧ (cutS limit (rs.take k)).2.2 = (stK limit rs k).2
  | 0, _ => by simp [cutS, stK, pcs]
  | k + 1, h => by
    obtain ⟨h1, h2⟩ := cut_starts limit rs k (by omega)
    obtain ⟨u1, -, -, u4, -⟩ := stK_up limit rs k (by omega)
    have hl : (rs.take k).length = k := by rw [List.length_take]; omega
    have hne : (stK limit rs k).1 ≠ [] := fun e => by rw [e] at u4; simp at u4
    have hx : ∀ x ∈ (stK limit rs k).1, x ≤ (rs.take k).length := fun x hx => by rw [hl]; exact u1 x hx
    rw [List.take_succ_eq_append_getElem (by omega), cutS_snoc, stK_succ limit rs k (by omega)]
    unfold cutStep stepSt
    rw [h2]
    by_cases hc : limit < (((stK limit rs k).2 + lenR rs[k] : Nat) : Int)
    · rw [if_pos hc, if_pos hc]
      refine ⟨?_, rfl⟩
      have := pcs_snoc rs[k] (rs.take k) _ hne hx
      rw [hl] at this
      simp only []
      rw [this, h1]
    · rw [if_neg hc, if_neg hc]
      exact ⟨(pcs_more rs[k] (rs.take k) _ _ _ hx h1.symm).symm, rfl⟩
/-- The pieces are the parts. -/
theorem cut_parts (limit : Int) (rs : List Rc) : (cutS limit rs).1 ++ [(cutS limit rs).2.1] = (List.range (startsR limit rs).length).map (partR (startsR limit rs) rs) := by
  have h := (cut_starts limit rs rs.length (Nat.le_refl _)).1
  rw [List.take_length] at h
  rw [h, pcs_eq]
  rfl
theorem cut_len (limit : Int) (rs : List Rc) : ((cutS limit rs).1).length ≤ rs.length := by
  have h := congrArg List.length (cut_parts limit rs)
  obtain ⟨-, -, u3, -, -⟩ := stK_up limit rs rs.length (Nat.le_refl _)
  simp only [List.length_append, List.length_cons, List.length_nil, List.length_map, List.length_range] at h
  unfold startsR at h
  omega
theorem cut_fold (limit : Int) : ∀ (xs : List Rc) (s : List (List Rc) × List Rc × Nat), (∀ r ∈ xs, lenR r ≤ 67) → 28 ≤ s.2.2 → (xs.foldl (cutStep limit) s).2.2 ≤ s.2.2 + 67 * xs.length ∧ (xs.foldl (cutStep limit) s).2.1.length ≤ s.2.1.length + xs.length
  | [], s, _, _ => ⟨by simp, by simp⟩
  | x :: xs, s, h, hs => by
    rw [List.foldl_cons]
    have hx := h x (by simp)
    have hc : 28 ≤ (cutStep limit s x).2.2 ∧ (cutStep limit s x).2.2 ≤ s.2.2 + 67 ∧ (cutStep limit s x).2.1.length ≤ s.2.1.length + 1 := by
      unfold cutStep
      split
      · exact ⟨by simp, by simp; omega, by simp⟩
      · exact ⟨by simp; omega, by simp; omega, by simp⟩
    obtain ⟨h1, h2⟩ := cut_fold limit xs (cutStep limit s x) (fun r hr => h r (by simp [hr])) hc.1
    rw [List.length_cons]
    exact ⟨by omega, by omega⟩
theorem cut_small (limit : Int) (rs : List Rc) (h : ∀ r ∈ rs, lenR r ≤ 67) : (cutS limit rs).2.2 ≤ 28 + 67 * rs.length ∧ (cutS limit rs).2.1.length ≤ rs.length := by
  obtain ⟨h1, h2⟩ := cut_fold limit rs ([], [], 28) h (by simp)
  exact ⟨h1, by simpa [cutS] using h2⟩
end Go.Proofs.Ytdjmhagclcfnfaa
