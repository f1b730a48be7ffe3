/- A stable sort, purely: two in order put into one, one put into those in order. -/
import Derived.ProofKit
namespace Go.Proofs.Ytkmeingnhaomaaa

/-- One put in where it belongs. -/
theorem ins_sorted {α : Type} {R : α → α → Prop} (tr : ∀ x y z, R x y → R y z → R x z) {ys : List α} {x : α} {k : Nat} (hk : k ≤ ys.length) (hy : ys.Pairwise R)
    (h1 : k = 0 ∨ ∃ h : k - 1 < ys.length, R ys[k - 1] x) (h2 : k = ys.length ∨ ∃ h : k < ys.length, R x ys[k]) : (ys.take k ++ x :: ys.drop k).Pairwise R := by
  have hg := List.pairwise_iff_getElem.1 hy
  rw [List.pairwise_append, List.pairwise_cons]
  have hlo : ∀ u ∈ ys.take k, R u x := fun u hu => by
    obtain ⟨i, hi, rfl⟩ := List.mem_iff_getElem.1 hu
    rw [List.length_take] at hi
    rw [List.getElem_take]
    rcases h1 with h1 | ⟨hl, h1⟩
    · omega
    · by_cases he : i = k - 1
      · subst he; exact h1
      · exact tr _ _ _ (hg i (k - 1) (by omega) (by omega) (by omega)) h1
  have hhi : ∀ v ∈ ys.drop k, R x v := fun v hv => by
    obtain ⟨i, hi, rfl⟩ := List.mem_iff_getElem.1 hv
    rw [List.length_drop] at hi
    rw [List.getElem_drop]
    rcases h2 with h2 | ⟨hl, h2⟩
    · omega
    · by_cases he : i = 0
      · subst he; exact h2
      · exact tr _ _ _ h2 (hg k (k + i) (by omega) (by omega) (by omega))
  refine ⟨hy.sublist (List.take_sublist _ _), ⟨hhi, hy.sublist (List.drop_sublist _ _)⟩, fun u hu v hv => ?_⟩
  rcases List.mem_cons.1 hv with rfl | hv
  · exact hlo u hu
  · exact tr _ _ _ (hlo u hu) (hhi v hv)
theorem ins_perm {α : Type} (ys : List α) (x : α) (k : Nat) : (ys.take k ++ x :: ys.drop k).Perm (x :: ys) :=
  (List.perm_middle).trans (by rw [List.take_append_drop])

/-- Two in order, parted where they belong: all of the first parts stand ahead of all of the second parts. -/
theorem sym_cross {α : Type} {R : α → α → Prop} (tr : ∀ x y z, R x y → R y z → R x z) {xs ys : List α} {s k : Nat} (hx : xs.Pairwise R) (hy : ys.Pairwise R) (hs : s ≤ xs.length) (hk : k ≤ ys.length)
    (h1 : s = 0 ∨ k = ys.length ∨ ∃ (h : s - 1 < xs.length) (h' : k < ys.length), R xs[s - 1] ys[k])
    (h2 : s = xs.length ∨ k = 0 ∨ ∃ (h : s < xs.length) (h' : k - 1 < ys.length), R ys[k - 1] xs[s]) :
    ∀ u ∈ xs.take s ++ ys.take k, ∀ v ∈ xs.drop s ++ ys.drop k, R u v := by
  have gx := List.pairwise_iff_getElem.1 hx
  have gy := List.pairwise_iff_getElem.1 hy
  intro u hu v hv
  rcases List.mem_append.1 hu with hu | hu <;> rcases List.mem_append.1 hv with hv | hv <;> obtain ⟨i, hi, rfl⟩ := List.mem_iff_getElem.1 hu <;> obtain ⟨j, hj, rfl⟩ := List.mem_iff_getElem.1 hv <;> rw [List.length_take] at hi <;> rw [List.length_drop] at hj <;> rw [List.getElem_take, List.getElem_drop]
  · exact gx i (s + j) (by omega) (by omega) (by omega)
  · rcases h1 with h1 | h1 | ⟨q1, q2, h1⟩
    · omega
    · omega
    · have a1 : i = s - 1 ∨ R xs[i] xs[s - 1] := by
        by_cases he : i = s - 1
        · exact .inl he
        · exact .inr (gx i (s - 1) (by omega) (by omega) (by omega))
      have a2 : j = 0 ∨ R ys[k] ys[k + j] := by
        by_cases he : j = 0
        · exact .inl he
        · exact .inr (gy k (k + j) (by omega) (by omega) (by omega))
      rcases a1 with rfl | a1 <;> rcases a2 with rfl | a2
      · exact h1
      · exact tr _ _ _ h1 a2
      · exact tr _ _ _ a1 h1
      · exact tr _ _ _ a1 (tr _ _ _ h1 a2)
  · rcases h2 with h2 | h2 | ⟨q1, q2, h2⟩
    · omega
    · omega
    · have a1 : i = k - 1 ∨ R ys[i] ys[k - 1] := by
        by_cases he : i = k - 1
        · exact .inl he
        · exact .inr (gy i (k - 1) (by omega) (by omega) (by omega))
      have a2 : j = 0 ∨ R xs[s] xs[s + j] := by
        by_cases he : j = 0
        · exact .inl he
        · exact .inr (gx s (s + j) (by omega) (by omega) (by omega))
      rcases a1 with rfl | a1 <;> rcases a2 with rfl | a2
      · exact h2
      · exact tr _ _ _ h2 a2
      · exact tr _ _ _ a1 h2
      · exact tr _ _ _ a1 (tr _ _ _ h2 a2)
  · exact gy i (k + j) (by omega) (by omega) (by omega)
/-- .. and so, once each is in order, the whole. -/
theorem sym_whole {α : Type} {R : α → α → Prop} (tr : ∀ x y z, R x y → R y z → R x z) {xs ys lo hi : List α} {s k : Nat} (hx : xs.Pairwise R) (hy : ys.Pairwise R) (hs : s ≤ xs.length) (hk : k ≤ ys.length)
    (h1 : s = 0 ∨ k = ys.length ∨ ∃ (h : s - 1 < xs.length) (h' : k < ys.length), R xs[s - 1] ys[k])
    (h2 : s = xs.length ∨ k = 0 ∨ ∃ (h : s < xs.length) (h' : k - 1 < ys.length), R ys[k - 1] xs[s])
    (pl : lo.Perm (xs.take s ++ ys.take k)) (ph : hi.Perm (xs.drop s ++ ys.drop k)) (sl : lo.Pairwise R) (sh : hi.Pairwise R) : (lo ++ hi).Pairwise R ∧ (lo ++ hi).Perm (xs ++ ys) := by
  have hc := sym_cross tr hx hy hs hk h1 h2
  constructor
  · rw [List.pairwise_append]
    exact ⟨sl, sh, fun u hu v hv => hc u (pl.mem_iff.1 hu) v (ph.mem_iff.1 hv)⟩
  · refine (pl.append ph).trans ?_
    have e1 : xs ++ ys = (xs.take s ++ xs.drop s) ++ (ys.take k ++ ys.drop k) := by rw [List.take_append_drop, List.take_append_drop]
    rw [e1, List.append_assoc, List.append_assoc]
    refine List.Perm.append_left _ ?_
    rw [← List.append_assoc, ← List.append_assoc]
    exact List.Perm.append_right _ List.perm_append_comm

/-- Two that change places. -/
def swp {α : Type} (xs : List α) (i j : Nat) : List α := match xs[i]?, xs[j]? with
  | some x, some y => (xs.set i y).set j x
  | _, _ => xs
theorem swp_length {α : Type} (xs : List α) (i j : Nat) : (swp xs i j).length = xs.length := by
  unfold swp
  split <;> simp
theorem swp_at {α : Type} (xs : List α) (i j : Nat) (hi : i < xs.length) (hj : j < xs.length) : swp xs i j = (xs.set i xs[j]).set j xs[i] := by
  unfold swp
  rw [List.getElem?_eq_getElem hi, List.getElem?_eq_getElem hj]
theorem swp_map {α β : Type} (g : α → β) (xs : List α) (i j : Nat) : (swp xs i j).map g = swp (xs.map g) i j := by
  by_cases hi : i < xs.length
  · by_cases hj : j < xs.length
    · rw [swp_at xs i j hi hj, swp_at _ i j (by rw [List.length_map]; exact hi) (by rw [List.length_map]; exact hj), List.map_set, List.map_set, List.getElem_map, List.getElem_map]
    · unfold swp
      rw [List.getElem?_eq_none (by omega : xs.length ≤ j), List.getElem?_eq_none (by rw [List.length_map]; omega : (xs.map g).length ≤ j)]
      cases xs[i]? <;> cases (xs.map g)[i]? <;> rfl
  · unfold swp
    rw [List.getElem?_eq_none (by omega : xs.length ≤ i), List.getElem?_eq_none (by rw [List.length_map]; omega : (xs.map g).length ≤ i)]
theorem swp_parts {α : Type} (p q r : List α) (x y : α) : swp (p ++ x :: (q ++ y :: r)) p.length (p.length + (q.length + 1)) = p ++ y :: (q ++ x :: r) := by
  unfold swp
  have h1 : (p ++ x :: (q ++ y :: r))[p.length]? = some x := by simp
  have h2 : (p ++ x :: (q ++ y :: r))[p.length + (q.length + 1)]? = some y := by
    rw [List.getElem?_append_right (by omega)]
    simp
  rw [h1, h2]
  simp
theorem swp_comm {α : Type} (xs : List α) (i j : Nat) : swp xs i j = swp xs j i := by
  by_cases hi : i < xs.length
  · by_cases hj : j < xs.length
    · rw [swp_at xs i j hi hj, swp_at xs j i hj hi]
      by_cases he : i = j
      · subst he; rfl
      · rw [List.set_comm _ _ (Ne.symm he)]
    · unfold swp
      rw [List.getElem?_eq_none (by omega : xs.length ≤ j)]
      cases xs[i]? <;> rfl
  · unfold swp
    rw [List.getElem?_eq_none (by omega : xs.length ≤ i)]
    cases xs[j]? <;> rfl
/-- One goes a step up. -/
theorem swp_step {α : Type} (p r ys : List α) (x : α) (t : Nat) (ht : t < ys.length) : swp (p ++ (ys.take t ++ x :: ys.drop t) ++ r) (p.length + t) (p.length + t + 1) = p ++ (ys.take (t + 1) ++ x :: ys.drop (t + 1)) ++ r := by
  have h := swp_parts (p ++ ys.take t) [] (ys.drop (t + 1) ++ r) x ys[t]
  have e1 : p ++ (ys.take t ++ x :: ys.drop t) ++ r = (p ++ ys.take t) ++ x :: ([] ++ ys[t] :: (ys.drop (t + 1) ++ r)) := by
    rw [List.drop_eq_getElem_cons ht]
    simp only [List.append_assoc, List.cons_append, List.nil_append]
  have e2 : p ++ (ys.take (t + 1) ++ x :: ys.drop (t + 1)) ++ r = (p ++ ys.take t) ++ ys[t] :: ([] ++ x :: (ys.drop (t + 1) ++ r)) := by
    rw [List.take_succ_eq_append_getElem ht]
    simp only [List.append_assoc, List.cons_append, List.nil_append]
  rw [e1, e2, ← h]
  congr 1
  · rw [List.length_append, List.length_take]; omega
  · rw [List.length_append, List.length_take, List.length_nil]; omega
/-- Two ranges that change places, up to the one with this number. -/
def swr {α : Type} (u v : List α) (p q r : List α) (t : Nat) : List α := p ++ (v.take t ++ u.drop t) ++ q ++ (u.take t ++ v.drop t) ++ r
theorem swr_step {α : Type} (u v p q r : List α) (t : Nat) (hu : t < u.length) (hv : v.length = u.length) : swp (swr u v p q r t) (p.length + t) (p.length + u.length + q.length + t) = swr u v p q r (t + 1) := by
  have hv' : t < v.length := by omega
  have h := swp_parts (p ++ v.take t) (u.drop (t + 1) ++ q ++ u.take t) (v.drop (t + 1) ++ r) u[t] v[t]
  have e1 : swr u v p q r t = (p ++ v.take t) ++ u[t] :: ((u.drop (t + 1) ++ q ++ u.take t) ++ v[t] :: (v.drop (t + 1) ++ r)) := by
    unfold swr
    rw [List.drop_eq_getElem_cons hu, List.drop_eq_getElem_cons hv']
    simp only [List.append_assoc, List.cons_append]
  have e2 : swr u v p q r (t + 1) = (p ++ v.take t) ++ v[t] :: ((u.drop (t + 1) ++ q ++ u.take t) ++ u[t] :: (v.drop (t + 1) ++ r)) := by
    unfold swr
    rw [List.take_succ_eq_append_getElem hu, List.take_succ_eq_append_getElem hv']
    simp only [List.append_assoc, List.cons_append, List.nil_append]
  rw [e1, e2, ← h]
  congr 1
  · rw [List.length_append, List.length_take]; omega
  · simp only [List.length_append, List.length_take, List.length_drop]; omega
theorem swr_start {α : Type} (u v p q r : List α) : swr u v p q r 0 = p ++ u ++ q ++ v ++ r := by simp [swr]
theorem swr_end {α : Type} (u v p q r : List α) (hv : v.length = u.length) : swr u v p q r u.length = p ++ v ++ q ++ u ++ r := by
  unfold swr
  rw [List.take_of_length_le (Nat.le_of_eq hv), List.drop_of_length_le (Nat.le_refl _), List.take_of_length_le (Nat.le_refl _), List.drop_of_length_le (Nat.le_of_eq hv)]
  simp
end Go.Proofs.Ytkmeingnhaomaaa
