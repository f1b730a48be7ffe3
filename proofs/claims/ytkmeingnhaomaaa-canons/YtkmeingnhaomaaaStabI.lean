/- The insertion sort of the library, purely: those alike stay as they stood. -/
import Derived.Test.YtkmeingnhaomaaaStabM
import Derived.Test.YtkmeingnhaomaaaCompM
import Derived.Sort.WalkA
namespace Go.Proofs.Ytkmeingnhaomaaa

theorem swp_array {α : Type} [Inhabited α] (xs : List α) (i j : Nat) (hi : i < xs.length) (hj : j < xs.length) : Sort.swp xs.toArray i j = (swp xs i j).toArray := by
  rw [swp_at xs i j hi hj]
  unfold Sort.swp
  rw [List.getElem!_toArray, List.getElem!_toArray, getElem!_pos xs i hi, getElem!_pos xs j hj]
  simp
theorem swp_down {α : Type} (p r ys : List α) (x : α) (t : Nat) (ht : t < ys.length) : swp (p ++ (ys.take (t + 1) ++ x :: ys.drop (t + 1)) ++ r) (p.length + t + 1) (p.length + t) = p ++ (ys.take t ++ x :: ys.drop t) ++ r := by
  have h := swp_parts (p ++ ys.take t) [] (ys.drop (t + 1) ++ r) ys[t] x
  have e1 : p ++ (ys.take t ++ x :: ys.drop t) ++ r = (p ++ ys.take t) ++ x :: ([] ++ ys[t] :: (ys.drop (t + 1) ++ r)) := by
    rw [List.drop_eq_getElem_cons ht]
    simp only [List.append_assoc, List.cons_append, List.nil_append]
  have e2 : p ++ (ys.take (t + 1) ++ x :: ys.drop (t + 1)) ++ r = (p ++ ys.take t) ++ ys[t] :: ([] ++ x :: (ys.drop (t + 1) ++ r)) := by
    rw [List.take_succ_eq_append_getElem ht]
    simp only [List.append_assoc, List.cons_append, List.nil_append]
  rw [e1, e2, ← h, swp_comm]
  congr 1
  · rw [List.length_append, List.length_take]; omega
  · rw [List.length_append, List.length_take, List.length_nil]; omega
theorem mid_at {α : Type} (p r ys : List α) (x : α) (t : Nat) (ht : t ≤ ys.length) : (p ++ (ys.take t ++ x :: ys.drop t) ++ r)[p.length + t]? = some x := by
  rw [List.append_assoc, List.getElem?_append_right (by omega), List.append_assoc, List.getElem?_append_right (by rw [List.length_take]; omega)]
  rw [show p.length + t - p.length - (ys.take t).length = 0 from by rw [List.length_take]; omega]
  rfl
theorem mid_under {α : Type} (p r ys : List α) (x : α) (t : Nat) (ht : t < ys.length) : (p ++ (ys.take (t + 1) ++ x :: ys.drop (t + 1)) ++ r)[p.length + t]? = some ys[t] := by
  rw [List.append_assoc, List.getElem?_append_right (by omega), List.append_assoc, List.getElem?_append_left (by rw [List.length_take]; omega)]
  rw [show p.length + t - p.length = t from by omega, List.getElem?_take_of_lt (by omega), List.getElem?_eq_getElem ht]
theorem getB {α : Type} [Inhabited α] {xs : List α} {i : Nat} {x : α} (h : xs[i]? = some x) : xs.toArray[i]! = x := by
  rw [List.getElem!_toArray]
  obtain ⟨h1, h2⟩ := List.getElem?_eq_some_iff.1 h
  rw [getElem!_pos xs i h1, h2]

theorem ins_inner {ρ : Type} [Inhabited (ρ × Nat)] (key : ρ → Int) (lt : ρ × Nat → ρ × Nat → Bool) (hlt : ∀ x y, lt x y = decide (key x.1 < key y.1)) (p ys r : List (ρ × Nat)) (x : ρ × Nat) (hy : ys.Pairwise (tlt key)) (htag : ∀ z ∈ ys, z.2 < x.2) :
    ∀ t, t ≤ ys.length → (t = ys.length ∨ ∃ h : t < ys.length, tlt key x ys[t]) → ∃ k, k ≤ ys.length ∧ Sort.insInner lt p.length (p.length + t) (p ++ (ys.take t ++ x :: ys.drop t) ++ r).toArray = (p ++ (ys.take k ++ x :: ys.drop k) ++ r).toArray ∧ (ys.take k ++ x :: ys.drop k).Pairwise (tlt key)
  | 0, h0, hd => ⟨0, h0, insInner_stop lt _ _ _ (.inl (by omega)), ins_sorted (tlt_trans key) h0 hy (.inl rfl) hd⟩
  | t + 1, h0, hd => by
    have g1 := getB (mid_at p r ys x (t + 1) h0)
    have g2 := getB (mid_under p r ys x t (by omega))
    by_cases hl : key x.1 < key (ys[t]).1
    · have e := insInner_go lt p.length (p.length + (t + 1)) (p ++ (ys.take (t + 1) ++ x :: ys.drop (t + 1)) ++ r).toArray (by omega) (by rw [g1, show p.length + (t + 1) - 1 = p.length + t from by omega, g2, hlt]; exact decide_eq_true hl)
      obtain ⟨k, hk, h1, h2⟩ := ins_inner key lt hlt p ys r x hy htag t (by omega) (.inr ⟨by omega, .inl hl⟩)
      refine ⟨k, hk, ?_, h2⟩
      rw [e, ← h1, show p.length + (t + 1) - 1 = p.length + t from by omega, swp_array _ _ _ (by simp; omega) (by simp; omega)]
      congr 2
      exact swp_down p r ys x t (by omega)
    · refine ⟨t + 1, h0, insInner_stop lt _ _ _ (.inr (by rw [g1, show p.length + (t + 1) - 1 = p.length + t from by omega, g2, hlt]; exact decide_eq_false hl)), ins_sorted (tlt_trans key) h0 hy (.inr ⟨by omega, ?_⟩) hd⟩
      have := htag (ys[t]) (List.getElem_mem _)
      show tlt key ys[t] x
      unfold tlt
      omega
theorem ins_outer {ρ : Type} [Inhabited (ρ × Nat)] (key : ρ → Int) (lt : ρ × Nat → ρ × Nat → Bool) (hlt : ∀ x y, lt x y = decide (key x.1 < key y.1)) (p r : List (ρ × Nat)) : ∀ (us zs : List (ρ × Nat)), zs.Pairwise (tlt key) → us.Pairwise (fun x y => x.2 < y.2) → (∀ z ∈ zs, ∀ u ∈ us, z.2 < u.2) →
    ∃ vs, Sort.insOuter lt p.length (p.length + zs.length + us.length) (p.length + zs.length) (p ++ zs ++ us ++ r).toArray = (p ++ vs ++ r).toArray ∧ vs.Perm (zs ++ us) ∧ vs.Pairwise (tlt key)
  | [], zs, hz, _, _ => ⟨zs, by rw [insOuter_stop lt _ _ _ _ (by simp), List.append_nil], by rw [List.append_nil], hz⟩
  | u :: us, zs, hz, hu, hzu => by
    rw [List.pairwise_cons] at hu
    obtain ⟨k, hk, h1, h2⟩ := ins_inner key lt hlt p zs (us ++ r) u hz (fun z hzm => hzu z hzm u (by simp)) zs.length (Nat.le_refl _) (.inl rfl)
    have hl : (zs.take k ++ u :: zs.drop k).length = zs.length + 1 := by simp; omega
    have hm : ∀ z ∈ zs.take k ++ u :: zs.drop k, z = u ∨ z ∈ zs := fun z hz => by
      rcases List.mem_append.1 hz with h | h
      · exact .inr (List.mem_of_mem_take h)
      · rcases List.mem_cons.1 h with h | h
        · exact .inl h
        · exact .inr (List.mem_of_mem_drop h)
    obtain ⟨vs, e, e2, e3⟩ := ins_outer key lt hlt p r us (zs.take k ++ u :: zs.drop k) h2 hu.2 (fun z hz v hv => by
      rcases hm z hz with rfl | h
      · exact hu.1 v hv
      · exact hzu z h v (by simp [hv]))
    refine ⟨vs, ?_, e2.trans ?_, e3⟩
    · rw [insOuter_go lt _ _ _ _ (by simp), ← e, hl]
      rw [List.take_of_length_le (Nat.le_refl _), List.drop_of_length_le (Nat.le_refl _)] at h1
      rw [show p ++ zs ++ u :: us ++ r = p ++ (zs ++ [u]) ++ (us ++ r) from by simp, h1, List.length_cons]
      congr 1
      · omega
      · simp
    · refine (List.Perm.append_right us (ins_perm zs u k)).trans ?_
      rw [List.cons_append]
      exact List.perm_middle.symm
/-- **The insertion sort of a piece: in order, those alike as they stood.** -/
theorem ins_stable {ρ : Type} [Inhabited (ρ × Nat)] (key : ρ → Int) (lt : ρ × Nat → ρ × Nat → Bool) (hlt : ∀ x y, lt x y = decide (key x.1 < key y.1)) (p us r : List (ρ × Nat)) (hu : us.Pairwise (fun x y => x.2 < y.2)) :
    ∃ vs, Sort.insertionSort lt (p ++ us ++ r).toArray p.length (p.length + us.length) = (p ++ vs ++ r).toArray ∧ vs.Perm us ∧ vs.Pairwise (tlt key) := by
  unfold Sort.insertionSort
  rcases us with _ | ⟨u, us⟩
  · exact ⟨[], insOuter_stop lt _ _ _ _ (by simp), List.Perm.refl _, List.Pairwise.nil⟩
  · rw [List.pairwise_cons] at hu
    obtain ⟨vs, e, e2, e3⟩ := ins_outer key lt hlt p r us [u] (List.pairwise_singleton _ _) hu.2 (fun z hz v hv => by
      rw [List.mem_singleton] at hz
      subst hz
      exact hu.1 v hv)
    refine ⟨vs, ?_, e2, e3⟩
    rw [← e, List.length_singleton, List.length_cons]
    congr 1
    · omega
    · simp
end Go.Proofs.Ytkmeingnhaomaaa
