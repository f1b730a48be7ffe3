/- StabM, StabI, PStab1, PStab2, StabN -/
import Derived.ProofKit
import Derived.Test.YtkmeingnhaomaaaCompM
import Derived.Sort.WalkA
import Derived.Test.YtkmeingnhaomaaaWell
import Derived.Shelf.SlSortCmp.KitK
import Derived.Deep.LoopGhost
/- A stable sort, purely: two in order put into one, one put into those in order. -/
namespace Go.Proofs.Ytkmeingnhaomaaa

/-- One put in where it belongs. -/
theorem ins_sorted {α : Type} {R : α → α → Prop} (tr : ∀ x y z, R x y → R y z → R x z) {ys : List α} {x : α} {k : Nat} (hk : k ≤ ys.length) (hy : ys.Pairwise R)
    (h1 : k = 0 ∨ ∃ h : k - 1 < ys.length, R ys[k - 1] x) (h2 : k = ys.length ∨ ∃ h : k < ys.length, R x ys[k]) : (ys.take k ++ x :: ys.drop k).Pairwise R := by
  have hg := List.pairwise_iff_getElem.1 hy
  rw [List.pairwise_append, List.pairwise_cons]
  have hlo : ∀ u ∈ ys.take k, R u x := fun u hu => by
    obtain ⟨i, hi, rfl⟩ := List.mem_iff_getElem.1 hu
    rw [List.length_take] at hi
    rw [List.getElem_take]
    rcases h1 with h1 | ⟨hl, h1⟩
    · omega
    · by_cases he : i = k - 1
      · subst he; exact h1
      · exact tr _ _ _ (hg i (k - 1) (by omega) (by omega) (by omega)) h1
  have hhi : ∀ v ∈ ys.drop k, R x v := fun v hv => by
    obtain ⟨i, hi, rfl⟩ := List.mem_iff_getElem.1 hv
    rw [List.length_drop] at hi
    rw [List.getElem_drop]
    rcases h2 with h2 | ⟨hl, h2⟩
    · omega
    · by_cases he : i = 0
      · subst he; exact h2
      · exact tr _ _ _ h2 (hg k (k + i) (by omega) (by omega) (by omega))
  refine ⟨hy.sublist (List.take_sublist _ _), ⟨hhi, hy.sublist (List.drop_sublist _ _)⟩, fun u hu v hv => ?_⟩
  rcases List.mem_cons.1 hv with rfl | hv
  · exact hlo u hu
  · exact tr _ _ _ (hlo u hu) (hhi v hv)
theorem ins_perm {α : Type} (ys : List α) (x : α) (k : Nat) : (ys.take k ++ x :: ys.drop k).Perm (x :: ys) :=
  (List.perm_middle).trans (by rw [List.take_append_drop])

/-- Two in order, parted where they belong: all of the first parts stand ahead of all of the second parts. -/
theorem sym_cross {α : Type} {R : α → α → Prop} (tr : ∀ x y z, R x y → R y z → R x z) {xs ys : List α} {s k : Nat} (hx : xs.Pairwise R) (hy : ys.Pairwise R) (hs : s ≤ xs.length) (hk : k ≤ ys.length)
    (h1 : s = 0 ∨ k = ys.length ∨ ∃ (h : s - 1 < xs.length) (h' : k < ys.length), R xs[s - 1] ys[k])
    (h2 : s = xs.length ∨ k = 0 ∨ ∃ (h : s < xs.length) (h' : k - 1 < ys.length), R ys[k - 1] xs[s]) :
    ∀ u ∈ xs.take s ++ ys.take k, ∀ v ∈ xs.drop s ++ ys.drop k, R u v := by
  have gx := List.pairwise_iff_getElem.1 hx
  have gy := List.pairwise_iff_getElem.1 hy
  intro u hu v hv
  rcases List.mem_append.1 hu with hu | hu <;> rcases List.mem_append.1 hv with hv | hv <;> obtain ⟨i, hi, rfl⟩ := List.mem_iff_getElem.1 hu <;> obtain ⟨j, hj, rfl⟩ := List.mem_iff_getElem.1 hv <;> rw [List.length_take] at hi <;> rw [List.length_drop] at hj <;> rw [List.getElem_take, List.getElem_drop]
  · exact gx i (s + j) (by omega) (by omega) (by omega)
  · rcases h1 with h1 | h1 | ⟨q1, q2, h1⟩
    · omega
    · omega
    · have a1 : i = s - 1 ∨ R xs[i] xs[s - 1] := by
        by_cases he : i = s - 1
        · exact .inl he
        · exact .inr (gx i (s - 1) (by omega) (by omega) (by omega))
      have a2 : j = 0 ∨ R ys[k] ys[k + j] := by
        by_cases he : j = 0
        · exact .inl he
        · exact .inr (gy k (k + j) (by omega) (by omega) (by omega))
      rcases a1 with rfl | a1 <;> rcases a2 with rfl | a2
      · exact h1
      · exact tr _ _ _ h1 a2
      · exact tr _ _ _ a1 h1
      · exact tr _ _ _ a1 (tr _ _ _ h1 a2)
  · rcases h2 with h2 | h2 | ⟨q1, q2, h2⟩
    · omega
    · omega
    · have a1 : i = k - 1 ∨ R ys[i] ys[k - 1] := by
        by_cases he : i = k - 1
        · exact .inl he
        · exact .inr (gy i (k - 1) (by omega) (by omega) (by omega))
      have a2 : j = 0 ∨ R xs[s] xs[s + j] := by
        by_cases he : j = 0
        · exact .inl he
        · exact .inr (gx s (s + j) (by omega) (by omega) (by omega))
      rcases a1 with rfl | a1 <;> rcases a2 with rfl | a2
      · exact h2
      · exact tr _ _ _ h2 a2
      · exact tr _ _ _ a1 h2
      · exact tr _ _ _ a1 (tr _ _ _ h2 a2)
  · exact gy i (k + j) (by omega) (by omega) (by omega)
/-- .. and so, once each is in order, the whole. -/
theorem sym_whole {α : Type} {R : α → α → Prop} (tr : ∀ x y z, R x y → R y z → R x z) {xs ys lo hi : List α} {s k : Nat} (hx : xs.Pairwise R) (hy : ys.Pairwise R) (hs : s ≤ xs.length) (hk : k ≤ ys.length)
    (h1 : s = 0 ∨ k = ys.length ∨ ∃ (h : s - 1 < xs.length) (h' : k < ys.length), R xs[s - 1] ys[k])
    (h2 : s = xs.length ∨ k = 0 ∨ ∃ (h : s < xs.length) (h' : k - 1 < ys.length), R ys[k - 1] xs[s])
    (pl : lo.Perm (xs.take s ++ ys.take k)) (ph : hi.Perm (xs.drop s ++ ys.drop k)) (sl : lo.Pairwise R) (sh : hi.Pairwise R) : (lo ++ hi).Pairwise R ∧ (lo ++ hi).Perm (xs ++ ys) := by
  have hc := sym_cross tr hx hy hs hk h1 h2
  constructor
  · rw [List.pairwise_append]
    exact ⟨sl, sh, fun u hu v hv => hc u (pl.mem_iff.1 hu) v (ph.mem_iff.1 hv)⟩
  · refine (pl.append ph).trans ?_
    have e1 : xs ++ ys = (xs.take s ++ xs.drop s) ++ (ys.take k ++ ys.drop k) := by rw [List.take_append_drop, List.take_append_drop]
    rw [e1, List.append_assoc, List.append_assoc]
    refine List.Perm.append_left _ ?_
    rw [← List.append_assoc, ← List.append_assoc]
    exact List.Perm.append_right _ List.perm_append_comm

/-- Two that change places. -/
def swp {α : Type} (xs : List α) (i j : Nat) : List α := match xs[i]?, xs[j]? with
  | some x, some y => (xs.set i y).set j x
  | _, _ => xs
theorem swp_length {α : Type} (xs : List α) (i j : Nat) : (swp xs i j).length = xs.length := by
  unfold swp
  split <;> simp
theorem swp_at {α : Type} (xs : List α) (i j : Nat) (hi : i < xs.length) (hj : j < xs.length) : swp xs i j = (xs.set i xs[j]).set j xs[i] := by
  unfold swp
  rw [List.getElem?_eq_getElem hi, List.getElem?_eq_getElem hj]
theorem swp_map {α β : Type} (g : α → β) (xs : List α) (i j : Nat) : (swp xs i j).map g = swp (xs.map g) i j := by
  by_cases hi : i < xs.length
  · by_cases hj : j < xs.length
    · rw [swp_at xs i j hi hj, swp_at _ i j (by rw [List.length_map]; exact hi) (by rw [List.length_map]; exact hj), List.map_set, List.map_set, List.getElem_map, List.getElem_map]
    · unfold swp
      rw [List.getElem?_eq_none (by omega : xs.length ≤ j), List.getElem?_eq_none (by rw [List.length_map]; omega : (xs.map g).length ≤ j)]
      cases xs[i]? <;> cases (xs.map g)[i]? <;> rfl
  · unfold swp
    rw [List.getElem?_eq_none (by omega : xs.length ≤ i), List.getElem?_eq_none (by rw [List.length_map]; omega : (xs.map g).length ≤ i)]
theorem swp_parts {α : Type} (p q r : List α) (x y : α) : swp (p ++ x :: (q ++ y :: r)) p.length (p.length + (q.length + 1)) = p ++ y :: (q ++ x :: r) := by
  unfold swp
  have h1 : (p ++ x :: (q ++ y :: r))[p.length]? = some x := by simp
  have h2 : (p ++ x :: (q ++ y :: r))[p.length + (q.length + 1)]? = some y := by
    rw [List.getElem?_append_right (by omega)]
    simp
  rw [h1, h2]
  simp
theorem swp_comm {α : Type} (xs : List α) (i j : Nat) : swp xs i j = swp xs j i := by
  by_cases hi : i < xs.length
  · by_cases hj : j < xs.length
    · rw [swp_at xs i j hi hj, swp_at xs j i hj hi]
      by_cases he : i = j
      · subst he; rfl
      · rw [List.set_comm _ _ (Ne.symm he)]
    · unfold swp
      rw [List.getElem?_eq_none (by omega : xs.length ≤ j)]
      cases xs[i]? <;> rfl
  · unfold swp
    rw [List.getElem?_eq_none (by omega : xs.length ≤ i)]
    cases xs[j]? <;> rfl
/-- One goes a step up. -/
theorem swp_step {α : Type} (p r ys : List α) (x : α) (t : Nat) (ht : t < ys.length) : swp (p ++ (ys.take t ++ x :: ys.drop t) ++ r) (p.length + t) (p.length + t + 1) = p ++ (ys.take (t + 1) ++ x :: ys.drop (t + 1)) ++ r := by
  have h := swp_parts (p ++ ys.take t) [] (ys.drop (t + 1) ++ r) x ys[t]
  have e1 : p ++ (ys.take t ++ x :: ys.drop t) ++ r = (p ++ ys.take t) ++ x :: ([] ++ ys[t] :: (ys.drop (t + 1) ++ r)) := by
    rw [List.drop_eq_getElem_cons ht]
    simp only [List.append_assoc, List.cons_append, List.nil_append]
  have e2 : p ++ (ys.take (t + 1) ++ x :: ys.drop (t + 1)) ++ r = (p ++ ys.take t) ++ ys[t] :: ([] ++ x :: (ys.drop (t + 1) ++ r)) := by
    rw [List.take_succ_eq_append_getElem ht]
    simp only [List.append_assoc, List.cons_append, List.nil_append]
  rw [e1, e2, ← h]
  congr 1
  · rw [List.length_append, List.length_take]; omega
  · rw [List.length_append, List.length_take, List.length_nil]; omega
/-- Two ranges that change places, up to the one with this number. -/
def swr {α : Type} (u v : List α) (p q r : List α) (t : Nat) : List α := p ++ (v.take t ++ u.drop t) ++ q ++ (u.take t ++ v.drop t) ++ r
theorem swr_step {α : Type} (u v p q r : List α) (t : Nat) (hu : t < u.length) (hv : v.length = u.length) : swp (swr u v p q r t) (p.length + t) (p.length + u.length + q.length + t) = swr u v p q r (t + 1) := by
  have hv' : t < v.length := by omega
  have h := swp_parts (p ++ v.take t) (u.drop (t + 1) ++ q ++ u.take t) (v.drop (t + 1) ++ r) u[t] v[t]
  have e1 : swr u v p q r t = (p ++ v.take t) ++ u[t] :: ((u.drop (t + 1) ++ q ++ u.take t) ++ v[t] :: (v.drop (t + 1) ++ r)) := by
    unfold swr
    rw [List.drop_eq_getElem_cons hu, List.drop_eq_getElem_cons hv']
    simp only [List.append_assoc, List.cons_append]
  have e2 : swr u v p q r (t + 1) = (p ++ v.take t) ++ v[t] :: ((u.drop (t + 1) ++ q ++ u.take t) ++ u[t] :: (v.drop (t + 1) ++ r)) := by
    unfold swr
    rw [List.take_succ_eq_append_getElem hu, List.take_succ_eq_append_getElem hv']
    simp only [List.append_assoc, List.cons_append, List.nil_append]
  rw [e1, e2, ← h]
  congr 1
  · rw [List.length_append, List.length_take]; omega
  · simp only [List.length_append, List.length_take, List.length_drop]; omega
theorem swr_start {α : Type} (u v p q r : List α) : swr u v p q r 0 = p ++ u ++ q ++ v ++ r := by simp [swr]
theorem swr_end {α : Type} (u v p q r : List α) (hv : v.length = u.length) : swr u v p q r u.length = p ++ v ++ q ++ u ++ r := by
  unfold swr
  rw [List.take_of_length_le (Nat.le_of_eq hv), List.drop_of_length_le (Nat.le_refl _), List.take_of_length_le (Nat.le_refl _), List.drop_of_length_le (Nat.le_of_eq hv)]
  simp
end Go.Proofs.Ytkmeingnhaomaaa
/- The insertion sort of the library, purely: those alike stay as they stood. -/
namespace Go.Proofs.Ytkmeingnhaomaaa

theorem swp_array {α : Type} [Inhabited α] (xs : List α) (i j : Nat) (hi : i < xs.length) (hj : j < xs.length) : Sort.swp xs.toArray i j = (swp xs i j).toArray := by
  rw [swp_at xs i j hi hj]
  unfold Sort.swp
  rw [List.getElem!_toArray, List.getElem!_toArray, getElem!_pos xs i hi, getElem!_pos xs j hj]
  simp
theorem swp_down {α : Type} (p r ys : List α) (x : α) (t : Nat) (ht : t < ys.length) : swp (p ++ (ys.take (t + 1) ++ x :: ys.drop (t + 1)) ++ r) (p.length + t + 1) (p.length + t) = p ++ (ys.take t ++ x :: ys.drop t) ++ r := by
  have h := swp_parts (p ++ ys.take t) [] (ys.drop (t + 1) ++ r) ys[t] x
  have e1 : p ++ (ys.take t ++ x :: ys.drop t) ++ r = (p ++ ys.take t) ++ x :: ([] ++ ys[t] :: (ys.drop (t + 1) ++ r)) := by
    rw [List.drop_eq_getElem_cons ht]
    simp only [List.append_assoc, List.cons_append, List.nil_append]
  have e2 : p ++ (ys.take (t + 1) ++ x :: ys.drop (t + 1)) ++ r = (p ++ ys.take t) ++ ys[t] :: ([] ++ x :: (ys.drop (t + 1) ++ r)) := by
    rw [List.take_succ_eq_append_getElem ht]
    simp only [List.append_assoc, List.cons_append, List.nil_append]
  rw [e1, e2, ← h, swp_comm]
  congr 1
  · rw [List.length_append, List.length_take]; omega
  · rw [List.length_append, List.length_take, List.length_nil]; omega
theorem mid_at {α : Type} (p r ys : List α) (x : α) (t : Nat) (ht : t ≤ ys.length) : (p ++ (ys.take t ++ x :: ys.drop t) ++ r)[p.length + t]? = some x := by
  rw [List.append_assoc, List.getElem?_append_right (by omega), List.append_assoc, List.getElem?_append_right (by rw [List.length_take]; omega)]
  rw [show p.length + t - p.length - (ys.take t).length = 0 from by rw [List.length_take]; omega]
  rfl
theorem mid_under {α : Type} (p r ys : List α) (x : α) (t : Nat) (ht : t < ys.length) : (p ++ (ys.take (t + 1) ++ x :: ys.drop (t + 1)) ++ r)[p.length + t]? = some ys[t] := by
  rw [List.append_assoc, List.getElem?_append_right (by omega), List.append_assoc, List.getElem?_append_left (by rw [List.length_take]; omega)]
  rw [show p.length + t - p.length = t from by omega, List.getElem?_take_of_lt (by omega), List.getElem?_eq_getElem ht]
theorem getB {α : Type} [Inhabited α] {xs : List α} {i : Nat} {x : α} (h : xs[i]? = some x) : xs.toArray[i]! = x := by
  rw [List.getElem!_toArray]
  obtain ⟨h1, h2⟩ := List.getElem?_eq_some_iff.1 h
  rw [getElem!_pos xs i h1, h2]

theorem ins_inner {ρ : Type} [Inhabited (ρ × Nat)] (key : ρ → Int) (lt : ρ × Nat → ρ × Nat → Bool) (hlt : ∀ x y, lt x y = decide (key x.1 < key y.1)) (p ys r : List (ρ × Nat)) (x : ρ × Nat) (hy : ys.Pairwise (tlt key)) (htag : ∀ z ∈ ys, z.2 < x.2) :
    ∀ t, t ≤ ys.length → (t = ys.length ∨ ∃ h : t < ys.length, tlt key x ys[t]) → ∃ k, k ≤ ys.length ∧ Sort.insInner lt p.length (p.length + t) (p ++ (ys.take t ++ x :: ys.drop t) ++ r).toArray = (p ++ (ys.take k ++ x :: ys.drop k) ++ r).toArray ∧ (ys.take k ++ x :: ys.drop k).Pairwise (tlt key)
  | 0, h0, hd => ⟨0, h0, insInner_stop lt _ _ _ (.inl (by omega)), ins_sorted (tlt_trans key) h0 hy (.inl rfl) hd⟩
  | t + 1, h0, hd => by
    have g1 := getB (mid_at p r ys x (t + 1) h0)
    have g2 := getB (mid_under p r ys x t (by omega))
    by_cases hl : key x.1 < key (ys[t]).1
    · have e := insInner_go lt p.length (p.length + (t + 1)) (p ++ (ys.take (t + 1) ++ x :: ys.drop (t + 1)) ++ r).toArray (by omega) (by rw [g1, show p.length + (t + 1) - 1 = p.length + t from by omega, g2, hlt]; exact decide_eq_true hl)
      obtain ⟨k, hk, h1, h2⟩ := ins_inner key lt hlt p ys r x hy htag t (by omega) (.inr ⟨by omega, .inl hl⟩)
      refine ⟨k, hk, ?_, h2⟩
      rw [e, ← h1, show p.length + (t + 1) - 1 = p.length + t from by omega, swp_array _ _ _ (by simp; omega) (by simp; omega)]
      congr 2
      exact swp_down p r ys x t (by omega)
    · refine ⟨t + 1, h0, insInner_stop lt _ _ _ (.inr (by rw [g1, show p.length + (t + 1) - 1 = p.length + t from by omega, g2, hlt]; exact decide_eq_false hl)), ins_sorted (tlt_trans key) h0 hy (.inr ⟨by omega, ?_⟩) hd⟩
      have := htag (ys[t]) (List.getElem_mem _)
      show tlt key ys[t] x
      unfold tlt
      omega
theorem ins_outer {ρ : Type} [Inhabited (ρ × Nat)] (key : ρ → Int) (lt : ρ × Nat → ρ × Nat → Bool) (hlt : ∀ x y, lt x y = decide (key x.1 < key y.1)) (p r : List (ρ × Nat)) : ∀ (us zs : List (ρ × Nat)), zs.Pairwise (tlt key) → us.Pairwise (fun x y => x.2 < y.2) → (∀ z ∈ zs, ∀ u ∈ us, z.2 < u.2) →
    ∃ vs, Sort.insOuter lt p.length (p.length + zs.length + us.length) (p.length + zs.length) (p ++ zs ++ us ++ r).toArray = (p ++ vs ++ r).toArray ∧ vs.Perm (zs ++ us) ∧ vs.Pairwise (tlt key)
  | [], zs, hz, _, _ => ⟨zs, by rw [insOuter_stop lt _ _ _ _ (by simp), List.append_nil], by rw [List.append_nil], hz⟩
  | u :: us, zs, hz, hu, hzu => by
    rw [List.pairwise_cons] at hu
    obtain ⟨k, hk, h1, h2⟩ := ins_inner key lt hlt p zs (us ++ r) u hz (fun z hzm => hzu z hzm u (by simp)) zs.length (Nat.le_refl _) (.inl rfl)
    have hl : (zs.take k ++ u :: zs.drop k).length = zs.length + 1 := by simp; omega
    have hm : ∀ z ∈ zs.take k ++ u :: zs.drop k, z = u ∨ z ∈ zs := fun z hz => by
      rcases List.mem_append.1 hz with h | h
      · exact .inr (List.mem_of_mem_take h)
      · rcases List.mem_cons.1 h with h | h
        · exact .inl h
        · exact .inr (List.mem_of_mem_drop h)
    obtain ⟨vs, e, e2, e3⟩ := ins_outer key lt hlt p r us (zs.take k ++ u :: zs.drop k) h2 hu.2 (fun z hz v hv => by
      rcases hm z hz with rfl | h
      · exact hu.1 v hv
      · exact hzu z h v (by simp [hv]))
    refine ⟨vs, ?_, e2.trans ?_, e3⟩
    · rw [insOuter_go lt _ _ _ _ (by simp), ← e, hl]
      rw [List.take_of_length_le (Nat.le_refl _), List.drop_of_length_le (Nat.le_refl _)] at h1
      rw [show p ++ zs ++ u :: us ++ r = p ++ (zs ++ [u]) ++ (us ++ r) from by simp, h1, List.length_cons]
      congr 1
      · omega
      · simp
    · refine (List.Perm.append_right us (ins_perm zs u k)).trans ?_
      rw [List.cons_append]
      exact List.perm_middle.symm
/-- **The insertion sort of a piece: in order, those alike as they stood.** -/
theorem ins_stable {ρ : Type} [Inhabited (ρ × Nat)] (key : ρ → Int) (lt : ρ × Nat → ρ × Nat → Bool) (hlt : ∀ x y, lt x y = decide (key x.1 < key y.1)) (p us r : List (ρ × Nat)) (hu : us.Pairwise (fun x y => x.2 < y.2)) :
    ∃ vs, Sort.insertionSort lt (p ++ us ++ r).toArray p.length (p.length + us.length) = (p ++ vs ++ r).toArray ∧ vs.Perm us ∧ vs.Pairwise (tlt key) := by
  unfold Sort.insertionSort
  rcases us with _ | ⟨u, us⟩
  · exact ⟨[], insOuter_stop lt _ _ _ _ (by simp), List.Perm.refl _, List.Pairwise.nil⟩
  · rw [List.pairwise_cons] at hu
    obtain ⟨vs, e, e2, e3⟩ := ins_outer key lt hlt p r us [u] (List.pairwise_singleton _ _) hu.2 (fun z hz v hv => by
      rw [List.mem_singleton] at hz
      subst hz
      exact hu.1 v hv)
    refine ⟨vs, ?_, e2, e3⟩
    rw [← e, List.length_singleton, List.length_cons]
    congr 1
    · omega
    · simp
end Go.Proofs.Ytkmeingnhaomaaa
/- The library's stable sort, at records: ranges that change places, and a range turned. -/
namespace Go.Proofs.Ytkmeingnhaomaaa
open Go.Shelf Go.RowKit Go.Lib Go.Sort

/-- A record with a mark that is nowhere in the memory. -/
abbrev Tg := Rc × Nat
instance : Inhabited Tg := ⟨(⟨false, 0, ⟨#[]⟩⟩, 0)⟩
def tgE (x : Tg) : List Value := [.bool x.1.free, .int .i64 x.1.block, .string x.1.data]
def tgC (x y : Tg) : Int := Lib.compareInt x.1.block y.1.block
theorem tg_lt (x y : Tg) : ltOf tgC x y = decide (x.1.block < y.1.block) := by
  unfold ltOf tgC Lib.compareInt
  by_cases h1 : x.1.block < y.1.block
  · simp [h1]
  · by_cases h2 : y.1.block < x.1.block <;> simp [h1, h2]
theorem swr_length {α : Type} (u v p q r : List α) (t : Nat) (hv : v.length = u.length) : (swr u v p q r t).length = p.length + u.length + q.length + u.length + r.length := by
  unfold swr
  simp only [List.length_append, List.length_take, List.length_drop]
  omega

/-- What the walks ask of a program. The size of an element is not told: so that an element is loaded and stored at once. -/
structure StabL (P : Program) (k : Nat) : Prop where
  mixed : P.follows .mixedOrders = true
  fSwap : P.funcs[158]? = some Try.f158
  fRot : P.funcs[157]? = some Try.f157
  fSym : P.funcs[155]? = some Try.f155
  fCmp : P.funcs[130]? = some Try.f130
  t3 : P.underlying 3 = some (TypeDesc.int IntKind.i64)
  a3 : ∀ w, (isAgg 3).run P w = .ok false w
  z3 : ∀ w, (Go.sizeOf 3).run P w = .ok 1 w
  v3 : ∀ w, (zeroValue 3).run P w = .ok (Value.int IntKind.i64 0) w
  t4 : P.underlying 4 = some TypeDesc.bool
  a4 : ∀ w, (isAgg 4).run P w = .ok false w
  z4 : ∀ w, (Go.sizeOf 4).run P w = .ok 1 w
  v4 : ∀ w, (zeroValue 4).run P w = .ok (Value.bool false) w
  tU : P.underlying 158 = some (TypeDesc.int IntKind.u64)
  aU : ∀ w, (isAgg 158).run P w = .ok false w
  zU : ∀ w, (Go.sizeOf 158).run P w = .ok 1 w
  vU : ∀ w, (zeroValue 158).run P w = .ok (Value.int IntKind.u64 0) w
  tS : P.underlying 22 = some (TypeDesc.slice 34)
  aS : ∀ w, (isAgg 22).run P w = .ok false w
  zS : ∀ w, (Go.sizeOf 22).run P w = .ok 1 w
  vS : ∀ w, (zeroValue 22).run P w = .ok (Value.slice none 0 0) w
  aE : ∀ w, (isAgg 34).run P w = .ok true w
  zE : ∀ w, (Go.sizeOf 34).run P w = .ok k w
theorem Try.stabL : StabL Try.prog 3 :=
  ⟨by kernel_rfl, Try.func158, Try.func157, Try.func155, Try.func130,
    Try.underlying3, Try.isAgg3, Try.sizeOf3, Try.zeroValue3, Try.underlying4, Try.isAgg4, Try.sizeOf4, Try.zeroValue4, Try.underlying158, Try.isAgg158, Try.sizeOf158, Try.zeroValue158,
    Try.underlying22, Try.isAgg22, Try.sizeOf22, Try.zeroValue22, Try.isAgg34, Try.sizeOf34⟩

set_option maxHeartbeats 4000000 in
set_option maxRecDepth 1000000 in
theorem swapRange_any {P : Program} {k : Nat} (L : StabL P k) (g cap cf a b n : Nat) (p u q v r : List Tg) (d0 : Array Tg) (w0 W : World) (R : RowK tgE k w0 g 0 d0) (hs : d0.size = p.length + u.length + q.length + u.length + r.length) (hv : v.length = u.length) (ha : a = p.length) (hn : n = u.length) (hb : b = p.length + u.length + q.length)
    (S : SWK tgE k w0 g 0 (p ++ u ++ q ++ v ++ r).toArray W) (hsz : d0.size ≤ 400) :
    Calls P 158 #[.slice (some ⟨g, 0, none⟩) d0.size cap, .int .i64 a, .int .i64 b, .int .i64 n, .func (.func cf) #[] #[]] W fun e w' => e = .returned (.tuple #[]) ∧ SWK tgE k w0 g 0 (p ++ v ++ q ++ u ++ r).toArray w' := by
  have S0 : Aside (SWK tgE k w0 g 0 (swr u v p q r 0).toArray W) := by show SWK _ _ _ _ _ _ _; rw [swr_start]; exact S
  have HE : Hid _ := swr_end u v p q r hv
  have HL : Hid (∀ t, (swr u v p q r t).toArray.size = d0.size) := fun t => by rw [List.size_toArray, swr_length u v p q r t hv, hs]
  have HT : Hid (∀ t, t < n → Sort.swp (swr u v p q r t).toArray (a + t) (b + t) = (swr u v p q r (t + 1)).toArray) := fun t ht => by
    rw [swp_array _ _ _ (by rw [swr_length u v p q r t hv]; omega) (by rw [swr_length u v p q r t hv]; omega), ha, hb, swr_step u v p q r t (by omega) hv]
  have HB : b + n ≤ d0.size := by omega
  have HA : a + n ≤ b := by omega
  rw [← hn] at HE
  have mixed := L.mixed; have t3 := L.t3; have a3 := L.a3; have z3 := L.z3; have v3 := L.v3; have t4 := L.t4; have a4 := L.a4; have z4 := L.z4; have v4 := L.v4; have tS := L.tS; have aS := L.aS; have zS := L.zS; have vS := L.vS; have aE := L.aE; have zE := L.zE
  clear S hs ha hn hb
  go_enter L.fSwap, Try.ntmps158
  go_wp2
  go_loopg [10] n (fun kx s10 wr => ∃ (t : Nat), s10 = .int .i64 t ∧ t ≤ n ∧ n - t ≤ kx ∧ Aside (SWK tgE k w0 g 0 (swr u v p q r t).toArray wr))
  case atStart => exact ⟨0, rfl, Nat.zero_le _, Nat.sub_le _ _, S0⟩
  case round =>
    clear S0
    obtain ⟨t, rfl, ht, hkx, S1⟩ := hrel
    by_cases hlt : t < n
    · have hltz : (t : Int) < (n : Int) := by omega
      have hq := HL.out t
      have ea : ((a : Int) + (t : Int)).toNat = a + t := by omega
      have pa : (0 : Int) ≤ (a : Int) + (t : Int) := by omega
      have ba : (a : Int) + (t : Int) < (d0.size : Int) := by omega
      have ra : IntKind.i64.wrap ((a : Int) + (t : Int)) = (a : Int) + (t : Int) := by rw [IntKind.wrap_i64]; omega
      have ec : ((b : Int) + (t : Int)).toNat = b + t := by omega
      have pc : (0 : Int) ≤ (b : Int) + (t : Int) := by omega
      have bc : (b : Int) + (t : Int) < (d0.size : Int) := by omega
      have rc : IntKind.i64.wrap ((b : Int) + (t : Int)) = (b : Int) + (t : Int) := by rw [IntKind.wrap_i64]; omega
      have S2 : Aside (SWK tgE k w0 g 0 (Sort.swp (swr u v p q r t).toArray (a + t) (b + t)) ((wr.drew.setCells g (0 + (a + t) * k) (tgE (swr u v p q r t).toArray[b + t]!)).setCells g (0 + (b + t) * k) (tgE (swr u v p q r t).toArray[a + t]!))) := S1.out.swapped R (a + t) (b + t) (by omega) (by omega)
      rw [HT.out t hlt] at S2
      have la := S1.out.ld1 R hq P (a + t) (by omega)
      have lb := S1.out.ld1 R hq P (b + t) (by omega)
      have sa := S1.out.st1 R hq P (a + t) (by omega) (swr u v p q r t).toArray[b + t]!
      have sb := S1.out.st2 R hq P (a + t) (b + t) (by omega) (by omega) (swr u v p q r t).toArray[b + t]! (swr u v p q r t).toArray[a + t]!
      have na : (tgE (swr u v p q r t).toArray[a + t]!).length = k := R.hk _
      have nb : (tgE (swr u v p q r t).toArray[b + t]!).length = k := R.hk _
      generalize tgE (swr u v p q r t).toArray[a + t]! = cI at S2 la sb na
      generalize tgE (swr u v p q r t).toArray[b + t]! = cJ at S2 lb sa sb nb
      clear S1 hq
      rw [Nat.zero_add] at la lb sa
      rw [Nat.zero_add, Nat.zero_add] at sb
      rw [Nat.zero_add, Nat.zero_add] at S2
      go_wp2_with fail
      go_big_region_o
      clear la lb sa sb
      generalize (wr.drew.setCells g ((a + t) * k) cJ).setCells g ((b + t) * k) cI = w2 at S2 ⊢
      go_wp2
      go_roundg (n - (t + 1))
      case measure => omega
      case rel => exact ⟨t + 1, by go_num, by omega, Nat.le_refl _, S2⟩
    · have hltz : ¬ (t : Int) < (n : Int) := by omega
      obtain rfl : t = n := by omega
      go_wp2
      go_end0
      have S3 : Aside (SWK tgE k w0 g 0 (p ++ v ++ q ++ u ++ r).toArray wr) := by show SWK _ _ _ _ _ _ _; rw [← HE.out]; exact S1.out
      clear S1
      simp only [List.append_assoc] at S3
      exact ⟨rfl, S3.out⟩

end Go.Proofs.Ytkmeingnhaomaaa
/- The library's stable sort, at records: a range turned. -/
namespace Go.Proofs.Ytkmeingnhaomaaa
open Go.Shelf Go.RowKit Go.Lib Go.Sort

set_option maxHeartbeats 4000000 in
set_option maxRecDepth 1000000 in
/-- 'x u v y' becomes 'x v u y'. -/
theorem rotate_any {P : Program} {k : Nat} (L : StabL P k) (g cap cf a m b : Nat) (p u v r : List Tg) (d0 : Array Tg) (w0 W : World) (R : RowK tgE k w0 g 0 d0) (hs : d0.size = p.length + u.length + v.length + r.length) (ha : a = p.length) (hm : m = p.length + u.length) (hb : b = p.length + u.length + v.length) (hu : 1 ≤ u.length) (hv : 1 ≤ v.length)
    (S : SWK tgE k w0 g 0 (p ++ u ++ v ++ r).toArray W) (hsz : d0.size ≤ 400) :
    Calls P 157 #[.slice (some ⟨g, 0, none⟩) d0.size cap, .int .i64 a, .int .i64 m, .int .i64 b, .func (.func cf) #[] #[]] W fun e w' => e = .returned (.tuple #[]) ∧ SWK tgE k w0 g 0 (p ++ v ++ u ++ r).toArray w' := by
  have S0 : Aside (SWK tgE k w0 g 0 (p ++ u ++ v ++ r).toArray W) := S
  have HC : Hid (∀ (a b n : Int) (p u q v r : List Tg) W, d0.size = p.length + u.length + q.length + u.length + r.length → v.length = u.length → a = p.length → n = u.length → b = (p.length + u.length + q.length : Nat) → SWK tgE k w0 g 0 (p ++ u ++ q ++ v ++ r).toArray W →
      Calls P 158 #[.slice (some ⟨g, 0, none⟩) d0.size cap, .int .i64 a, .int .i64 b, .int .i64 n, .func (.func cf) #[] #[]] W fun e w' => e = .returned (.tuple #[]) ∧ SWK tgE k w0 g 0 (p ++ v ++ q ++ u ++ r).toArray w') := fun a b n p u q v r W h1 h2 h3 h4 h5 h6 => by
    subst h3 h4 h5
    exact swapRange_any L g cap cf _ _ _ p u q v r d0 w0 W R h1 h2 rfl rfl rfl h6 hsz
  obtain ⟨hs1, hs2⟩ : d0.size ≤ p.length + u.length + v.length + r.length ∧ p.length + u.length + v.length + r.length ≤ d0.size := ⟨by omega, by omega⟩
  obtain ⟨ha1, ha2⟩ : a ≤ p.length ∧ p.length ≤ a := ⟨by omega, by omega⟩
  obtain ⟨hm1, hm2⟩ : m ≤ p.length + u.length ∧ p.length + u.length ≤ m := ⟨by omega, by omega⟩
  obtain ⟨hb1, hb2⟩ : b ≤ p.length + u.length + v.length ∧ p.length + u.length + v.length ≤ b := ⟨by omega, by omega⟩
  clear hs ha hm hb
  have mixed := L.mixed; have t3 := L.t3; have a3 := L.a3; have z3 := L.z3; have v3 := L.v3; have t4 := L.t4; have a4 := L.a4; have z4 := L.z4; have v4 := L.v4; have tS := L.tS; have aS := L.aS; have zS := L.zS; have vS := L.vS; have aE := L.aE; have zE := L.zE
  have eS : ∀ args w, (callFunc 158 args).run P w = .ok (.enter 158 args) w := enters_of L.fSwap (by kernel_rfl) rfl
  clear S
  go_enter L.fRot, Try.ntmps157
  go_wp2
  go_loopg [10, 11] (u.length + v.length) (fun kx s10 s11 wr => ∃ (A x y B : List Tg), s10 = .int .i64 x.length ∧ s11 = .int .i64 y.length ∧ 1 ≤ x.length ∧ 1 ≤ y.length ∧ x.length + y.length ≤ kx ∧ Hid (p ++ v ++ u ++ r = A ++ y ++ x ++ B) ∧ A.length + x.length ≤ m ∧ m ≤ A.length + x.length ∧ Aside (SWK tgE k w0 g 0 (A ++ x ++ y ++ B).toArray wr))
  case atStart => exact ⟨p, u, v, r, by simp; omega, by simp; omega, hu, hv, Nat.le_refl _, rfl, hm2, hm1, S0⟩
  case round =>
    clear S0
    obtain ⟨A, x, y, B, rfl, rfl, hx, hy, hkx, HEQ, hA1, hA2, S1⟩ := hrel
    obtain ⟨hlen1, hlen2⟩ : p.length + v.length + u.length + r.length ≤ A.length + y.length + x.length + B.length ∧ A.length + y.length + x.length + B.length ≤ p.length + v.length + u.length + r.length := by
      have := congrArg List.length HEQ.out
      simp only [List.length_append] at this
      omega
    by_cases hne : x.length = y.length
    · have hz : ((x.length : Int) != (y.length : Int)) = false := by simp; omega
      have HNE : Hid (x.length = y.length) := hne
      obtain ⟨hn1, hn2⟩ : x.length ≤ y.length ∧ y.length ≤ x.length := ⟨by omega, by omega⟩
      clear hne
      have S2 : Aside (SWK tgE k w0 g 0 (A ++ x ++ [] ++ y ++ B).toArray wr) := by show SWK _ _ _ _ _ _ _; rw [List.append_nil]; exact S1.out
      clear S1
      go_wp2_with fail
      refine (HC.out _ _ _ A x [] y B wr (by simp; omega) HNE.out.symm (by omega) rfl (by simp; omega) S2.out).mono ?_
      rintro e w2 ⟨rfl, S3⟩
      rw [List.append_nil] at S3
      have S4 : Aside (SWK tgE k w0 g 0 (p ++ v ++ u ++ r).toArray w2) := by show SWK _ _ _ _ _ _ _; rw [HEQ.out]; exact S3
      clear S2 S3
      go_wp2
      go_end0
      exact ⟨rfl, S4.out⟩
    · have hz : ((x.length : Int) != (y.length : Int)) = true := by simp; omega
      by_cases hgt : y.length < x.length
      · have hg1 : (y.length : Int) < (x.length : Int) := by omega
        have hg2 : decide ((y.length : Int) < (x.length : Int)) = true := decide_eq_true hg1
        have S2 : Aside (SWK tgE k w0 g 0 (A ++ x.take y.length ++ x.drop y.length ++ y ++ B).toArray wr) := by show SWK _ _ _ _ _ _ _; rw [List.append_assoc A, List.take_append_drop]; exact S1.out
        have HL1 : Hid ((x.take y.length).length = y.length) := by show _ = _; rw [List.length_take]; omega
        have HL2 : Hid ((x.drop y.length).length = x.length - y.length) := List.length_drop
        clear S1
        go_wp2_with fail
        refine (HC.out _ _ _ A (x.take y.length) (x.drop y.length) y B wr (by rw [HL1.out, HL2.out]; omega) HL1.out.symm (by omega) (by rw [HL1.out]) (by rw [HL1.out, HL2.out]; omega) S2.out).mono ?_
        rintro e w2 ⟨rfl, S3⟩
        have S4 : Aside (SWK tgE k w0 g 0 ((A ++ y) ++ x.drop y.length ++ x.take y.length ++ B).toArray w2) := S3
        have HQ : Hid (p ++ v ++ u ++ r = (A ++ y) ++ x.take y.length ++ x.drop y.length ++ B) := by show _ = _; rw [HEQ.out, List.append_assoc (A ++ y) (x.take y.length), List.take_append_drop]
        clear S2 S3
        go_wp2
        go_roundg (x.length - y.length + y.length)
        case measure => omega
        case rel => exact ⟨A ++ y, x.drop y.length, x.take y.length, B, by rw [HL2.out]; go_num, by rw [HL1.out], by rw [HL2.out]; omega, by rw [HL1.out]; omega, by rw [HL1.out, HL2.out]; omega, HQ, by rw [HL2.out, List.length_append]; omega, by rw [HL2.out, List.length_append]; omega, S4⟩
      · have hg1 : ¬ (y.length : Int) < (x.length : Int) := by omega
        have hg2 : decide ((y.length : Int) < (x.length : Int)) = false := decide_eq_false hg1
        have S2 : Aside (SWK tgE k w0 g 0 (A ++ x ++ y.take (y.length - x.length) ++ y.drop (y.length - x.length) ++ B).toArray wr) := by show SWK _ _ _ _ _ _ _; rw [List.append_assoc (A ++ x), List.take_append_drop]; exact S1.out
        have HL1 : Hid ((y.take (y.length - x.length)).length = y.length - x.length) := by show _ = _; rw [List.length_take]; omega
        have HL2 : Hid ((y.drop (y.length - x.length)).length = x.length) := by show _ = _; rw [List.length_drop]; omega
        clear S1
        go_wp2_with fail
        refine (HC.out _ _ _ A x (y.take (y.length - x.length)) (y.drop (y.length - x.length)) B wr (by rw [HL1.out]; omega) HL2.out (by omega) rfl (by rw [HL1.out]; omega) S2.out).mono ?_
        rintro e w2 ⟨rfl, S3⟩
        have S4 : Aside (SWK tgE k w0 g 0 (A ++ y.drop (y.length - x.length) ++ y.take (y.length - x.length) ++ (x ++ B)).toArray w2) := by show SWK _ _ _ _ _ _ _; rw [← List.append_assoc]; exact S3
        have HQ : Hid (p ++ v ++ u ++ r = A ++ y.take (y.length - x.length) ++ y.drop (y.length - x.length) ++ (x ++ B)) := by show _ = _; rw [HEQ.out, List.append_assoc A (y.take (y.length - x.length)), List.take_append_drop, List.append_assoc (A ++ y)]
        clear S2 S3
        go_wp2
        go_roundg (y.length)
        case measure => omega
        case rel => exact ⟨A, y.drop (y.length - x.length), y.take (y.length - x.length), x ++ B, by rw [HL2.out], by rw [HL1.out]; go_num, by rw [HL2.out]; omega, by rw [HL1.out]; omega, by rw [HL1.out, HL2.out]; omega, HQ, by rw [HL2.out]; omega, by rw [HL2.out]; omega, S4⟩
end Go.Proofs.Ytkmeingnhaomaaa
/- A stable sort by blocks, purely: blocks in order, merged two by two. -/
namespace Go.Proofs.Ytkmeingnhaomaaa

/-- Blocks of so many, the last perhaps of fewer, each in order; all marks of one below those of what stands behind. -/
inductive BS {ρ : Type} (key : ρ → Int) (n : Nat) : List (ρ × Nat) → Prop
  | last (u : List (ρ × Nat)) (h1 : u.length ≤ n) (h2 : u.Pairwise (tlt key)) : BS key n u
  | cons (u v : List (ρ × Nat)) (h1 : u.length = n) (h2 : u.Pairwise (tlt key)) (h3 : ∀ x ∈ u, ∀ y ∈ v, x.2 < y.2) (h4 : BS key n v) : BS key n (u ++ v)
theorem BS.nil {ρ : Type} (key : ρ → Int) (n : Nat) : BS key n [] := .last [] (by simp) List.Pairwise.nil
/-- The first block. -/
theorem BS.first {ρ : Type} {key : ρ → Int} {n : Nat} {z : List (ρ × Nat)} (h : BS key n z) (hn : n ≤ z.length) : ∃ u v, z = u ++ v ∧ u.length = n ∧ u.Pairwise (tlt key) ∧ (∀ x ∈ u, ∀ y ∈ v, x.2 < y.2) ∧ BS key n v := by
  cases h with
  | last _ h1 h2 => exact ⟨z, [], by simp, by omega, h2, by simp, BS.nil key n⟩
  | cons u v h1 h2 h3 h4 => exact ⟨u, v, rfl, h1, h2, h3, h4⟩
theorem BS.one {ρ : Type} {key : ρ → Int} {n : Nat} {z : List (ρ × Nat)} (h : BS key n z) (hn : z.length ≤ n) : z.Pairwise (tlt key) := by
  cases h with
  | last _ h1 h2 => exact h2
  | cons u v h1 h2 h3 h4 =>
    rw [List.length_append] at hn
    have : v = [] := List.eq_nil_of_length_eq_zero (by omega)
    subst this
    rw [List.append_nil]
    exact h2
/-- What is done: whatever blocks stand behind it, it is blocks with them. -/
def Ahead {ρ : Type} (key : ρ → Int) (n : Nat) (d : List (ρ × Nat)) : Prop := ∀ t, BS key n t → (∀ x ∈ d, ∀ y ∈ t, x.2 < y.2) → BS key n (d ++ t)
theorem Ahead.nil {ρ : Type} (key : ρ → Int) (n : Nat) : Ahead key n [] := fun _ h _ => h
theorem Ahead.more {ρ : Type} {key : ρ → Int} {n : Nat} {d u : List (ρ × Nat)} (h : Ahead key n d) (h1 : u.length = n) (h2 : u.Pairwise (tlt key)) (h3 : ∀ x ∈ d, ∀ y ∈ u, x.2 < y.2) : Ahead key n (d ++ u) := fun t ht hd => by
  rw [List.append_assoc]
  refine h _ (.cons u t h1 h2 (fun x hx y hy => hd x (by simp [hx]) y hy) ht) fun x hx y hy => ?_
  rcases List.mem_append.1 hy with hy | hy
  · exact h3 x hx y hy
  · exact hd x (by simp [hx]) y hy
theorem Ahead.whole {ρ : Type} {key : ρ → Int} {n : Nat} {d u : List (ρ × Nat)} (h : Ahead key n d) (h1 : u.length ≤ n) (h2 : u.Pairwise (tlt key)) (h3 : ∀ x ∈ d, ∀ y ∈ u, x.2 < y.2) : BS key n (d ++ u) := h u (.last u h1 h2) h3
/-- Marks that rise, taken apart. -/
theorem rise_parts {ρ : Type} {u v : List (ρ × Nat)} (h : (u ++ v).Pairwise (fun x y => x.2 < y.2)) : u.Pairwise (fun x y => x.2 < y.2) ∧ v.Pairwise (fun x y => x.2 < y.2) ∧ ∀ x ∈ u, ∀ y ∈ v, x.2 < y.2 := List.pairwise_append.1 h
theorem marks_perm {ρ : Type} {u u' v v' : List (ρ × Nat)} (h : ∀ x ∈ u, ∀ y ∈ v, x.2 < y.2) (hu : u'.Perm u) (hv : v'.Perm v) : ∀ x ∈ u', ∀ y ∈ v', x.2 < y.2 := fun x hx y hy => h x (hu.mem_iff.1 hx) y (hv.mem_iff.1 hy)
/-- Where the marks of the first stand below those of the second, the keys alone tell. -/
theorem tlt_of_lt {ρ : Type} {key : ρ → Int} {x y : ρ × Nat} (h : key y.1 < key x.1) : tlt key y x := .inl h
theorem tlt_of_ge {ρ : Type} {key : ρ → Int} {x y : ρ × Nat} (ht : x.2 < y.2) (h : ¬ key y.1 < key x.1) : tlt key x y := by
  unfold tlt
  omega
theorem app_at {α : Type} {u v : List α} {i j : Nat} (h : j = u.length + i) (hi : i < v.length) : (u ++ v)[j]? = some v[i] := by
  subst h
  rw [List.getElem?_append_right (by omega), Nat.add_sub_cancel_left, List.getElem?_eq_getElem hi]
theorem mid_left {α : Type} (p u v r : List α) (i j : Nat) (h : j = p.length + i) (hi : i < u.length) : (p ++ u ++ v ++ r)[j]? = some u[i] := by
  subst h
  rw [List.append_assoc, List.append_assoc, List.getElem?_append_right (by omega), Nat.add_sub_cancel_left, List.getElem?_append_left hi, List.getElem?_eq_getElem hi]
theorem mid_right {α : Type} (p u v r : List α) (i j : Nat) (h : j = p.length + u.length + i) (hi : i < v.length) : (p ++ u ++ v ++ r)[j]? = some v[i] := by
  subst h
  rw [List.append_assoc, List.getElem?_append_right (by rw [List.length_append]; omega), List.length_append, Nat.add_sub_cancel_left, List.getElem?_append_left hi, List.getElem?_eq_getElem hi]
end Go.Proofs.Ytkmeingnhaomaaa
