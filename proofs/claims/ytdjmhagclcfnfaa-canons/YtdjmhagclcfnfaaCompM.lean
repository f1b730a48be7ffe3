/- Of neighbours that are alike the first, purely; and what that is of a list in order. -/
import Derived.ProofKit
namespace Go.Proofs.Ytdjmhagclcfnfaa

def outK {α : Type} (key : α → Int) : Int → List α → List α
  | _, [] => []
  | k, x :: r => if key x = k then outK key k r else x :: outK key (key x) r
/-- Of neighbours that are alike the first. -/
def dedupK {α : Type} (key : α → Int) : List α → List α
  | [] => []
  | x :: r => x :: outK key (key x) r
def lastK {α : Type} (key : α → Int) : Int → List α → Int
  | k, [] => k
  | _, x :: r => lastK key (key x) r
theorem outK_append {α : Type} (key : α → Int) : ∀ (A B : List α) (k : Int), outK key k (A ++ B) = outK key k A ++ outK key (lastK key k A) B
  | [], B, k => rfl
  | x :: A, B, k => by
    rw [List.cons_append, outK, outK, lastK]
    split
    · rename_i h
      rw [outK_append key A B k, h]
    · rw [outK_append key A B (key x), List.cons_append]
theorem lastK_append {α : Type} (key : α → Int) : ∀ (A : List α) (k : Int) (x : α), lastK key k (A ++ [x]) = key x
  | [], _, _ => rfl
  | _ :: A, _, x => lastK_append key A _ x
theorem dedupK_append {α : Type} (key : α → Int) (x : α) (A B : List α) : dedupK key (x :: A ++ B) = dedupK key (x :: A) ++ outK key (lastK key (key x) A) B := by
  rw [List.cons_append, dedupK, dedupK, outK_append, List.cons_append]
/-- .. one more. -/
theorem dedupK_take {α : Type} (key : α → Int) (zs : List α) (k : Nat) (h : k + 1 < zs.length) : dedupK key (zs.take (k + 2)) = dedupK key (zs.take (k + 1)) ++ (if key zs[k + 1] = key zs[k] then [] else [zs[k + 1]]) := by
  rw [List.take_succ_eq_append_getElem h]
  rcases zs with _ | ⟨x, zs⟩
  · simp at h
  · rw [List.take_succ_cons, dedupK_append]
    congr 1
    have hl : lastK key (key x) (zs.take k) = key ((x :: zs)[k]'(by omega)) := by
      rcases k with _ | k
      · rfl
      · rw [List.length_cons] at h
        rw [List.take_succ_eq_append_getElem (by omega), lastK_append]
        rfl
    rw [hl, outK]
    rfl
theorem outK_same {α : Type} (key : α → Int) (k : Int) : ∀ B : List α, (∀ x ∈ B, key x = k) → outK key k B = []
  | [], _ => rfl
  | x :: B, h => by
    rw [outK, if_pos (h x (by simp))]
    exact outK_same key k B fun y hy => h y (by simp [hy])
theorem outK_head {α : Type} (key : α → Int) (k k' : Int) (B : List α) (h : ∀ x ∈ B, key x = k) (hk : k' ≠ k) : outK key k' B = B.head?.toList := by
  rcases B with _ | ⟨x, B⟩
  · rfl
  · have hx := h x (by simp)
    rw [outK, if_neg (by rw [hx]; exact Ne.symm hk), hx, outK_same key k B fun y hy => h y (by simp [hy])]
    rfl
theorem lastK_mem {α : Type} (key : α → Int) : ∀ (A : List α) (x : α), ∃ y ∈ x :: A, lastK key (key x) A = key y
  | [], x => ⟨x, by simp, rfl⟩
  | z :: A, x => by
    obtain ⟨y, hy, e⟩ := lastK_mem key A z
    exact ⟨y, List.mem_cons_of_mem _ hy, e⟩
theorem filterMap_same {α β : Type} {f g : α → Option β} : ∀ {l : List α}, (∀ x ∈ l, f x = g x) → l.filterMap f = l.filterMap g
  | [], _ => rfl
  | x :: l, h => by
    rw [List.filterMap_cons, List.filterMap_cons, h x (by simp), filterMap_same (l := l) fun y hy => h y (by simp [hy])]
theorem dedupK_two {α : Type} (key : α → Int) (k : Int) (A B : List α) (hA : ∀ x ∈ A, key x ≠ k) (hB : ∀ x ∈ B, key x = k) : dedupK key (A ++ B) = dedupK key A ++ B.head?.toList := by
  rcases A with _ | ⟨x, A⟩
  · rcases B with _ | ⟨y, B⟩
    · rfl
    · show y :: outK key (key y) B = [y]
      rw [hB y (by simp), outK_same key k B fun z hz => hB z (by simp [hz])]
  · rw [dedupK_append]
    obtain ⟨y, hy, e⟩ := lastK_mem key A x
    rw [outK_head key k _ B hB (by rw [e]; exact hA y hy)]
/-- In order: those that are below, then those that aren't. -/
theorem sorted_parts {α : Type} (key : α → Int) (k : Int) : ∀ zs : List α, zs.Pairwise (fun x y => key x ≤ key y) → zs = zs.filter (fun x => decide (key x < k)) ++ zs.filter (fun x => !decide (key x < k))
  | [], _ => rfl
  | x :: zs, h => by
    rw [List.pairwise_cons] at h
    by_cases hx : key x < k
    · rw [List.filter_cons_of_pos (by simpa using hx), List.filter_cons_of_neg (by simpa using hx), List.cons_append, ← sorted_parts key k zs h.2]
    · rw [List.filter_cons_of_neg (by simpa using hx), List.filter_cons_of_pos (by simpa using hx), List.filter_eq_nil_iff.2 (fun y hy => by have := h.1 y hy; simp; omega), List.nil_append]
      rw [List.filter_eq_self.2 (fun y hy => by have := h.1 y hy; simp; omega)]
/-- **Of a list in order, of neighbours that are alike the first: of each number the first that has it.** -/
theorem dedupK_sorted {α : Type} (key : α → Int) : ∀ (b : Nat) (zs : List α), zs.Pairwise (fun x y => key x ≤ key y) → (∀ x ∈ zs, 0 ≤ key x ∧ key x < b) → dedupK key zs = (List.range b).filterMap (fun i : Nat => zs.find? (fun x => key x == (i : Int)))
  | 0, zs, _, h => by
    rcases zs with _ | ⟨x, zs⟩
    · rfl
    · have := h x (by simp)
      omega
  | b + 1, zs, hs, h => by
    have e := sorted_parts key b zs hs
    have hA : ∀ x ∈ zs.filter (fun x => decide (key x < b)), 0 ≤ key x ∧ key x < b := fun x hx => by
      rw [List.mem_filter] at hx
      exact ⟨(h x hx.1).1, by simpa using hx.2⟩
    have hB : ∀ x ∈ zs.filter (fun x => !decide (key x < b)), key x = b := fun x hx => by
      rw [List.mem_filter] at hx
      have h1 := (h x hx.1).2
      have h2 : ¬ key x < b := by simpa using hx.2
      omega
    have ih := dedupK_sorted key b _ (hs.sublist (List.filter_sublist (p := fun x => decide (key x < b)))) hA
    generalize zs.filter (fun x => decide (key x < b)) = A at *
    generalize zs.filter (fun x => !decide (key x < b)) = B at *
    subst e
    rw [dedupK_two key b A B (fun x hx => by have := hA x hx; omega) hB, ih, List.range_succ, List.filterMap_append]
    congr 1
    · refine filterMap_same fun i hi => ?_
      have hn : B.find? (fun x => key x == (i : Int)) = none := List.find?_eq_none.2 (fun x hx => by have := hB x hx; have := List.mem_range.1 hi; simp; omega)
      rw [List.find?_append, hn, Option.or_none]
    · rw [List.filterMap_cons, List.find?_append, List.find?_eq_none.2 (fun x hx => by have := hA x hx; simp; omega), Option.none_or]
      rcases B with _ | ⟨x, B⟩
      · rfl
      · rw [List.find?_cons_of_pos (by simpa using hB x (by simp))]
        rfl
/-- Who has the smallest mark among those that are asked for, comes first where the marks rise. -/
theorem find_least {α : Type} (tag : α → Nat) (p : α → Bool) : ∀ (xs : List α), xs.Pairwise (fun x y => p x = true → p y = true → tag x < tag y) → ∀ z, xs.find? p = some z → ∀ y ∈ xs, p y = true → y = z ∨ tag z < tag y
  | [], _, z, h, _, _, _ => by simp at h
  | x :: xs, hp, z, h, y, hy, hpy => by
    rw [List.pairwise_cons] at hp
    by_cases hx : p x = true
    · rw [List.find?_cons_of_pos hx, Option.some.injEq] at h
      subst h
      rcases List.mem_cons.1 hy with rfl | hy
      · exact .inl rfl
      · exact .inr (hp.1 y hy hx hpy)
    · rw [List.find?_cons_of_neg hx] at h
      rcases List.mem_cons.1 hy with rfl | hy
      · exact absurd hpy hx
      · exact find_least tag p xs hp.2 z h y hy hpy
theorem find_perm {α : Type} (tag : α → Nat) (p : α → Bool) {xs ys : List α} (hp : xs.Perm ys) (hx : xs.Pairwise (fun x y => p x = true → p y = true → tag x < tag y)) (hy : ys.Pairwise (fun x y => p x = true → p y = true → tag x < tag y)) : xs.find? p = ys.find? p := by
  cases h1 : xs.find? p with
  | none =>
    symm
    rw [List.find?_eq_none] at h1 ⊢
    exact fun y hy => h1 y (hp.mem_iff.2 hy)
  | some z =>
    cases h2 : ys.find? p with
    | none =>
      rw [List.find?_eq_none] at h2
      have := List.mem_of_find?_eq_some h1
      exact absurd (List.find?_some h1) (h2 z (hp.mem_iff.1 this))
    | some u =>
      have a1 := find_least tag p xs hx z h1 u (hp.mem_iff.2 (List.mem_of_find?_eq_some h2)) (List.find?_some h2)
      have a2 := find_least tag p ys hy u h2 z (hp.mem_iff.1 (List.mem_of_find?_eq_some h1)) (List.find?_some h1)
      rcases a1 with rfl | a1
      · rfl
      · rcases a2 with rfl | a2
        · rfl
        · omega
/-- By the number, and where the numbers are alike by the mark. -/
def tlt {ρ : Type} (key : ρ → Int) (x y : ρ × Nat) : Prop := key x.1 < key y.1 ∨ (key x.1 = key y.1 ∧ x.2 < y.2)
theorem tlt_trans {ρ : Type} (key : ρ → Int) : ∀ x y z : ρ × Nat, tlt key x y → tlt key y z → tlt key x z := by
  intro x y z h1 h2
  unfold tlt at *
  omega
theorem zipIdx_rise {ρ : Type} (rs : List ρ) (k : Nat) : (rs.zipIdx k).Pairwise (fun x y => x.2 < y.2) := by
  rw [List.pairwise_iff_getElem]
  intro i j hi hj hlt
  rw [List.getElem_zipIdx, List.getElem_zipIdx]
  dsimp only
  omega
theorem zipIdx_fst {ρ : Type} (rs : List ρ) (k : Nat) : (rs.zipIdx k).map (fun x => x.1) = rs := by
  refine List.ext_getElem (by simp) fun i h1 h2 => ?_
  rw [List.getElem_map, List.getElem_zipIdx]
/-- **A list sorted so that those alike stay as they stood, and of neighbours alike the first: of each number the first that had it.** -/
theorem dedup_stable {ρ : Type} (key : ρ → Int) (rs : List ρ) (b : Nat) (hb : ∀ r ∈ rs, 0 ≤ key r ∧ key r < b) (zs : List (ρ × Nat)) (hp : zs.Perm (rs.zipIdx 0)) (hz : zs.Pairwise (tlt key)) :
    dedupK key (zs.map (fun x => x.1)) = (List.range b).filterMap (fun i : Nat => rs.find? (fun r => key r == (i : Int))) := by
  rw [dedupK_sorted key b]
  · refine filterMap_same fun i _ => ?_
    have h1 : zs.find? (fun x => key x.1 == (i : Int)) = (rs.zipIdx 0).find? (fun x => key x.1 == (i : Int)) := by
      refine find_perm (fun x => x.2) _ hp (hz.imp fun h hx hy => ?_) ((zipIdx_rise rs 0).imp fun h _ _ => h)
      simp only [beq_iff_eq] at hx hy
      unfold tlt at h
      omega
    have h2 : rs.find? (fun r => key r == (i : Int)) = ((rs.zipIdx 0).map (fun x => x.1)).find? (fun r => key r == (i : Int)) := by rw [zipIdx_fst]
    rw [h2, List.find?_map, List.find?_map]
    exact congrArg _ h1
  · rw [List.pairwise_map]
    refine hz.imp fun h => ?_
    unfold tlt at h
    omega
  · intro x hx
    obtain ⟨y, hy, rfl⟩ := List.mem_map.1 hx
    have h1 := hp.mem_iff.1 hy
    have h2 : y.1 ∈ (rs.zipIdx 0).map (fun x => x.1) := List.mem_map.2 ⟨y, h1, rfl⟩
    rw [zipIdx_fst] at h2
    exact hb _ h2
end Go.Proofs.Ytdjmhagclcfnfaa
