/- SplitM, CutM, LWrites2, LWrites3 -/
import Derived.Test.YtdjmhagclcfnfaaRWrite
import Derived.Test.YtdjmhagclcfnfaaLWrites
import Derived.Laws.CopyRow
import Derived.Laws.MakeOwn
import Derived.ProofKit
import Derived.SizedLaws
import Derived.Deep.Slices
import Derived.Deep.Strs
import Derived.Lib.SmallJoins
/- What Split answers, purely. -/
namespace Go.Proofs.Ytdjmhagclcfnfaa
open Go.RowKit Go.Shelf

def lenR (r : Rc) : Nat := (recB r).length
def mostR (rs : List Rc) : Nat := rs.foldl (fun m r => max m (lenR r)) 0
theorem mostR_snoc (rs : List Rc) (r : Rc) : mostR (rs ++ [r]) = max (mostR rs) (lenR r) := by simp [mostR, List.foldl_append]
theorem mostR_take (rs : List Rc) (k : Nat) (h : k < rs.length) : mostR (rs.take (k + 1)) = max (mostR (rs.take k)) (lenR rs[k]) := by
  rw [List.take_succ_eq_append_getElem h, mostR_snoc]

/-- Where chunks begin, and how long the last one is, behind so many records. -/
def stepSt (limit : Int) (s : List Nat × Nat) (i : Nat) (r : Rc) : List Nat × Nat :=
  if limit < ((s.2 + lenR r : Nat) : Int) then (s.1 ++ [i], 28 + lenR r) else (s.1, s.2 + lenR r)
def stK (limit : Int) (rs : List Rc) : Nat → List Nat × Nat
  | 0 => ([0], 28)
  | k + 1 => match rs[k]? with
    | none => stK limit rs k
    | some r => stepSt limit (stK limit rs k) k r
theorem stK_succ (limit : Int) (rs : List Rc) (k : Nat) (h : k < rs.length) : stK limit rs (k + 1) = stepSt limit (stK limit rs k) k rs[k] := by
  rw [stK, List.getElem?_eq_getElem h]
/-- They rise. -/
theorem stK_up (limit : Int) (rs : List Rc) : ∀ k, k ≤ rs.length → (∀ x ∈ (stK limit rs k).1, x ≤ k) ∧ (stK limit rs k).1.Pairwise (· ≤ ·) ∧ (stK limit rs k).1.length ≤ k + 1 ∧ 1 ≤ (stK limit rs k).1.length ∧ (stK limit rs k).1[0]? = some 0
  | 0, _ => by simp [stK]
  | k + 1, h => by
    obtain ⟨h1, h2, h3, h4, h5⟩ := stK_up limit rs k (by omega)
    rw [stK_succ limit rs k (by omega)]
    unfold stepSt
    split
    · refine ⟨?_, ?_, ?_, ?_, ?_⟩
      · intro x hx
        rw [List.mem_append, List.mem_singleton] at hx
        rcases hx with hx | rfl
        · have := h1 x hx; omega
        · omega
      · rw [List.pairwise_append]
        refine ⟨h2, by simp, fun x hx y hy => ?_⟩
        rw [List.mem_singleton] at hy
        subst hy
        exact h1 x hx
      · simp only [List.length_append, List.length_singleton]; omega
      · simp only [List.length_append, List.length_singleton]; omega
      · rw [List.getElem?_append_left (by omega)]; exact h5
    · exact ⟨fun x hx => by have := h1 x hx; omega, h2, Nat.le_succ_of_le h3, h4, h5⟩
theorem stK_size (limit : Int) (rs : List Rc) : ∀ k, k ≤ rs.length → (∀ r ∈ rs, lenR r ≤ 67) → (stK limit rs k).2 ≤ 28 + 67 * k
  | 0, _, _ => by simp [stK]
  | k + 1, h, hr => by
    have h1 := stK_size limit rs k (by omega) hr
    have h2 := hr rs[k] (List.getElem_mem (by omega))
    rw [stK_succ limit rs k (by omega)]
    unfold stepSt
    split
    · show 28 + lenR rs[k] ≤ _
      omega
    · show (stK limit rs k).2 + lenR rs[k] ≤ _
      omega

def startsR (limit : Int) (rs : List Rc) : List Nat := (stK limit rs rs.length).1
/-- Where the chunk with this number begins and ends. -/
def endAt (st : List Nat) (n i : Nat) : Nat := (st[i + 1]?).getD n
def partR (st : List Nat) (rs : List Rc) (i : Nat) : List Rc := (rs.take (endAt st rs.length i)).drop (st[i]?.getD 0)
def chunksR (f t b z : Nat) (rs : List Rc) (st : List Nat) : List (List UInt8) := (List.range st.length).map fun i => chunkB f t b z rs.length i st.length (partR st rs i)
def splitR (l : List UInt8) (limit : Int) : Int ⊕ List (List UInt8) :=
  match parseR l with
  | .inl k => .inl k
  | .inr (f, t, b, z, rs) => if limit < ((28 + mostR rs : Nat) : Int) then .inl 12 else .inr (chunksR f t b z rs (startsR limit rs))

theorem endAt_ok (limit : Int) (rs : List Rc) (i : Nat) (h : i < (startsR limit rs).length) : (startsR limit rs)[i] ≤ endAt (startsR limit rs) rs.length i ∧ endAt (startsR limit rs) rs.length i ≤ rs.length := by
  obtain ⟨h1, h2, -, -, -⟩ := stK_up limit rs rs.length (Nat.le_refl _)
  unfold endAt
  by_cases hi : i + 1 < (startsR limit rs).length
  · rw [List.getElem?_eq_getElem hi, Option.getD_some]
    exact ⟨List.pairwise_iff_getElem.1 h2 i (i + 1) h hi (by omega), h1 _ (List.getElem_mem hi)⟩
  · rw [List.getElem?_eq_none (by omega), Option.getD_none]
    exact ⟨h1 _ (List.getElem_mem h), Nat.le_refl _⟩

theorem lastOf_ge (b z : Int) : ∀ (xs : List Rc) (last : Int), recsOk b z last xs = true → last ≤ lastOf last xs
  | [], last, _ => by simp [lastOf]
  | r :: xs, last, h => by
    simp only [recsOk, Bool.and_eq_true] at h
    have h1 : last < r.block ∧ r.block < b ∧ (r.data.size : Int) = if r.free then 0 else z := of_decide_eq_true h.1
    have h2 := lastOf_ge b z xs r.block h.2
    simp only [lastOf]
    omega
/-- A part of records that are right is right. -/
theorem recsOk_part (b z : Int) (rs : List Rc) (h : recsOk b z (-1) rs = true) (i j : Nat) : ∃ last, -1 ≤ last ∧ recsOk b z last ((rs.take j).drop i) = true := by
  have h1 := recsOk_append b z (rs.take j) (-1) (rs.drop j)
  rw [List.take_append_drop, h] at h1
  have h2 : recsOk b z (-1) (rs.take j) = true := by
    cases h3 : recsOk b z (-1) (rs.take j) with
    | true => rfl
    | false => rw [h3] at h1; simp at h1
  have h4 := recsOk_append b z ((rs.take j).take i) (-1) ((rs.take j).drop i)
  rw [List.take_append_drop, h2] at h4
  have h5 := h4.symm
  rw [Bool.and_eq_true] at h5
  exact ⟨_, lastOf_ge b z _ _ h5.1, h5.2⟩
end Go.Proofs.Ytdjmhagclcfnfaa
/- How records are cut into pieces, as mathematics. -/
namespace Go.Proofs.Ytdjmhagclcfnfaa

/-- One more record: the pieces that are closed, the open one, its bytes. -/
def cutStep (limit : Int) (s : List (List Rc) × List Rc × Nat) (r : Rc) : List (List Rc) × List Rc × Nat :=
  if limit < ((s.2.2 + lenR r : Nat) : Int) then (s.1 ++ [s.2.1], [r], 28 + lenR r) else (s.1, s.2.1 ++ [r], s.2.2 + lenR r)
def cutS (limit : Int) (rs : List Rc) : List (List Rc) × List Rc × Nat := rs.foldl (cutStep limit) ([], [], 28)
theorem cutS_snoc (limit : Int) (rs : List Rc) (r : Rc) : cutS limit (rs ++ [r]) = cutStep limit (cutS limit rs) r := by simp [cutS, List.foldl_append]

/-- The pieces between starts. -/
def pcs : List Nat → List Rc → List (List Rc)
  | [], _ => []
  | [s], L => [L.drop s]
  | s :: s' :: st, L => (L.take s').drop s :: pcs (s' :: st) L

theorem partR_succ (s : Nat) (st : List Nat) (L : List Rc) (i : Nat) : partR (s :: st) L (i + 1) = partR st L i := by
  simp [partR, endAt]
theorem pcs_eq : ∀ (st : List Nat) (L : List Rc), (List.range st.length).map (partR st L) = pcs st L
  | [], _ => rfl
  | [s], L => by simp [pcs, partR, endAt]
  | s :: s' :: st, L => by
    rw [pcs, ← pcs_eq (s' :: st) L, List.length_cons, List.range_succ_eq_map, List.map_cons, List.map_map]
    congr 1

theorem pcs_snoc (r : Rc) (L : List Rc) : ∀ (st : List Nat), st ≠ [] → (∀ x ∈ st, x ≤ L.length) → pcs (st ++ [L.length]) (L ++ [r]) = pcs st L ++ [[r]]
  | [], h, _ => absurd rfl h
  | [s], _, hx => by
    have := hx s (by simp)
    simp [pcs]
  | s :: s' :: st, _, hx => by
    have h1 := hx s' (by simp)
    rw [List.cons_append, List.cons_append, pcs, pcs, ← List.cons_append, pcs_snoc r L (s' :: st) (by simp) (fun x h => hx x (by simp [h])), List.take_append_of_le_length h1]
    rfl
theorem pcs_more (r : Rc) (L : List Rc) : ∀ (st : List Nat) (ps : List (List Rc)) (cur : List Rc), (∀ x ∈ st, x ≤ L.length) → pcs st L = ps ++ [cur] → pcs st (L ++ [r]) = ps ++ [cur ++ [r]]
  | [], ps, cur, _, h => by simp [pcs] at h
  | [s], ps, cur, hx, h => by
    have h1 := hx s (by simp)
    simp only [pcs] at h ⊢
    cases ps with
    | nil =>
      simp only [List.nil_append, List.cons.injEq, and_true] at h ⊢
      rw [List.drop_append_of_le_length h1, h]
    | cons p ps => simp at h
  | s :: s' :: st, ps, cur, hx, h => by
    have h1 := hx s' (by simp)
    rw [pcs] at h ⊢
    cases ps with
    | nil =>
      simp only [List.nil_append, List.cons.injEq] at h
      cases st with
      | nil => simp [pcs] at h
      | cons a st => simp [pcs] at h
    | cons p ps =>
      simp only [List.cons_append, List.cons.injEq] at h ⊢
      rw [List.take_append_of_le_length h1, pcs_more r L (s' :: st) ps cur (fun x hh => hx x (by simp [hh])) h.2]
      exact ⟨h.1, rfl⟩

theorem cut_starts (limit : Int) (rs : List Rc) : ∀ k, k ≤ rs.length → (cutS limit (rs.take k)).1 ++ [(cutS limit (rs.take k)).2.1] = pcs (stK limit rs k).1 (rs.take k) ∧ (cutS limit (rs.take k)).2.2 = (stK limit rs k).2
  | 0, _ => by simp [cutS, stK, pcs]
  | k + 1, h => by
    obtain ⟨h1, h2⟩ := cut_starts limit rs k (by omega)
    obtain ⟨u1, -, -, u4, -⟩ := stK_up limit rs k (by omega)
    have hl : (rs.take k).length = k := by rw [List.length_take]; omega
    have hne : (stK limit rs k).1 ≠ [] := fun e => by rw [e] at u4; simp at u4
    have hx : ∀ x ∈ (stK limit rs k).1, x ≤ (rs.take k).length := fun x hx => by rw [hl]; exact u1 x hx
    rw [List.take_succ_eq_append_getElem (by omega), cutS_snoc, stK_succ limit rs k (by omega)]
    unfold cutStep stepSt
    rw [h2]
    by_cases hc : limit < (((stK limit rs k).2 + lenR rs[k] : Nat) : Int)
    · rw [if_pos hc, if_pos hc]
      refine ⟨?_, rfl⟩
      have := pcs_snoc rs[k] (rs.take k) _ hne hx
      rw [hl] at this
      simp only []
      rw [this, h1]
    · rw [if_neg hc, if_neg hc]
      exact ⟨(pcs_more rs[k] (rs.take k) _ _ _ hx h1.symm).symm, rfl⟩
/-- The pieces are the parts. -/
theorem cut_parts (limit : Int) (rs : List Rc) : (cutS limit rs).1 ++ [(cutS limit rs).2.1] = (List.range (startsR limit rs).length).map (partR (startsR limit rs) rs) := by
  have h := (cut_starts limit rs rs.length (Nat.le_refl _)).1
  rw [List.take_length] at h
  rw [h, pcs_eq]
  rfl
theorem cut_len (limit : Int) (rs : List Rc) : ((cutS limit rs).1).length ≤ rs.length := by
  have h := congrArg List.length (cut_parts limit rs)
  obtain ⟨-, -, u3, -, -⟩ := stK_up limit rs rs.length (Nat.le_refl _)
  simp only [List.length_append, List.length_cons, List.length_nil, List.length_map, List.length_range] at h
  unfold startsR at h
  omega
theorem cut_fold (limit : Int) : ∀ (xs : List Rc) (s : List (List Rc) × List Rc × Nat), (∀ r ∈ xs, lenR r ≤ 67) → 28 ≤ s.2.2 → (xs.foldl (cutStep limit) s).2.2 ≤ s.2.2 + 67 * xs.length ∧ (xs.foldl (cutStep limit) s).2.1.length ≤ s.2.1.length + xs.length
  | [], s, _, _ => ⟨by simp, by simp⟩
  | x :: xs, s, h, hs => by
    rw [List.foldl_cons]
    have hx := h x (by simp)
    have hc : 28 ≤ (cutStep limit s x).2.2 ∧ (cutStep limit s x).2.2 ≤ s.2.2 + 67 ∧ (cutStep limit s x).2.1.length ≤ s.2.1.length + 1 := by
      unfold cutStep
      split
      · exact ⟨by simp, by simp; omega, by simp⟩
      · exact ⟨by simp; omega, by simp; omega, by simp⟩
    obtain ⟨h1, h2⟩ := cut_fold limit xs (cutStep limit s x) (fun r hr => h r (by simp [hr])) hc.1
    rw [List.length_cons]
    exact ⟨by omega, by omega⟩
theorem cut_small (limit : Int) (rs : List Rc) (h : ∀ r ∈ rs, lenR r ≤ 67) : (cutS limit rs).2.2 ≤ 28 + 67 * rs.length ∧ (cutS limit rs).2.1.length ≤ rs.length := by
  obtain ⟨h1, h2⟩ := cut_fold limit rs ([], [], 28) h (by simp)
  exact ⟨h1, by simpa [cutS] using h2⟩
end Go.Proofs.Ytdjmhagclcfnfaa
/- The law Writes: its walk. -/
namespace Go.Proofs.Ytdjmhagclcfnfaa
open Go.RowKit Go.Shelf


/-- Records as cells. -/
def recCells (rs : List Rc) : List Value := rs.flatMap fun r => [.bool r.free, .int .i64 r.block, .string r.data]
theorem recCells_length (rs : List Rc) : (recCells rs).length = rs.length * 3 := by
  induction rs with
  | nil => rfl
  | cons r rs ih => simp only [recCells, List.flatMap_cons, List.length_append, List.length_cons, List.length_nil] at *; omega
theorem recCells_at : ∀ (rs : List Rc) (k : Nat) (h : k < rs.length), (recCells rs)[k * 3]? = some (.bool rs[k].free) ∧ (recCells rs)[k * 3 + 1]? = some (.int .i64 rs[k].block) ∧ (recCells rs)[k * 3 + 2]? = some (.string rs[k].data)
  | [], k, h => by simp at h
  | r :: rs, 0, _ => by simp [recCells]
  | r :: rs, k + 1, h => by
    have ih := recCells_at rs k (by simpa using h)
    have e : recCells (r :: rs) = [.bool r.free, .int .i64 r.block, .string r.data] ++ recCells rs := by simp [recCells]
    rw [e]
    have e3 : ∀ i, ([Value.bool r.free, .int .i64 r.block, .string r.data] ++ recCells rs)[(k + 1) * 3 + i]? = (recCells rs)[k * 3 + i]? := by
      intro i
      rw [List.getElem?_append_right (by simp; omega)]
      congr 1
      simp; omega
    have e0 := e3 0
    simp only [Nat.add_zero] at e0
    rw [e0, e3 1, e3 2]
    simpa using ih
theorem recCells_one (rs : List Rc) : ∀ u ∈ recCells rs, u.oneCell' = true := by
  intro u hu
  simp only [recCells, List.mem_flatMap] at hu
  obtain ⟨r, _, hr⟩ := hu
  simp at hr
  rcases hr with rfl | rfl | rfl <;> rfl
/-- All cells of a slice of records. -/
theorem Recs.cells {B : Nat} {W : World} {b off l cap : Nat} {rs : List Rc} (h : Recs B W (.slice (some ⟨b, off, none⟩) l cap) rs) : ∀ j v, (recCells rs)[j]? = some v → W.cell? ⟨b, off + j, none⟩ = some v := by
  intro j v hj
  have hlt : j < rs.length * 3 := by rw [← recCells_length]; exact (List.getElem?_eq_some_iff.1 hj).1
  obtain ⟨b', off', e, _, q0, q1, q2⟩ := h.at (k := j / 3) (by omega)
  simp only [Option.some.injEq, Addr.mk.injEq] at e
  obtain ⟨rfl, rfl, _⟩ := e
  obtain ⟨p0, p1, p2⟩ := recCells_at rs (j / 3) (by omega)
  have hm : j % 3 = 0 ∨ j % 3 = 1 ∨ j % 3 = 2 := by omega
  rcases hm with hm | hm | hm
  · have e : j = j / 3 * 3 := by omega
    rw [e] at hj ⊢
    rw [p0] at hj; cases hj; exact q0
  · have e : j = j / 3 * 3 + 1 := by omega
    rw [e] at hj ⊢
    rw [p1] at hj; cases hj; exact q1
  · have e : j = j / 3 * 3 + 2 := by omega
    rw [e] at hj ⊢
    rw [p2] at hj; cases hj; exact q2

/-- 'copy(given, records)': into a row that is known whole. -/
theorem run_copy_recs (w : World) (ty : TypeId) (g dLen dCap : Nat) (sv : Value) (rs : List Rc) (cur : Array Value) (hg : w.heap[g]? = some (.cells cur 34 (0, 0))) (hR : Recs w.heap.size w sv rs) (hd : rs.length ≤ dLen) (hfit : rs.length * 3 ≤ cur.size) :
    (Builtin.copy_ #[22, 22] ty #[.slice (some ⟨g, 0, none⟩) dLen dCap, sv]).run Try.prog w = .ok (goInt rs.length) (w.setRow g (recCells rs ++ cur.toList.drop (rs.length * 3)).toArray) := by
  obtain ⟨i0, hi, hz0, hz1, hz2⟩ := info_parts Try.infoRec
  obtain ⟨a, cap, rfl⟩ := hR.slice
  have hst := run_storeCells_at Try.prog g 0 34 (recCells rs) 0 cur w hg (by rw [recCells_length]; omega) (recCells_one rs)
  have hl : (Builtin.firstCells 3 rs.length (.slice a rs.length cap)).run Try.prog w = .ok (recCells rs).toArray w := by
    cases rs with
    | nil =>
      cases a with
      | none => simp [Builtin.firstCells, recCells]
      | some ad => simp [Builtin.firstCells, recCells, loadCells, loadCellsFrom]
    | cons r rs' =>
      obtain ⟨b, off, e, _⟩ := hR.at (k := 0) (by simp)
      subst e
      have := run_loadCells_list (P := Try.prog) w ⟨b, off, none⟩ (recCells (r :: rs')) (fun j v hj => by
        rw [Addr.add_lit]; exact hR.cells j v hj)
      rw [recCells_length] at this
      simpa [Builtin.firstCells] using this
  have hm : min rs.length dLen = rs.length := Nat.min_eq_left hd
  simp only [Nat.add_zero, Nat.zero_add, List.take_zero, List.nil_append, recCells_length] at hst
  simp [Builtin.copy_, run_underlying Try.underlying22, Builtin.lenOf, sizeOf, typeInfo, hi, hz1, hm, hl, hst]

/-- Both Serializes answer one and the same, whatever slice holds the records. -/
theorem ser_both (f t b z : Int) (rs : List Rc) (hlen : rs.length ≤ 4611686018427387904) : ∃ (X : ByteArray) (E : Int),
    (∀ sv w, Recs w.heap.size w sv rs → Calls Try.prog 18 #[.agg #[.int .i64 f, .int .i64 t, .int .i64 b, .int .i64 z, sv]] w fun e w' => e = .returned (.tuple #[.string X, .int .i64 E]) ∧ Below w.heap.size w w') ∧
    (∀ sv w, Recs w.heap.size w sv rs → Calls Try.prog 19 #[.agg #[.int .i64 f, .int .i64 t, .int .i64 b, .int .i64 z, sv]] w fun e w' => e = .returned (.tuple #[.string X, .int .i64 E]) ∧ Below w.heap.size w w') := by
  cases h : (wellHead f t b z && recsOk b z (-1) rs) with
  | false => exact ⟨_, _, fun sv w hR => pser_bad f t b z sv rs w hR hlen h, fun sv w hR => ser_bad f t b z sv rs w hR hlen h⟩
  | true =>
    rw [Bool.and_eq_true] at h
    obtain ⟨h1, h2, h3, h4, h5, h6, h7, h8, h9⟩ : 0 ≤ f ∧ f ≤ 2147483647 ∧ 1 ≤ t ∧ t ≤ 2147483647 ∧ f ≠ t ∧ 1 ≤ b ∧ b ≤ 100 ∧ 1 ≤ z ∧ z ≤ 64 := of_decide_eq_true h.1
    obtain ⟨f, rfl⟩ := Int.eq_ofNat_of_zero_le h1
    obtain ⟨t, rfl⟩ := Int.eq_ofNat_of_zero_le (show 0 ≤ t by omega)
    obtain ⟨b, rfl⟩ := Int.eq_ofNat_of_zero_le (show 0 ≤ b by omega)
    obtain ⟨z, rfl⟩ := Int.eq_ofNat_of_zero_le (show 0 ≤ z by omega)
    exact ⟨_, _, fun sv w hR => pser_good f t b z sv rs w hR h.1 h.2, fun sv w hR => ser_good f t b z sv rs w hR h.1 h.2⟩

theorem below_dr (w : World) (n : Nat) : Below w.heap.size w (w.drewN n) := ⟨rfl, rfl, rfl, Nat.le_refl _, fun _ _ => rfl⟩
/-- A block that begins with records. -/
theorem Recs.of_block {W : World} {g : Nat} {cs : Array Value} {t : TypeId} {rs : List Rc} (h : W.heap[g]? = some (.cells cs t (0, 0))) (hc : ∀ j, j < rs.length * 3 → cs[j]? = (recCells rs)[j]?) (cap : Nat) : Recs W.heap.size W (.slice (some ⟨g, 0, none⟩) rs.length cap) rs := by
  refine .inr ⟨g, 0, cap, rfl, (Array.getElem?_eq_some_iff.1 h).1, fun j hj => ?_⟩
  obtain ⟨p0, p1, p2⟩ := recCells_at rs j hj
  refine ⟨boxed_cell h ?_, boxed_cell h ?_, boxed_cell h ?_⟩
  · rw [hc _ (by omega), Nat.zero_add]; exact p0
  · rw [hc _ (by omega), Nat.zero_add]; exact p1
  · rw [hc _ (by omega), Nat.zero_add]; exact p2


set_option maxRecDepth 100000 in
set_option maxHeartbeats 1000000 in
theorem writes_walk (f t b z : Int) (sv : Value) (rs : List Rc) (w : World) (hR : Recs w.heap.size w sv rs) (hlen : rs.length * 32 ≤ 140737488355328) :
    Calls Try.prog 4 #[.agg #[.int .i64 f, .int .i64 t, .int .i64 b, .int .i64 z, sv]] w fun e w' => e = .returned (.bool true) ∧ Below w.heap.size w w' := by
  obtain ⟨i0, hi, hz0, hz1, hz2⟩ := info_parts Try.infoRec
  obtain ⟨a, cap, rfl⟩ := hR.slice
  have hmk : ∀ W : World, (Instr.makeSlice 22 (.int .i64 (rs.length + 2)) (.int .i64 (rs.length + 2))).run Try.prog W = .ok (.slice (some ⟨W.heap.size, 0, none⟩) (rs.length + 2) (rs.length + 2)) (W.alloc (.cells (madeCells (Value.agg #[.bool false, .int .i64 0, .string ⟨#[]⟩]).cells ((rs.length + 2) * 3)) 34)) := by
    intro W
    have := run_make (P := Try.prog) W 22 34 i0 _ Try.underlying22 hi hz0 .i64 .i64 ((rs.length : Int) + 2) ((rs.length : Int) + 2) (by omega) (Int.le_refl _) (by rw [hz2]; omega) (by omega)
    rw [hz1, show ((rs.length : Int) + 2).toNat = rs.length + 2 from by omega] at this
    exact this
  obtain ⟨O, hO⟩ : ∃ O, O = Obj.cells #[.int .i64 f, .int .i64 t, .int .i64 b, .int .i64 z, .slice a rs.length cap] 24 := ⟨_, rfl⟩
  obtain ⟨M, hM⟩ : ∃ M, M = madeCells (Value.agg #[.bool false, .int .i64 0, .string ⟨#[]⟩]).cells ((rs.length + 2) * 3) := ⟨_, rfl⟩
  have hMs : M.size = (rs.length + 2) * 3 := by rw [hM]; exact size_madeCells _ _
  have hB1 : Below w.heap.size w ((w.alloc O).alloc (.cells M 34)) := ((Below.refl _ _).alloc (Nat.le_refl _) _).alloc (by simp) _
  have hG1 : ((w.alloc O).alloc (.cells M 34)).heap[w.heap.size + 1]? = some (.cells M 34 (0, 0)) := by
    have := World.alloc_heap_new (w.alloc O) (.cells M 34)
    rwa [World.size_alloc] at this
  have hS1 : ((w.alloc O).alloc (.cells M 34)).heap[w.heap.size]? = some O := (Below.heap_alloc _ _ _ (by simp)).trans (World.alloc_heap_new w O)
  have hcp := run_copy_recs ((w.alloc O).alloc (.cells M 34)) 3 (w.heap.size + 1) (rs.length + 2) (rs.length + 2) (.slice a rs.length cap) rs M hG1 (hR.moved hB1) (by omega) (by omega)
  obtain ⟨W2, hW2⟩ : ∃ W2, W2 = ((w.alloc O).alloc (.cells M 34)).setRow (w.heap.size + 1) (recCells rs ++ M.toList.drop (rs.length * 3)).toArray := ⟨_, rfl⟩
  have hG2 : W2.heap[w.heap.size + 1]? = some (.cells (recCells rs ++ M.toList.drop (rs.length * 3)).toArray 34 (0, 0)) := by
    rw [hW2]; exact setRow_heap _ _ _ _ _ _ hG1
  have hS2 : W2.heap[w.heap.size]? = some O := by
    rw [hW2]; exact (setRow_other _ _ _ _ (by omega)).trans hS1
  have hB2 : Below w.heap.size w W2 := by
    rw [hW2]; exact hB1.trans ⟨rfl, rfl, rfl, by simp [World.setRow], fun k hk => setRow_other _ _ _ _ (by omega)⟩
  have hs2 : W2.heap.size = w.heap.size + 2 := by rw [hW2]; simp [World.setRow]
  rw [← hW2] at hcp
  rw [← hM] at hmk
  have HM : Hid _ := hM
  clear hW2 hG1 hS1 hB1 hM
  rw [hO] at hcp
  have harr : (recCells rs ++ M.toList.drop (rs.length * 3)).toArray.size = (rs.length + 2) * 3 := by
    simp [recCells_length, hMs]; omega
  generalize hA : (recCells rs ++ M.toList.drop (rs.length * 3)).toArray = A at *
  have HA : Hid _ := hA
  clear hA
  obtain ⟨x1, u1⟩ : ∃ v, W2.cell? ⟨w.heap.size + 1, rs.length * 3 + 1, none⟩ = some v := ⟨_, boxed_cell hG2 (Array.getElem?_eq_getElem (by omega))⟩
  obtain ⟨x2, u2⟩ : ∃ v, W2.cell? ⟨w.heap.size + 1, (rs.length + 1) * 3 + 1, none⟩ = some v := ⟨_, boxed_cell hG2 (Array.getElem?_eq_getElem (by omega))⟩
  have hfr : ∀ o, W2.frozen? ⟨w.heap.size + 1, o, none⟩ = false := fun o => boxed_frozen hG2
  subst hO
  have s0 := boxed_cell (i := 0) hS2 rfl
  have s1 := boxed_cell (i := 1) hS2 rfl
  have s2 := boxed_cell (i := 2) hS2 rfl
  have s3 := boxed_cell (i := 3) hS2 rfl
  have s4 := boxed_cell (i := 4) hS2 rfl
  have hne : ¬ rs.length * 3 + 1 = (rs.length + 1) * 3 + 1 := by omega
  have HG2 : Hid _ := hG2
  have HS2 : Hid _ := hS2
  clear hG2 hS2
  have hnil := fun (x : Option Addr) (l c : Nat) (W : World) => Lib.run_eql_slice_nil (P := Try.prog) W 22 34 x l c 0 0 Try.underlying22
  obtain ⟨X, E, hP, hQ⟩ := ser_both f t b z rs (by omega)
  have HP : Hid _ := hP
  have HQ : Hid _ := hQ
  clear hP hQ
  -- what lies ahead of the first call
  obtain ⟨W3, hW3⟩ : ∃ W3, W3 = (W2.setCell ⟨w.heap.size + 1, rs.length * 3 + 1, none⟩ (.int .i64 77)).setCell ⟨w.heap.size + 1, (rs.length + 1) * 3 + 1, none⟩ (.int .i64 77) := ⟨_, rfl⟩
  have hG3 : W3.heap[w.heap.size + 1]? = some (.cells ((A.setIfInBounds (rs.length * 3 + 1) (.int .i64 77)).setIfInBounds ((rs.length + 1) * 3 + 1) (.int .i64 77)) 34 (0, 0)) := by
    rw [hW3]; exact block_set (block_set HG2.out _) _
  have hS3 : W3.heap[w.heap.size]? = some (.cells #[.int .i64 f, .int .i64 t, .int .i64 b, .int .i64 z, .slice a rs.length cap] 24 (0, 0)) := by
    rw [hW3]; exact (Below.heap_setCell _ _ _ _ (by simp)).trans ((Below.heap_setCell _ _ _ _ (by simp)).trans HS2.out)
  have hB3 : Below w.heap.size w W3 := by
    rw [hW3]; exact (hB2.setCell (p := ⟨w.heap.size + 1, rs.length * 3 + 1, none⟩) (by simp) _).setCell (p := ⟨w.heap.size + 1, (rs.length + 1) * 3 + 1, none⟩) (by simp) _
  have hs3 : W3.heap.size = w.heap.size + 2 := by
    rw [hW3]
    simp only [World.size_setCell]
    exact hs2
  have hRG : Recs W3.heap.size W3 (.slice (some ⟨w.heap.size + 1, 0, none⟩) rs.length (rs.length + 2)) rs := by
    refine Recs.of_block hG3 (fun j hj => ?_) _
    rw [Array.getElem?_setIfInBounds_ne (by omega), Array.getElem?_setIfInBounds_ne (by omega), ← HA.out]
    rw [List.getElem?_toArray, List.getElem?_append_left (by rw [recCells_length]; exact hj)]
  have hz1 : ((A.setIfInBounds (rs.length * 3 + 1) (.int .i64 77)).setIfInBounds ((rs.length + 1) * 3 + 1) (.int .i64 77))[rs.length * 3 + 1]? = some (.int .i64 77) := by
    rw [Array.getElem?_setIfInBounds_ne (by omega), Array.getElem?_setIfInBounds, if_pos rfl, if_pos (by omega)]
  have hz2 : ((A.setIfInBounds (rs.length * 3 + 1) (.int .i64 77)).setIfInBounds ((rs.length + 1) * 3 + 1) (.int .i64 77))[(rs.length + 1) * 3 + 1]? = some (.int .i64 77) := by
    rw [Array.getElem?_setIfInBounds, if_pos rfl, if_pos (by rw [Array.size_setIfInBounds]; omega)]
  have hRs : Recs W3.heap.size W3 (.slice a rs.length cap) rs := hR.moved hB3
  have HG3 : Hid _ := hG3
  have HS3 : Hid _ := hS3
  have HRG : Hid _ := hRG
  have HRs : Hid _ := hRs
  clear hG3 hS3 hRG hRs HG2 HS2 HA HM
  cases a with
  | none =>
    have HN : Hid (rs = []) := by
      rcases hR with ⟨h0, _⟩ | ⟨b', off', cap', e, _⟩
      · exact h0
      · simp only [Value.slice.injEq] at e; cases e.1
    go_enter Try.func4, Try.ntmps4
    go_wp2_with fail
    rw [← hW3]
    clear hmk hcp u1 u2 hfr s0 s1 s2 s3 s4 hW3 hs2 hB2 hnil
    refine (HP.out _ _ ?hrt).mono ?_
    case hrt => exact .inl ⟨HN.out, none, 0, rfl⟩
    rintro e w4 ⟨rfl, hb4⟩
    replace hb4 : Below W3.heap.size W3 w4 := ((Below.refl _ _).alloc (Nat.le_refl _) _).trans (hb4.mono (by simp))
    have s0 := boxed_cell (i := 0) (v := .int .i64 f) ((hb4.block _ (by omega)).trans HS3.out) rfl
    have s1 := boxed_cell (i := 1) (v := .int .i64 t) ((hb4.block _ (by omega)).trans HS3.out) rfl
    have s2 := boxed_cell (i := 2) (v := .int .i64 b) ((hb4.block _ (by omega)).trans HS3.out) rfl
    have s3 := boxed_cell (i := 3) (v := .int .i64 z) ((hb4.block _ (by omega)).trans HS3.out) rfl
    have s4 := boxed_cell (i := 4) (v := .slice none rs.length cap) ((hb4.block _ (by omega)).trans HS3.out) rfl
    go_wp2_with fail
    refine (HQ.out _ _ ?hrt).mono ?_
    case hrt => exact Recs.moved HRs.out hb4
    rintro e w5 ⟨rfl, hb5⟩
    replace hb5 : Below W3.heap.size W3 w5 := hb4.trans (hb5.mono hb4.size)
    clear s0 s1 s2 s3 s4 hb4
    have s4 := boxed_cell (i := 4) (v := .slice none rs.length cap) ((hb5.block _ (by omega)).trans HS3.out) rfl
    have g1 := boxed_cell ((hb5.block _ (by omega)).trans HG3.out) hz1
    have g2 := boxed_cell ((hb5.block _ (by omega)).trans HG3.out) hz2
    have HR1 : Hid _ := Recs.moved HRG.out hb5
    have HR2 : Hid _ := Recs.moved HRs.out hb5
    have HBe : Hid _ := hB3.trans (hb5.mono hB3.size)
    go_wp2
    go_quiet ((go_at_call 20; exact Calls.quiet_of (same_any _ _ rs _ (Recs.moved HR1.out (below_dr _ _)) (Recs.moved HR2.out (below_dr _ _)) (by omega))))
    go_wp2
    go_ret
    exact ⟨rfl, HBe.out.trans ((below_dr w5 _).mono (HBe.out.size))⟩
  | some ad =>
    go_enter Try.func4, Try.ntmps4
    go_wp2_with fail
    rw [← hW3]
    clear hmk hcp u1 u2 hfr s0 s1 s2 s3 s4 hW3 hs2 hB2 hnil
    refine (HP.out _ _ ?hrt).mono ?_
    case hrt => exact Recs.moved HRG.out ((Below.refl _ _).alloc (Nat.le_refl _) _)
    rintro e w4 ⟨rfl, hb4⟩
    replace hb4 : Below W3.heap.size W3 w4 := ((Below.refl _ _).alloc (Nat.le_refl _) _).trans (hb4.mono (by simp))
    have s0 := boxed_cell (i := 0) (v := .int .i64 f) ((hb4.block _ (by omega)).trans HS3.out) rfl
    have s1 := boxed_cell (i := 1) (v := .int .i64 t) ((hb4.block _ (by omega)).trans HS3.out) rfl
    have s2 := boxed_cell (i := 2) (v := .int .i64 b) ((hb4.block _ (by omega)).trans HS3.out) rfl
    have s3 := boxed_cell (i := 3) (v := .int .i64 z) ((hb4.block _ (by omega)).trans HS3.out) rfl
    have s4 := boxed_cell (i := 4) (v := .slice (some ad) rs.length cap) ((hb4.block _ (by omega)).trans HS3.out) rfl
    go_wp2_with fail
    refine (HQ.out _ _ ?hrt).mono ?_
    case hrt => exact Recs.moved HRs.out hb4
    rintro e w5 ⟨rfl, hb5⟩
    replace hb5 : Below W3.heap.size W3 w5 := hb4.trans (hb5.mono hb4.size)
    clear s0 s1 s2 s3 s4 hb4
    have s4 := boxed_cell (i := 4) (v := .slice (some ad) rs.length cap) ((hb5.block _ (by omega)).trans HS3.out) rfl
    have g1 := boxed_cell ((hb5.block _ (by omega)).trans HG3.out) hz1
    have g2 := boxed_cell ((hb5.block _ (by omega)).trans HG3.out) hz2
    have HR1 : Hid _ := Recs.moved HRG.out hb5
    have HR2 : Hid _ := Recs.moved HRs.out hb5
    have HBe : Hid _ := hB3.trans (hb5.mono hB3.size)
    go_wp2
    go_quiet ((go_at_call 20; exact Calls.quiet_of (same_any _ _ rs _ (Recs.moved HR1.out (below_dr _ _)) (Recs.moved HR2.out (below_dr _ _)) (by omega))))
    go_wp2
    go_ret
    exact ⟨rfl, HBe.out.trans ((below_dr w5 _).mono (HBe.out.size))⟩
end Go.Proofs.Ytdjmhagclcfnfaa
/- The statement on Writes. -/
namespace Go.Proofs.Ytdjmhagclcfnfaa
open Go.ChangeShapes Go.WideShapes Go.ChangeAt Go.RowKit

theorem Try.own : ownKnob Try.prog.godebug = none := by kernel_rfl
theorem Try.laidOut : laidOutB Try.prog = true := by kernel_rfl
theorem Try.cellsStream : Try.prog.cellsOf 24 = 5 := by kernel_rfl
theorem Try.cellsRecord : Try.prog.cellsOf 34 = 3 := by kernel_rfl
theorem Try.cellsRecords : Try.prog.cellsOf 22 = 1 := by kernel_rfl
theorem Try.cellsInt : Try.prog.cellsOf 3 = 1 := by kernel_rfl
theorem Try.cellsBool : Try.prog.cellsOf 4 = 1 := by kernel_rfl
theorem Try.cellsString : Try.prog.cellsOf 9 = 1 := by kernel_rfl
theorem Try.bytesRecord : Try.prog.bytesOf 34 = 32 := by kernel_rfl

theorem list3 {α : Type} : ∀ {l : List α}, l.length = 3 → ∃ a b c, l = [a, b, c]
  | [a, b, c], _ => ⟨a, b, c, rfl⟩
theorem list5 {α : Type} : ∀ {l : List α}, l.length = 5 → ∃ a b c d e, l = [a, b, c, d, e]
  | [a, b, c, d, e], _ => ⟨a, b, c, d, e, rfl⟩

/-- A slice of records, opened. -/
theorem open_recs {H : Type} {enc : TypeId × Value → H} {W : World} {fuel : Nat} {v : Value} {x : DataW H × List MemPlace} (h : DataW.trod enc Try.prog W 0 (fun _ => true) true fuel 22 [v] = some x) :
    ∃ rs : List Rc, Recs W.heap.size W v rs ∧ ((v = .slice none 0 0 ∧ x.1 = .nil) ∨ ∃ a cap el sp, v = .slice (some a) rs.length cap ∧ x.1 = .slice el sp ∧ el.length = rs.length) := by
  rcases Deep.open_slice Try.underlying22 h with ⟨e, hx⟩ | ⟨a, len, cap, m, n, D, Pl, e, hb, hl, hm, hmm, rfl, hx⟩
  · simp at e
    exact ⟨[], .inl ⟨rfl, none, 0, e⟩, .inl ⟨e, by rw [hx]⟩⟩
  · simp at e
    subst e
    simp only [if_true] at hmm
    subst hmm
    have each : ∀ i, i < len → ∃ r : Rc, W.cell? (a.add (i * 3)) = some (.bool r.free) ∧ W.cell? (a.add (i * 3 + 1)) = some (.int .i64 r.block) ∧ W.cell? (a.add (i * 3 + 2)) = some (.string r.data) := by
      intro i hi
      obtain ⟨cs', h1, h2⟩ := hx i (by omega)
      rw [Try.cellsRecord] at h1
      obtain ⟨_, hlen, hcell⟩ := World.cells?_some h1
      obtain ⟨y0, y1, y2, k, _, _, g0, g1, g2⟩ := Deep.trod_struct3 Try.underlying34 h2
      obtain ⟨v0, v1, v2, rfl⟩ := list3 hlen
      simp only [Try.cellsBool, Try.cellsInt, Try.cellsString, List.drop_zero, List.drop_succ_cons, List.take_succ_cons, List.take_zero] at g0 g1 g2
      obtain ⟨b0, e0, _⟩ := DataW.trod_bool Try.underlying4 g0
      obtain ⟨n1, e1, _⟩ := DataW.trod_int Try.underlying3 g1
      obtain ⟨s2, e2, _⟩ := DataW.trod_string Try.underlying9 g2
      simp at e0 e1 e2
      subst e0 e1 e2
      have c0 := hcell 0 (by omega)
      have c1 := hcell 1 (by omega)
      have c2 := hcell 2 (by omega)
      rw [Deep.add_add] at c0 c1 c2
      exact ⟨⟨b0, n1, s2⟩, by simpa using c0, by simpa using c1, by simpa using c2⟩
    obtain ⟨rs, hrl, hrs⟩ : ∃ rs : List Rc, rs.length = len ∧ ∀ i (h : i < rs.length), W.cell? (a.add (i * 3)) = some (.bool rs[i].free) ∧ W.cell? (a.add (i * 3 + 1)) = some (.int .i64 rs[i].block) ∧ W.cell? (a.add (i * 3 + 2)) = some (.string rs[i].data) := by
      obtain ⟨f, hf⟩ : ∃ f : Nat → Rc, ∀ i, i < len → W.cell? (a.add (i * 3)) = some (.bool (f i).free) ∧ W.cell? (a.add (i * 3 + 1)) = some (.int .i64 (f i).block) ∧ W.cell? (a.add (i * 3 + 2)) = some (.string (f i).data) :=
        ⟨fun i => if h : i < len then Classical.choose (each i h) else ⟨false, 0, ByteArray.empty⟩, fun i hi => by simp only [dif_pos hi]; exact Classical.choose_spec (each i hi)⟩
      exact ⟨(List.range len).map f, by simp, fun i hi => by simpa using hf i (by simpa using hi)⟩
    subst hrl
    refine ⟨rs, ?_, .inr ⟨a, m, _, _, rfl, rfl, by simp⟩⟩
    cases hr0 : rs with
    | nil => exact .inl ⟨rfl, some a, m, rfl⟩
    | cons r rs' =>
      rw [← hr0]
      have hpos : 0 < rs.length := by rw [hr0]; simp
      obtain ⟨b, off, spot⟩ := a
      have hspot : spot = none := by
        have := World.cell?_spot (hrs 0 hpos).1
        simpa [Addr.add] using this
      subst hspot
      refine .inr ⟨b, off, m, rfl, ?_, fun j hj => ?_⟩
      · exact World.block_lt_of_cell? W _ (hrs 0 hpos).1
      · have := hrs j hj
        simpa only [Addr.add_lit, Nat.add_assoc] using this

set_option maxRecDepth 100000 in
/-- A stream, opened. -/
theorem open_stream {H : Type} {enc : TypeId × Value → H} {W : World} {base : Nat} {v : Value} {d : DataW H} {p : List MemPlace} (hv : Value.okWide Try.prog W .any base 24 v) (h : DataW.Trod enc Try.prog W 0 (fun _ => true) true 24 v d p) :
    ∃ (f t b z : Int) (sv : Value) (rs : List Rc), v = .agg #[.int .i64 f, .int .i64 t, .int .i64 b, .int .i64 z, sv] ∧ Recs W.heap.size W sv rs ∧
      ((rs = []) ∨ ∃ d0 d1 d2 d3 el sp, d = .agg [d0, d1, d2, d3, .slice el sp] ∧ el.length = rs.length) := by
  obtain ⟨cs, rfl, hsz⟩ := okWide_struct Try.underlying24 hv
  obtain ⟨fuel, hf⟩ := h
  obtain ⟨xs, n, _, hx, hl, hlen, hfs⟩ := DataW.trod_struct Try.underlying24 hf
  obtain ⟨c0, c1, c2, c3, c4, hcs⟩ := list5 (show cs.toList.length = 5 by rw [← Try.cellsStream]; exact hsz)
  obtain ⟨y0, y1, y2, y3, y4, rfl⟩ := list5 hlen
  obtain rfl : cs = #[c0, c1, c2, c3, c4] := by rw [← hcs]
  have g0 : DataW.trod enc Try.prog W 0 (fun _ => true) true n 3 [c0] = some y0 := by
    have h : DataW.trod enc Try.prog W 0 (fun _ => true) true n 3 (([c0, c1, c2, c3, c4].drop 0).take (Try.prog.cellsOf 3)) = some y0 := hfs 0 _ rfl
    rw [Try.cellsInt] at h
    exact h
  have g1 : DataW.trod enc Try.prog W 0 (fun _ => true) true n 3 [c1] = some y1 := by
    have h : DataW.trod enc Try.prog W 0 (fun _ => true) true n 3 (([c0, c1, c2, c3, c4].drop 1).take (Try.prog.cellsOf 3)) = some y1 := hfs 1 _ rfl
    rw [Try.cellsInt] at h
    exact h
  have g2 : DataW.trod enc Try.prog W 0 (fun _ => true) true n 3 [c2] = some y2 := by
    have h : DataW.trod enc Try.prog W 0 (fun _ => true) true n 3 (([c0, c1, c2, c3, c4].drop 2).take (Try.prog.cellsOf 3)) = some y2 := hfs 2 _ rfl
    rw [Try.cellsInt] at h
    exact h
  have g3 : DataW.trod enc Try.prog W 0 (fun _ => true) true n 3 [c3] = some y3 := by
    have h : DataW.trod enc Try.prog W 0 (fun _ => true) true n 3 (([c0, c1, c2, c3, c4].drop 3).take (Try.prog.cellsOf 3)) = some y3 := hfs 3 _ rfl
    rw [Try.cellsInt] at h
    exact h
  have g4 : DataW.trod enc Try.prog W 0 (fun _ => true) true n 22 [c4] = some y4 := by
    have h : DataW.trod enc Try.prog W 0 (fun _ => true) true n 22 (([c0, c1, c2, c3, c4].drop 4).take (Try.prog.cellsOf 22)) = some y4 := hfs 4 _ rfl
    rw [Try.cellsRecords] at h
    exact h
  obtain ⟨f, e0, _⟩ := DataW.trod_int Try.underlying3 g0
  obtain ⟨t, e1, _⟩ := DataW.trod_int Try.underlying3 g1
  obtain ⟨b, e2, _⟩ := DataW.trod_int Try.underlying3 g2
  obtain ⟨z, e3, _⟩ := DataW.trod_int Try.underlying3 g3
  simp at e0 e1 e2 e3
  subst e0 e1 e2 e3
  obtain ⟨rs, hR, hsh⟩ := open_recs g4
  refine ⟨f, t, b, z, c4, rs, rfl, hR, ?_⟩
  simp only [Prod.mk.injEq] at hx
  rcases hsh with ⟨e, _⟩ | ⟨a, cap, el, sp, _, e, hel⟩
  · left
    subst e
    rcases hR with ⟨h0, _⟩ | ⟨_, _, _, e, _⟩
    · exact h0
    · cases e
  · right
    refine ⟨y0.1, y1.1, y2.1, y3.1, el, sp, ?_, hel⟩
    rw [hx.1]
    simp [e]

set_option maxRecDepth 100000 in
theorem writes_lifted (os : Os) (started : os.Started) (H : Type) (enc : TypeId × Value → H) :
    ReturnsInHanded {} Try.checked os 4 .any (Rows.writesSpec.pre6 enc Try.prog Try.f4 Rows.writesRow.domain false) (Rows.writesSpec.post enc Try.prog Try.f4 false true false false) := by
  refine returnsInHanded_of_change_sized (C := Try.checked) Try.own started (by kernel_rfl) Try.func4
    (ChangeSpec.witness6 (enc := enc) (C := Try.checked) false ⟨#[], #[.agg #[.int .i64 0, .int .i64 0, .int .i64 0, .int .i64 0, .slice none 0 0]], []⟩ 8 (by kernel_rfl) (by kernel_rfl) (by kernel_rfl) (by kernel_rfl)) ?_
  intro W base args ds gs before hval0 hW _ hsz0 _
  have hsz : (DataW.weightsEach Try.prog (Try.f4.params.toList ++ Rows.writesSpec.plain.varTypes Try.prog) (ds ++ gs)).all (· ≤ reachBytes) = true := hsz0
  clear hsz0
  have hval : ∀ (j : Nat) t v, Try.f4.params[j]? = some t → args[j]? = some v → Value.okWide Try.prog W .any base t v := hval0
  have hW' := hW
  obtain ⟨p, q, hA0, hV, rfl, _, _⟩ := hW
  have hA : DataW.TrodAll enc Try.prog W 0 (fun _ => true) true Try.f4.params.toList args.toList ds p := hA0
  rw [Try.params4] at hA hval hsz
  obtain ⟨v0, vs0, d0, ds0, p0, q0, hargs, rfl, rfl, h0, r0⟩ := trodAll_cons hA
  obtain ⟨rfl, rfl, rfl⟩ := trodAll_nil r0
  obtain rfl : args = #[v0] := by cases args; simp_all
  obtain ⟨rfl, rfl⟩ := trodVars_none hV
  clear hA0 hval0
  simp only [List.append_nil] at hW'
  have hlt : ∀ x ∈ p0, x.block < W.heap.size := fun x hx => by simpa using hW'.lt x hx
  have h0k := h0
  obtain ⟨f, t, b, z, sv, rs, rfl, hR, hsh⟩ := open_stream (hval 0 24 v0 rfl rfl) h0
  have hlen : rs.length * 32 ≤ 140737488355328 := by
    rcases hsh with rfl | ⟨e0, e1, e2, e3, el, sp, rfl, hel⟩
    · simp
    · have h1 : (el.length + sp.length) * Try.prog.bytesOf 34 ∈ (DataW.slice el sp).weights Try.prog 22 := by simp [DataW.weights, Try.underlying22]
      have h2 := DataW.weights_mem_each (P := Try.prog) (ts := [3, 3, 3, 3, 22]) (ds := [e0, e1, e2, e3, .slice el sp]) (j := 4) rfl rfl _ h1
      have h3 : (el.length + sp.length) * Try.prog.bytesOf 34 ∈ (DataW.agg [e0, e1, e2, e3, .slice el sp]).weights Try.prog 24 := by
        simp only [DataW.weights, Try.underlying24]
        exact h2
      have h4 := DataW.weights_mem_each (P := Try.prog) (j := 0) (ts := [24] ++ Rows.writesSpec.plain.varTypes Try.prog) (ds := [.agg [e0, e1, e2, e3, .slice el sp]] ++ []) rfl rfl _ h3
      have h5 := of_decide_eq_true (List.all_eq_true.1 hsz _ h4)
      rw [Try.bytesRecord] at h5
      simp only [reachBytes] at h5
      omega
  refine (writes_walk f t b z sv rs W hR hlen).mono fun e W' ⟨he, hb⟩ => ?_
  subst he
  refine ⟨_, rfl, _, _, _, [], p0 ++ [], [], hW', ?_, ?_, rfl, hb.frame _, fun h => by cases h⟩
  · exact trodAll_cons_mk (shut_bool Try.underlying4 _) trodAll_mk0
  · exact trodAll_cons_mk (Below.trod Try.laidOut (by kernel_rfl) (of_decide_eq_true (by kernel_rfl)) h0k hb hlt) trodAll_mk0

theorem writes_holds : Rows.WritesSaid :=
  OpenClaim.holds_of_wide 4 Try.f4 rfl rfl rfl rfl rfl rfl rfl ⟨rfl, rfl, rfl, rfl, rfl⟩ rfl rfl rfl rfl rfl (by kernel_rfl) Try.func4 (by kernel_rfl)
    (of_decide_eq_true (by kernel_rfl)) (by unfold Func.isWrapper; first | (rw [if_pos (by decide +kernel)]; kernel_rfl) | (rw [if_neg (by decide +kernel)]; exact ⟨rfl, rfl⟩))
    (fun os started H enc _ => writes_lifted os started H enc)
end Go.Proofs.Ytdjmhagclcfnfaa
