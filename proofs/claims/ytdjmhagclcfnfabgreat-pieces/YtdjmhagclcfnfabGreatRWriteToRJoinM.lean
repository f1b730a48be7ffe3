/- RWrite, SplitM, CutM, LWrites2, LWrites3, LExact2, Tx, RCanon, RChunk, RJoinM -/
import Derived.Test.YtdjmhagclcfnfabGreatRParse2
import Derived.Test.YtdjmhagclcfnfabGreatLWrites
import Derived.Laws.CopyRow
import Derived.Laws.MakeOwn
import Derived.ProofKit
import Derived.SizedLaws
import Derived.Deep.Slices
import Derived.Deep.Strs
import Derived.Lib.SmallJoins
import Derived.Test.YtdjmhagclcfnfabGreatLExact
import Derived.OpenShut
import Derived.ShutString
import Derived.Deep.AppendLies
import Derived.Test.YtdjmhagclcfnfabGreatLOwn
import Derived.Deep.RegionLaw
import Derived.Laws.AppendOwnNone
/- The reference's write: a chunk's text. -/
namespace Go.Proofs.YtdjmhagclcfnfabGreat
open Go.RowKit Go.Shelf

def chunkA (f t b z all nu many : Nat) (rs : List Rc) : List UInt8 := [83, 84, 82, 67] ++ headB f t b z all ++ lowB nu 2 ++ lowB many 2 ++ lowB rs.length 2 ++ recsB rs
def chunkB (f t b z all nu many : Nat) (rs : List Rc) : List UInt8 := chunkA f t b z all nu many rs ++ lowB (crc (chunkA f t b z all nu many rs)) 4

theorem box8 {W : World} {k : Nat} {t : TypeId} {v0 v1 v2 v3 v4 v5 v6 v7 : Value} (h : W.heap[k]? = some (.cells #[v0, v1, v2, v3, v4, v5, v6, v7] t (0, 0))) :
    W.cell? ⟨k, 0, none⟩ = some v0 ∧ W.cell? ⟨k, 1, none⟩ = some v1 ∧ W.cell? ⟨k, 2, none⟩ = some v2 ∧ W.cell? ⟨k, 3, none⟩ = some v3 ∧ W.cell? ⟨k, 4, none⟩ = some v4 ∧ W.cell? ⟨k, 5, none⟩ = some v5 ∧ W.cell? ⟨k, 6, none⟩ = some v6 ∧ W.cell? ⟨k, 7, none⟩ = some v7 :=
  ⟨boxed_cell (i := 0) h rfl, boxed_cell (i := 1) h rfl, boxed_cell (i := 2) h rfl, boxed_cell (i := 3) h rfl, boxed_cell (i := 4) h rfl, boxed_cell (i := 5) h rfl, boxed_cell (i := 6) h rfl, boxed_cell (i := 7) h rfl⟩

theorem keep8 {W0 W w' : World} {k : Nat} {v0 v1 v2 v3 v4 v5 v6 v7 : Value} (h : W.cell? ⟨k, 0, none⟩ = some v0 ∧ W.cell? ⟨k, 1, none⟩ = some v1 ∧ W.cell? ⟨k, 2, none⟩ = some v2 ∧ W.cell? ⟨k, 3, none⟩ = some v3 ∧ W.cell? ⟨k, 4, none⟩ = some v4 ∧ W.cell? ⟨k, 5, none⟩ = some v5 ∧ W.cell? ⟨k, 6, none⟩ = some v6 ∧ W.cell? ⟨k, 7, none⟩ = some v7 ∧ Below W0.heap.size W0 W) (hb : Below W.heap.size W w') (hk : k < W0.heap.size) :
    w'.cell? ⟨k, 0, none⟩ = some v0 ∧ w'.cell? ⟨k, 1, none⟩ = some v1 ∧ w'.cell? ⟨k, 2, none⟩ = some v2 ∧ w'.cell? ⟨k, 3, none⟩ = some v3 ∧ w'.cell? ⟨k, 4, none⟩ = some v4 ∧ w'.cell? ⟨k, 5, none⟩ = some v5 ∧ w'.cell? ⟨k, 6, none⟩ = some v6 ∧ w'.cell? ⟨k, 7, none⟩ = some v7 ∧ Below W0.heap.size W0 w' := by
  obtain ⟨h0, h1, h2, h3, h4, h5, h6, h7, hB⟩ := h
  exact ⟨keep1 h0 hB hb hk, keep1 h1 hB hb hk, keep1 h2 hB hb hk, keep1 h3 hB hb hk, keep1 h4 hB hb hk, keep1 h5 hB hb hk, keep1 h6 hB hb hk, keep1 h7 hB hb hk, keepB hB hb⟩

end Go.Proofs.YtdjmhagclcfnfabGreat
/- What Split answers, purely. -/
namespace Go.Proofs.YtdjmhagclcfnfabGreat
open Go.RowKit Go.Shelf

def lenR (r : Rc) : Nat := (recB r).length
def mostR (rs : List Rc) : Nat := rs.foldl (fun m r => max m (lenR r)) 0
theorem mostR_snoc (rs : List Rc) (r : Rc) : mostR (rs ++ [r]) = max (mostR rs) (lenR r) := by simp [mostR, List.foldl_append]
theorem mostR_take (rs : List Rc) (k : Nat) (h : k < rs.length) : mostR (rs.take (k + 1)) = max (mostR (rs.take k)) (lenR rs[k]) := by
  rw [List.take_succ_eq_append_getElem h, mostR_snoc]

/-- Where chunks begin, and how long the last one is, behind so many records. -/
def stepSt (limit : Int) (s : List Nat × Nat) (i : Nat) (r : Rc) : List Nat × Nat :=
  if limit < ((s.2 + lenR r : Nat) : Int) then (s.1 ++ [i], 28 + lenR r) else (s.1, s.2 + lenR r)
def stK (limit : Int) (rs : List Rc) : Nat → List Nat × Nat
  | 0 => ([0], 28)
  | k + 1 => match rs[k]? with
    | none => stK limit rs k
    | some r => stepSt limit (stK limit rs k) k r
theorem stK_succ (limit : Int) (rs : List Rc) (k : Nat) (h : k < rs.length) : stK limit rs (k + 1) = stepSt limit (stK limit rs k) k rs[k] := by
  rw [stK, List.getElem?_eq_getElem h]
/-- They rise. -/
theorem stK_up (limit : Int) (rs : List Rc) : ∀ k, k ≤ rs.length → (∀ x ∈ (stK limit rs k).1, x ≤ k) ∧ (stK limit rs k).1.Pairwise (· ≤ ·) ∧ (stK limit rs k).1.length ≤ k + 1 ∧ 1 ≤ (stK limit rs k).1.length ∧ (stK limit rs k).1[0]? = some 0
  | 0, _ => by simp [stK]
  | k + 1, h => by
    obtain ⟨h1, h2, h3, h4, h5⟩ := stK_up limit rs k (by omega)
    rw [stK_succ limit rs k (by omega)]
    unfold stepSt
    split
    · refine ⟨?_, ?_, ?_, ?_, ?_⟩
      · intro x hx
        rw [List.mem_append, List.mem_singleton] at hx
        rcases hx with hx | rfl
        · have := h1 x hx; omega
        · omega
      · rw [List.pairwise_append]
        refine ⟨h2, by simp, fun x hx y hy => ?_⟩
        rw [List.mem_singleton] at hy
        subst hy
        exact h1 x hx
      · simp only [List.length_append, List.length_singleton]; omega
      · simp only [List.length_append, List.length_singleton]; omega
      · rw [List.getElem?_append_left (by omega)]; exact h5
    · exact ⟨fun x hx => by have := h1 x hx; omega, h2, Nat.le_succ_of_le h3, h4, h5⟩
theorem stK_size (limit : Int) (rs : List Rc) : ∀ k, k ≤ rs.length → (∀ r ∈ rs, lenR r ≤ 67) → (stK limit rs k).2 ≤ 28 + 67 * k
  | 0, _, _ => by simp [stK]
  | k + 1, h, hr => by
    have h1 := stK_size limit rs k (by omega) hr
    have h2 := hr rs[k] (List.getElem_mem (by omega))
    rw [stK_succ limit rs k (by omega)]
    unfold stepSt
    split
    · show 28 + lenR rs[k] ≤ _
      omega
    · show (stK limit rs k).2 + lenR rs[k] ≤ _
      omega

def startsR (limit : Int) (rs : List Rc) : List Nat := (stK limit rs rs.length).1
/-- Where the chunk with this number begins and ends. -/
def endAt (st : List Nat) (n i : Nat) : Nat := (st[i + 1]?).getD n
def partR (st : List Nat) (rs : List Rc) (i : Nat) : List Rc := (rs.take (endAt st rs.length i)).drop (st[i]?.getD 0)
def chunksR (f t b z : Nat) (rs : List Rc) (st : List Nat) : List (List UInt8) := (List.range st.length).map fun i => chunkB f t b z rs.length i st.length (partR st rs i)
def splitR (l : List UInt8) (limit : Int) : Int ⊕ List (List UInt8) :=
  match parseR l with
  | .inl k => .inl k
  | .inr (f, t, b, z, rs) => if limit < ((28 + mostR rs : Nat) : Int) then .inl 12 else .inr (chunksR f t b z rs (startsR limit rs))

theorem endAt_ok (limit : Int) (rs : List Rc) (i : Nat) (h : i < (startsR limit rs).length) : (startsR limit rs)[i] ≤ endAt (startsR limit rs) rs.length i ∧ endAt (startsR limit rs) rs.length i ≤ rs.length := by
  obtain ⟨h1, h2, -, -, -⟩ := stK_up limit rs rs.length (Nat.le_refl _)
  unfold endAt
  by_cases hi : i + 1 < (startsR limit rs).length
  · rw [List.getElem?_eq_getElem hi, Option.getD_some]
    exact ⟨List.pairwise_iff_getElem.1 h2 i (i + 1) h hi (by omega), h1 _ (List.getElem_mem hi)⟩
  · rw [List.getElem?_eq_none (by omega), Option.getD_none]
    exact ⟨h1 _ (List.getElem_mem h), Nat.le_refl _⟩

theorem lastOf_ge (b z : Int) : ∀ (xs : List Rc) (last : Int), recsOk b z last xs = true → last ≤ lastOf last xs
  | [], last, _ => by simp [lastOf]
  | r :: xs, last, h => by
    simp only [recsOk, Bool.and_eq_true] at h
    have h1 : last < r.block ∧ r.block < b ∧ (r.data.size : Int) = if r.free then 0 else z := of_decide_eq_true h.1
    have h2 := lastOf_ge b z xs r.block h.2
    simp only [lastOf]
    omega
/-- A part of records that are right is right. -/
theorem recsOk_part (b z : Int) (rs : List Rc) (h : recsOk b z (-1) rs = true) (i j : Nat) : ∃ last, -1 ≤ last ∧ recsOk b z last ((rs.take j).drop i) = true := by
  have h1 := recsOk_append b z (rs.take j) (-1) (rs.drop j)
  rw [List.take_append_drop, h] at h1
  have h2 : recsOk b z (-1) (rs.take j) = true := by
    cases h3 : recsOk b z (-1) (rs.take j) with
    | true => rfl
    | false => rw [h3] at h1; simp at h1
  have h4 := recsOk_append b z ((rs.take j).take i) (-1) ((rs.take j).drop i)
  rw [List.take_append_drop, h2] at h4
  have h5 := h4.symm
  rw [Bool.and_eq_true] at h5
  exact ⟨_, lastOf_ge b z _ _ h5.1, h5.2⟩
end Go.Proofs.YtdjmhagclcfnfabGreat
/- How records are cut into pieces, as mathematics. -/
namespace Go.Proofs.YtdjmhagclcfnfabGreat

/-- One more record: the pieces that are closed, the open one, its bytes. -/
def cutStep (limit : Int) (s : List (List Rc) × List Rc × Nat) (r : Rc) : List (List Rc) × List Rc × Nat :=
  if limit < ((s.2.2 + lenR r : Nat) : Int) then (s.1 ++ [s.2.1], [r], 28 + lenR r) else (s.1, s.2.1 ++ [r], s.2.2 + lenR r)
def cutS (limit : Int) (rs : List Rc) : List (List Rc) × List Rc × Nat := rs.foldl (cutStep limit) ([], [], 28)
theorem cutS_snoc (limit : Int) (rs : List Rc) (r : Rc) : cutS limit (rs ++ [r]) = cutStep limit (cutS limit rs) r := by simp [cutS, List.foldl_append]

/-- The pieces between starts. -/
def pcs : List Nat → List Rc → List (List Rc)
  | [], _ => []
  | [s], L => [L.drop s]
  | s :: s' :: st, L => (L.take s').drop s :: pcs (s' :: st) L

theorem partR_succ (s : Nat) (st : List Nat) (L : List Rc) (i : Nat) : partR (s :: st) L (i + 1) = partR st L i := by
  simp [partR, endAt]
theorem pcs_eq : ∀ (st : List Nat) (L : List Rc), (List.range st.length).map (partR st L) = pcs st L
  | [], _ => rfl
  | [s], L => by simp [pcs, partR, endAt]
  | s :: s' :: st, L => by
    rw [pcs, ← pcs_eq (s' :: st) L, List.length_cons, List.range_succ_eq_map, List.map_cons, List.map_map]
    congr 1

theorem pcs_snoc (r : Rc) (L : List Rc) : ∀ (st : List Nat), st ≠ [] → (∀ x ∈ st, x ≤ L.length) → pcs (st ++ [L.length]) (L ++ [r]) = pcs st L ++ [[r]]
  | [], h, _ => absurd rfl h
  | [s], _, hx => by
    have := hx s (by simp)
    simp [pcs]
  | s :: s' :: st, _, hx => by
    have h1 := hx s' (by simp)
    rw [List.cons_append, List.cons_append, pcs, pcs, ← List.cons_append, pcs_snoc r L (s' :: st) (by simp) (fun x h => hx x (by simp [h])), List.take_append_of_le_length h1]
    rfl
theorem pcs_more (r : Rc) (L : List Rc) : ∀ (st : List Nat) (ps : List (List Rc)) (cur : List Rc), (∀ x ∈ st, x ≤ L.length) → pcs st L = ps ++ [cur] → pcs st (L ++ [r]) = ps ++ [cur ++ [r]]
  | [], ps, cur, _, h => by simp [pcs] at h
  | [s], ps, cur, hx, h => by
    have h1 := hx s (by simp)
    simp only [pcs] at h ⊢
    cases ps with
    | nil =>
      simp only [List.nil_append, List.cons.injEq, and_true] at h ⊢
      rw [List.drop_append_of_le_length h1, h]
    | cons p ps => simp at h
  | s :: s' :: st, ps, cur, hx, h => by
    have h1 := hx s' (by simp)
    rw [pcs] at h ⊢
    cases ps with
    | nil =>
      simp only [List.nil_append, List.cons.injEq] at h
      cases st with
      | nil => simp [pcs] at h
      | cons a st => simp [pcs] at h
    | cons p ps =>
      simp only [List.cons_append, List.cons.injEq] at h ⊢
      rw [List.take_append_of_le_length h1, pcs_more r L (s' :: st) ps cur (fun x hh => hx x (by simp [hh])) h.2]
      exact ⟨h.1, rfl⟩

theorem cut_starts (limit : Int) (rs : List Rc) : ∀ k, k ≤ rs.length → (cutS limit (rs.take k)).1 ++ [(cutS limit (rs.take k)).2.1] = pcs (stK limit rs k).1 (rs.take k) ∧ (cutS limit (rs.take k)).2.2 = (stK limit rs k).2
  | 0, _ => by simp [cutS, stK, pcs]
  | k + 1, h => by
    obtain ⟨h1, h2⟩ := cut_starts limit rs k (by omega)
    obtain ⟨u1, -, -, u4, -⟩ := stK_up limit rs k (by omega)
    have hl : (rs.take k).length = k := by rw [List.length_take]; omega
    have hne : (stK limit rs k).1 ≠ [] := fun e => by rw [e] at u4; simp at u4
    have hx : ∀ x ∈ (stK limit rs k).1, x ≤ (rs.take k).length := fun x hx => by rw [hl]; exact u1 x hx
    rw [List.take_succ_eq_append_getElem (by omega), cutS_snoc, stK_succ limit rs k (by omega)]
    unfold cutStep stepSt
    rw [h2]
    by_cases hc : limit < (((stK limit rs k).2 + lenR rs[k] : Nat) : Int)
    · rw [if_pos hc, if_pos hc]
      refine ⟨?_, rfl⟩
      have := pcs_snoc rs[k] (rs.take k) _ hne hx
      rw [hl] at this
      simp only []
      rw [this, h1]
    · rw [if_neg hc, if_neg hc]
      exact ⟨(pcs_more rs[k] (rs.take k) _ _ _ hx h1.symm).symm, rfl⟩
/-- The pieces are the parts. -/
theorem cut_parts (limit : Int) (rs : List Rc) : (cutS limit rs).1 ++ [(cutS limit rs).2.1] = (List.range (startsR limit rs).length).map (partR (startsR limit rs) rs) := by
  have h := (cut_starts limit rs rs.length (Nat.le_refl _)).1
  rw [List.take_length] at h
  rw [h, pcs_eq]
  rfl
theorem cut_len (limit : Int) (rs : List Rc) : ((cutS limit rs).1).length ≤ rs.length := by
  have h := congrArg List.length (cut_parts limit rs)
  obtain ⟨-, -, u3, -, -⟩ := stK_up limit rs rs.length (Nat.le_refl _)
  simp only [List.length_append, List.length_cons, List.length_nil, List.length_map, List.length_range] at h
  unfold startsR at h
  omega
theorem cut_fold (limit : Int) : ∀ (xs : List Rc) (s : List (List Rc) × List Rc × Nat), (∀ r ∈ xs, lenR r ≤ 67) → 28 ≤ s.2.2 → (xs.foldl (cutStep limit) s).2.2 ≤ s.2.2 + 67 * xs.length ∧ (xs.foldl (cutStep limit) s).2.1.length ≤ s.2.1.length + xs.length
  | [], s, _, _ => ⟨by simp, by simp⟩
  | x :: xs, s, h, hs => by
    rw [List.foldl_cons]
    have hx := h x (by simp)
    have hc : 28 ≤ (cutStep limit s x).2.2 ∧ (cutStep limit s x).2.2 ≤ s.2.2 + 67 ∧ (cutStep limit s x).2.1.length ≤ s.2.1.length + 1 := by
      unfold cutStep
      split
      · exact ⟨by simp, by simp; omega, by simp⟩
      · exact ⟨by simp; omega, by simp; omega, by simp⟩
    obtain ⟨h1, h2⟩ := cut_fold limit xs (cutStep limit s x) (fun r hr => h r (by simp [hr])) hc.1
    rw [List.length_cons]
    exact ⟨by omega, by omega⟩
theorem cut_small (limit : Int) (rs : List Rc) (h : ∀ r ∈ rs, lenR r ≤ 67) : (cutS limit rs).2.2 ≤ 28 + 67 * rs.length ∧ (cutS limit rs).2.1.length ≤ rs.length := by
  obtain ⟨h1, h2⟩ := cut_fold limit rs ([], [], 28) h (by simp)
  exact ⟨h1, by simpa [cutS] using h2⟩
end Go.Proofs.YtdjmhagclcfnfabGreat
/- The law Writes: its walk. -/
namespace Go.Proofs.YtdjmhagclcfnfabGreat
open Go.RowKit Go.Shelf


/-- Records as cells. -/
def recCells (rs : List Rc) : List Value := rs.flatMap fun r => [.bool r.free, .int .i64 r.block, .string r.data]
theorem recCells_length (rs : List Rc) : (recCells rs).length = rs.length * 3 := by
  induction rs with
  | nil => rfl
  | cons r rs ih => simp only [recCells, List.flatMap_cons, List.length_append, List.length_cons, List.length_nil] at *; omega
theorem recCells_at : ∀ (rs : List Rc) (k : Nat) (h : k < rs.length), (recCells rs)[k * 3]? = some (.bool rs[k].free) ∧ (recCells rs)[k * 3 + 1]? = some (.int .i64 rs[k].block) ∧ (recCells rs)[k * 3 + 2]? = some (.string rs[k].data)
  | [], k, h => by simp at h
  | r :: rs, 0, _ => by simp [recCells]
  | r :: rs, k + 1, h => by
    have ih := recCells_at rs k (by simpa using h)
    have e : recCells (r :: rs) = [.bool r.free, .int .i64 r.block, .string r.data] ++ recCells rs := by simp [recCells]
    rw [e]
    have e3 : ∀ i, ([Value.bool r.free, .int .i64 r.block, .string r.data] ++ recCells rs)[(k + 1) * 3 + i]? = (recCells rs)[k * 3 + i]? := by
      intro i
      rw [List.getElem?_append_right (by simp; omega)]
      congr 1
      simp; omega
    have e0 := e3 0
    simp only [Nat.add_zero] at e0
    rw [e0, e3 1, e3 2]
    simpa using ih
theorem recCells_one (rs : List Rc) : ∀ u ∈ recCells rs, u.oneCell' = true := by
  intro u hu
  simp only [recCells, List.mem_flatMap] at hu
  obtain ⟨r, _, hr⟩ := hu
  simp at hr
  rcases hr with rfl | rfl | rfl <;> rfl
/-- All cells of a slice of records. -/
theorem Recs.cells {B : Nat} {W : World} {b off l cap : Nat} {rs : List Rc} (h : Recs B W (.slice (some ⟨b, off, none⟩) l cap) rs) : ∀ j v, (recCells rs)[j]? = some v → W.cell? ⟨b, off + j, none⟩ = some v := by
  intro j v hj
  have hlt : j < rs.length * 3 := by rw [← recCells_length]; exact (List.getElem?_eq_some_iff.1 hj).1
  obtain ⟨b', off', e, _, q0, q1, q2⟩ := h.at (k := j / 3) (by omega)
  simp only [Option.some.injEq, Addr.mk.injEq] at e
  obtain ⟨rfl, rfl, _⟩ := e
  obtain ⟨p0, p1, p2⟩ := recCells_at rs (j / 3) (by omega)
  have hm : j % 3 = 0 ∨ j % 3 = 1 ∨ j % 3 = 2 := by omega
  rcases hm with hm | hm | hm
  · have e : j = j / 3 * 3 := by omega
    rw [e] at hj ⊢
    rw [p0] at hj; cases hj; exact q0
  · have e : j = j / 3 * 3 + 1 := by omega
    rw [e] at hj ⊢
    rw [p1] at hj; cases hj; exact q1
  · have e : j = j / 3 * 3 + 2 := by omega
    rw [e] at hj ⊢
    rw [p2] at hj; cases hj; exact q2

/-- 'copy(given, records)': into a row that is known whole. -/
theorem run_copy_recs (w : World) (ty : TypeId) (g dLen dCap : Nat) (sv : Value) (rs : List Rc) (cur : Array Value) (hg : w.heap[g]? = some (.cells cur 40 (0, 0))) (hR : Recs w.heap.size w sv rs) (hd : rs.length ≤ dLen) (hfit : rs.length * 3 ≤ cur.size) :
    (Builtin.copy_ #[25, 25] ty #[.slice (some ⟨g, 0, none⟩) dLen dCap, sv]).run Tryz.prog w = .ok (goInt rs.length) (w.setRow g (recCells rs ++ cur.toList.drop (rs.length * 3)).toArray) := by
  obtain ⟨i0, hi, hz0, hz1, hz2⟩ := info_parts Tryz.infoRec
  obtain ⟨a, cap, rfl⟩ := hR.slice
  have hst := run_storeCells_at Tryz.prog g 0 40 (recCells rs) 0 cur w hg (by rw [recCells_length]; omega) (recCells_one rs)
  have hl : (Builtin.firstCells 3 rs.length (.slice a rs.length cap)).run Tryz.prog w = .ok (recCells rs).toArray w := by
    cases rs with
    | nil =>
      cases a with
      | none => simp [Builtin.firstCells, recCells]
      | some ad => simp [Builtin.firstCells, recCells, loadCells, loadCellsFrom]
    | cons r rs' =>
      obtain ⟨b, off, e, _⟩ := hR.at (k := 0) (by simp)
      subst e
      have := run_loadCells_list (P := Tryz.prog) w ⟨b, off, none⟩ (recCells (r :: rs')) (fun j v hj => by
        rw [Addr.add_lit]; exact hR.cells j v hj)
      rw [recCells_length] at this
      simpa [Builtin.firstCells] using this
  have hm : min rs.length dLen = rs.length := Nat.min_eq_left hd
  simp only [Nat.add_zero, Nat.zero_add, List.take_zero, List.nil_append, recCells_length] at hst
  simp [Builtin.copy_, run_underlying Tryz.underlying25, Builtin.lenOf, sizeOf, typeInfo, hi, hz1, hm, hl, hst]

theorem below_dr (w : World) (n : Nat) : Below w.heap.size w (w.drewN n) := ⟨rfl, rfl, rfl, Nat.le_refl _, fun _ _ => rfl⟩
/-- A block that begins with records. -/
theorem Recs.of_block {W : World} {g : Nat} {cs : Array Value} {t : TypeId} {rs : List Rc} (h : W.heap[g]? = some (.cells cs t (0, 0))) (hc : ∀ j, j < rs.length * 3 → cs[j]? = (recCells rs)[j]?) (cap : Nat) : Recs W.heap.size W (.slice (some ⟨g, 0, none⟩) rs.length cap) rs := by
  refine .inr ⟨g, 0, cap, rfl, (Array.getElem?_eq_some_iff.1 h).1, fun j hj => ?_⟩
  obtain ⟨p0, p1, p2⟩ := recCells_at rs j hj
  refine ⟨boxed_cell h ?_, boxed_cell h ?_, boxed_cell h ?_⟩
  · rw [hc _ (by omega), Nat.zero_add]; exact p0
  · rw [hc _ (by omega), Nat.zero_add]; exact p1
  · rw [hc _ (by omega), Nat.zero_add]; exact p2


end Go.Proofs.YtdjmhagclcfnfabGreat
/- The statement on Writes. -/
namespace Go.Proofs.YtdjmhagclcfnfabGreat
open Go.ChangeShapes Go.WideShapes Go.ChangeAt Go.RowKit

theorem Tryz.own : ownKnob Tryz.prog.godebug = none := by kernel_rfl
theorem Tryz.laidOut : laidOutB Tryz.prog = true := by kernel_rfl
theorem Tryz.cellsStream : Tryz.prog.cellsOf 27 = 5 := by kernel_rfl
theorem Tryz.cellsRecord : Tryz.prog.cellsOf 40 = 3 := by kernel_rfl
theorem Tryz.cellsRecords : Tryz.prog.cellsOf 25 = 1 := by kernel_rfl
theorem Tryz.cellsInt : Tryz.prog.cellsOf 3 = 1 := by kernel_rfl
theorem Tryz.cellsBool : Tryz.prog.cellsOf 4 = 1 := by kernel_rfl
theorem Tryz.cellsString : Tryz.prog.cellsOf 9 = 1 := by kernel_rfl
theorem Tryz.bytesRecord : Tryz.prog.bytesOf 40 = 32 := by kernel_rfl

theorem list3 {α : Type} : ∀ {l : List α}, l.length = 3 → ∃ a b c, l = [a, b, c]
  | [a, b, c], _ => ⟨a, b, c, rfl⟩
theorem list5 {α : Type} : ∀ {l : List α}, l.length = 5 → ∃ a b c d e, l = [a, b, c, d, e]
  | [a, b, c, d, e], _ => ⟨a, b, c, d, e, rfl⟩

/-- A slice of records, opened. -/
theorem open_recs {H : Type} {enc : TypeId × Value → H} {W : World} {fuel : Nat} {v : Value} {x : DataW H × List MemPlace} (h : DataW.trod enc Tryz.prog W 0 (fun _ => true) true fuel 25 [v] = some x) :
    ∃ rs : List Rc, Recs W.heap.size W v rs ∧ ((v = .slice none 0 0 ∧ x.1 = .nil) ∨ ∃ a cap el sp, v = .slice (some a) rs.length cap ∧ x.1 = .slice el sp ∧ el.length = rs.length) := by
  rcases Deep.open_slice Tryz.underlying25 h with ⟨e, hx⟩ | ⟨a, len, cap, m, n, D, Pl, e, hb, hl, hm, hmm, rfl, hx⟩
  · simp at e
    exact ⟨[], .inl ⟨rfl, none, 0, e⟩, .inl ⟨e, by rw [hx]⟩⟩
  · simp at e
    subst e
    simp only [if_true] at hmm
    subst hmm
    have each : ∀ i, i < len → ∃ r : Rc, W.cell? (a.add (i * 3)) = some (.bool r.free) ∧ W.cell? (a.add (i * 3 + 1)) = some (.int .i64 r.block) ∧ W.cell? (a.add (i * 3 + 2)) = some (.string r.data) := by
      intro i hi
      obtain ⟨cs', h1, h2⟩ := hx i (by omega)
      rw [Tryz.cellsRecord] at h1
      obtain ⟨_, hlen, hcell⟩ := World.cells?_some h1
      obtain ⟨y0, y1, y2, k, _, _, g0, g1, g2⟩ := Deep.trod_struct3 Tryz.underlying40 h2
      obtain ⟨v0, v1, v2, rfl⟩ := list3 hlen
      simp only [Tryz.cellsBool, Tryz.cellsInt, Tryz.cellsString, List.drop_zero, List.drop_succ_cons, List.take_succ_cons, List.take_zero] at g0 g1 g2
      obtain ⟨b0, e0, _⟩ := DataW.trod_bool Tryz.underlying4 g0
      obtain ⟨n1, e1, _⟩ := DataW.trod_int Tryz.underlying3 g1
      obtain ⟨s2, e2, _⟩ := DataW.trod_string Tryz.underlying9 g2
      simp at e0 e1 e2
      subst e0 e1 e2
      have c0 := hcell 0 (by omega)
      have c1 := hcell 1 (by omega)
      have c2 := hcell 2 (by omega)
      rw [Deep.add_add] at c0 c1 c2
      exact ⟨⟨b0, n1, s2⟩, by simpa using c0, by simpa using c1, by simpa using c2⟩
    obtain ⟨rs, hrl, hrs⟩ : ∃ rs : List Rc, rs.length = len ∧ ∀ i (h : i < rs.length), W.cell? (a.add (i * 3)) = some (.bool rs[i].free) ∧ W.cell? (a.add (i * 3 + 1)) = some (.int .i64 rs[i].block) ∧ W.cell? (a.add (i * 3 + 2)) = some (.string rs[i].data) := by
      obtain ⟨f, hf⟩ : ∃ f : Nat → Rc, ∀ i, i < len → W.cell? (a.add (i * 3)) = some (.bool (f i).free) ∧ W.cell? (a.add (i * 3 + 1)) = some (.int .i64 (f i).block) ∧ W.cell? (a.add (i * 3 + 2)) = some (.string (f i).data) :=
        ⟨fun i => if h : i < len then Classical.choose (each i h) else ⟨false, 0, ByteArray.empty⟩, fun i hi => by simp only [dif_pos hi]; exact Classical.choose_spec (each i hi)⟩
      exact ⟨(List.range len).map f, by simp, fun i hi => by simpa using hf i (by simpa using hi)⟩
    subst hrl
    refine ⟨rs, ?_, .inr ⟨a, m, _, _, rfl, rfl, by simp⟩⟩
    cases hr0 : rs with
    | nil => exact .inl ⟨rfl, some a, m, rfl⟩
    | cons r rs' =>
      rw [← hr0]
      have hpos : 0 < rs.length := by rw [hr0]; simp
      obtain ⟨b, off, spot⟩ := a
      have hspot : spot = none := by
        have := World.cell?_spot (hrs 0 hpos).1
        simpa [Addr.add] using this
      subst hspot
      refine .inr ⟨b, off, m, rfl, ?_, fun j hj => ?_⟩
      · exact World.block_lt_of_cell? W _ (hrs 0 hpos).1
      · have := hrs j hj
        simpa only [Addr.add_lit, Nat.add_assoc] using this

set_option maxRecDepth 100000 in
/-- A stream, opened. -/
theorem open_stream {H : Type} {enc : TypeId × Value → H} {W : World} {base : Nat} {v : Value} {d : DataW H} {p : List MemPlace} (hv : Value.okWide Tryz.prog W .any base 27 v) (h : DataW.Trod enc Tryz.prog W 0 (fun _ => true) true 27 v d p) :
    ∃ (f t b z : Int) (sv : Value) (rs : List Rc), v = .agg #[.int .i64 f, .int .i64 t, .int .i64 b, .int .i64 z, sv] ∧ Recs W.heap.size W sv rs ∧
      ((rs = []) ∨ ∃ d0 d1 d2 d3 el sp, d = .agg [d0, d1, d2, d3, .slice el sp] ∧ el.length = rs.length) := by
  obtain ⟨cs, rfl, hsz⟩ := okWide_struct Tryz.underlying27 hv
  obtain ⟨fuel, hf⟩ := h
  obtain ⟨xs, n, _, hx, hl, hlen, hfs⟩ := DataW.trod_struct Tryz.underlying27 hf
  obtain ⟨c0, c1, c2, c3, c4, hcs⟩ := list5 (show cs.toList.length = 5 by rw [← Tryz.cellsStream]; exact hsz)
  obtain ⟨y0, y1, y2, y3, y4, rfl⟩ := list5 hlen
  obtain rfl : cs = #[c0, c1, c2, c3, c4] := by rw [← hcs]
  have g0 : DataW.trod enc Tryz.prog W 0 (fun _ => true) true n 3 [c0] = some y0 := by
    have h : DataW.trod enc Tryz.prog W 0 (fun _ => true) true n 3 (([c0, c1, c2, c3, c4].drop 0).take (Tryz.prog.cellsOf 3)) = some y0 := hfs 0 _ rfl
    rw [Tryz.cellsInt] at h
    exact h
  have g1 : DataW.trod enc Tryz.prog W 0 (fun _ => true) true n 3 [c1] = some y1 := by
    have h : DataW.trod enc Tryz.prog W 0 (fun _ => true) true n 3 (([c0, c1, c2, c3, c4].drop 1).take (Tryz.prog.cellsOf 3)) = some y1 := hfs 1 _ rfl
    rw [Tryz.cellsInt] at h
    exact h
  have g2 : DataW.trod enc Tryz.prog W 0 (fun _ => true) true n 3 [c2] = some y2 := by
    have h : DataW.trod enc Tryz.prog W 0 (fun _ => true) true n 3 (([c0, c1, c2, c3, c4].drop 2).take (Tryz.prog.cellsOf 3)) = some y2 := hfs 2 _ rfl
    rw [Tryz.cellsInt] at h
    exact h
  have g3 : DataW.trod enc Tryz.prog W 0 (fun _ => true) true n 3 [c3] = some y3 := by
    have h : DataW.trod enc Tryz.prog W 0 (fun _ => true) true n 3 (([c0, c1, c2, c3, c4].drop 3).take (Tryz.prog.cellsOf 3)) = some y3 := hfs 3 _ rfl
    rw [Tryz.cellsInt] at h
    exact h
  have g4 : DataW.trod enc Tryz.prog W 0 (fun _ => true) true n 25 [c4] = some y4 := by
    have h : DataW.trod enc Tryz.prog W 0 (fun _ => true) true n 25 (([c0, c1, c2, c3, c4].drop 4).take (Tryz.prog.cellsOf 25)) = some y4 := hfs 4 _ rfl
    rw [Tryz.cellsRecords] at h
    exact h
  obtain ⟨f, e0, _⟩ := DataW.trod_int Tryz.underlying3 g0
  obtain ⟨t, e1, _⟩ := DataW.trod_int Tryz.underlying3 g1
  obtain ⟨b, e2, _⟩ := DataW.trod_int Tryz.underlying3 g2
  obtain ⟨z, e3, _⟩ := DataW.trod_int Tryz.underlying3 g3
  simp at e0 e1 e2 e3
  subst e0 e1 e2 e3
  obtain ⟨rs, hR, hsh⟩ := open_recs g4
  refine ⟨f, t, b, z, c4, rs, rfl, hR, ?_⟩
  simp only [Prod.mk.injEq] at hx
  rcases hsh with ⟨e, _⟩ | ⟨a, cap, el, sp, _, e, hel⟩
  · left
    subst e
    rcases hR with ⟨h0, _⟩ | ⟨_, _, _, e, _⟩
    · exact h0
    · cases e
  · right
    refine ⟨y0.1, y1.1, y2.1, y3.1, el, sp, ?_, hel⟩
    rw [hx.1]
    simp [e]

end Go.Proofs.YtdjmhagclcfnfabGreat
/- The statement on Exact. -/
namespace Go.Proofs.YtdjmhagclcfnfabGreat
open Go.ChangeShapes Go.WideShapes Go.ChangeAt Go.RowKit
open Go.ChangeMaps (open_string shut_string)

theorem below_of_grown {A B : World} (h : A.grownBy B none) : Below A.heap.size A B := ⟨h.os, h.tape, h.output, h.size, fun k hk => h.block k hk (by simp)⟩

end Go.Proofs.YtdjmhagclcfnfabGreat
/- Lists of elements of one cell each (texts, numbers) that a call owns. -/
namespace Go.Proofs.YtdjmhagclcfnfabGreat
open Go.RowKit Go.Shelf

/-- v owns the elements xs, of type e, in a block from B on. -/
def Own1 (e : TypeId) (B : Nat) (w : World) (v : Value) (xs : List Value) : Prop := w.ownsRow B e 1 v xs.length xs
theorem own1_snoc {e : TypeId} {B : Nat} {W : World} {v x : Value} {pre : List Value} (h : W.ownsRow B e 1 v (pre.length + 1) (pre ++ [x])) : Own1 e B W v (pre ++ [x]) := by
  unfold Own1
  rw [List.length_append]
  exact h
theorem own1_nil (e : TypeId) (B : Nat) (W : World) : Own1 e B W (.slice none 0 0) [] := World.ownsRow_nil _ _ _ _
theorem Own1.slice {e : TypeId} {B : Nat} {W : World} {v : Value} {xs : List Value} (h : Own1 e B W v xs) : ∃ a cp, v = .slice a xs.length cp := by
  rcases h.2 with ⟨rfl, h0⟩ | ⟨g, cap, cur, rfl, _⟩
  · exact ⟨none, 0, by rw [h0]⟩
  · exact ⟨_, _, rfl⟩
theorem Own1.at {e : TypeId} {B : Nat} {W : World} {a : Option Addr} {l cp : Nat} {xs : List Value} (h : Own1 e B W (.slice a l cp) xs) {k : Nat} (hk : k < xs.length) :
    ∃ b, a = some ⟨b, 0, none⟩ ∧ B ≤ b ∧ W.cell? ⟨b, k, none⟩ = some xs[k] ∧ W.frozen? ⟨b, k, none⟩ = false := by
  rcases h.2 with ⟨e0, h0⟩ | ⟨g, cap, cur, e0, hb, hg, hc, _, hs, ht⟩
  · rw [h0] at hk
    exact absurd hk (by omega)
  · simp only [Value.slice.injEq] at e0
    rw [Nat.mul_one] at ht
    have h1 : cur[k]? = some xs[k] := by
      have : (cur.toList.take xs.length)[k]? = some xs[k] := by rw [ht]; exact List.getElem?_eq_getElem hk
      rw [List.getElem?_take_of_lt hk] at this
      simpa using this
    exact ⟨g, e0.1, hb, boxed_cell hg h1, boxed_frozen hg⟩
theorem Own1.kept {e : TypeId} {B : Nat} {W W' : World} {v : Value} {xs : List Value} (h : Own1 e B W v xs) (hg : W.grownBy W' none) : Own1 e B W' v xs := by
  refine World.ownsRow.kept h hg ?_
  rcases h.2 with ⟨rfl, _⟩ | ⟨g, cap, cur, rfl, _⟩
  · exact .inl rfl
  · exact .inr (by simp [Value.ownBlock])
theorem Own1.alloc {e : TypeId} {B : Nat} {W : World} {v : Value} {xs : List Value} (h : Own1 e B W v xs) (o : Obj) : Own1 e B (W.alloc o) v xs := World.ownsRow.alloc h o
theorem Own1.base {e : TypeId} {B B' : Nat} {W : World} {v : Value} {xs : List Value} (h : Own1 e B W v xs) (hb : B' ≤ B) : Own1 e B' W v xs := by
  refine ⟨h.1, ?_⟩
  rcases h.2 with h | ⟨g, cap, cur, e0, h1, h2⟩
  · exact .inl h
  · exact .inr ⟨g, cap, cur, e0, Nat.le_trans hb h1, h2⟩
theorem Own1.grown {e : TypeId} {A W W' : World} {v : Value} {xs : List Value} (h : Own1 e A.heap.size W v xs) (hg : A.grownBy W none) (hk : W.grownBy W' v.ownBlock) : A.grownBy W' none := by
  refine ⟨hk.os.trans hg.os, hk.tape.trans hg.tape, hk.output.trans hg.output, Nat.le_trans hg.size hk.size, fun j hj hne => (hk.block j (Nat.lt_of_lt_of_le hj hg.size) ?_).trans (hg.block j hj hne)⟩
  rcases h.2 with ⟨rfl, _⟩ | ⟨g, cap, cur, rfl, hbg, _⟩
  · simp [Value.ownBlock]
  · simp [Value.ownBlock]; omega
theorem Own1.ne {e : TypeId} {B : Nat} {W : World} {v : Value} {xs : List Value} (h : Own1 e B W v xs) {k : Nat} {cs : Array Value} {t : TypeId} {fr : Nat × Nat} (hk : W.heap[k]? = some (.cells cs t fr)) (ht : t ≠ e) : some k ≠ v.ownBlock := by
  rcases h.2 with ⟨rfl, _⟩ | ⟨g, cap, cur, rfl, _, hgb, _⟩
  · simp [Value.ownBlock]
  · intro e0
    obtain rfl : k = g := by simpa [Value.ownBlock] using e0
    rw [hgb] at hk
    simp only [Option.some.injEq, Obj.cells.injEq] at hk
    exact ht hk.2.1.symm
theorem Own1.lt {e : TypeId} {B : Nat} {W : World} {v : Value} {xs : List Value} (h : Own1 e B W v xs) : some W.heap.size ≠ v.ownBlock := by
  rcases h.2 with ⟨rfl, _⟩ | ⟨g, cap, cur, rfl, hb, hg, _⟩
  · simp [Value.ownBlock]
  · have := (Array.getElem?_eq_some_iff.1 hg).1
    simp [Value.ownBlock]; omega
/-- What one owns stays, where another's block is written that is of another type. -/
theorem Own1.beside {e : TypeId} {B : Nat} {W W' : World} {v : Value} {xs : List Value} (h : Own1 e B W v xs) {o : Option Nat} (hg : W.grownBy W' o) (hne : ∀ k cs fr, W.heap[k]? = some (.cells cs e fr) → some k ≠ o) : Own1 e B W' v xs := by
  refine World.ownsRow.kept h hg ?_
  rcases h.2 with ⟨rfl, _⟩ | ⟨g, cap, cur, rfl, _, hg2, _⟩
  · exact .inl rfl
  · refine .inr ?_
    have := hne g cur (0, 0) hg2
    simp only [Value.ownBlock]
    exact this
theorem Own1.own_ge {e : TypeId} {B : Nat} {W : World} {v : Value} {xs : List Value} (h : Own1 e B W v xs) : ∀ g, v.ownBlock = some g → B ≤ g := by
  intro g e0
  rcases h.2 with ⟨rfl, _⟩ | ⟨g', cap, cur, rfl, hb, _⟩
  · simp [Value.ownBlock] at e0
  · obtain rfl : g' = g := by simpa [Value.ownBlock] using e0
    exact hb

/-- 'append(l, r)' at a step of a region that draws its order. -/
theorem step_recT {w : World} {ops : Array Oper} {o : Oper} {a : Act} {K : Act → World → Prop} {Q : Exit → Act → World → Prop} {E : Prop} (hgd : o.guard = none) (sl x : Operand)
    (ho : o.op = .call { callee := .builtin .append, args := #[sl, x], argTypes := #[25, 25] })
    (B : Nat) (v : Value) (rs : List Rc) (r : Rc) (nb : Nat) (hs : a.eval sl = v) (hown : OwnsR B w v rs) (hx : a.eval x = .slice (some ⟨nb, 0, none⟩) 1 1)
    (hc : ∀ j u, [Value.bool r.free, .int .i64 r.block, .string r.data][j]? = some u → w.cell? (Addr.add ⟨nb, 0, none⟩ j) = some u) (hl : rs.length ≤ 2000) (hB : B ≤ w.heap.size)
    (h : ∀ v' w', OwnsR B w' v' (rs ++ [r]) → w.grownBy w' v.ownBlock → K (a.put o.dst v') w') :
    if Region.wanted o (yielded ops a.tmps) = true then Oper.wp Tryz.prog o a w K Q else E := by
  obtain ⟨i0, hi, hz0, hz1, hz2⟩ := info_parts Tryz.infoRec
  have hml : rs.length + 1 ≤ maxLen := Nat.le_trans (show rs.length + 1 ≤ 2001 by omega) (by decide)
  refine step_append_lies w hgd sl x 25 ho B 40 i0 _ 3 32 Tryz.underlying25 hi hz0 hz1 hz2 rfl (by decide) v rs.length (recVals rs) hs hown ⟨nb, 0, none⟩ 1 1 _ hx rfl hc (by simp [Value.oneCell']) (by decide) hml (by omega) hB w.heap.size rfl ?_
  intro g cap w1 ho1 hg _ _
  exact h _ w1 (ownsR_snoc ho1) hg

/-- .. where one block has been written besides. -/
theorem OwnsR.keptBut {B : Nat} {W W' : World} {v : Value} {rs : List Rc} {sb : Nat} (h : OwnsR B W v rs) (hg : W.grownBy W' (some sb)) (hsb : sb < B) : OwnsR B W' v rs := by
  refine World.ownsRow.kept h hg ?_
  rcases h.2 with ⟨rfl, _⟩ | ⟨g, cap, cur, rfl, hb, _⟩
  · exact .inl rfl
  · refine .inr ?_
    simp only [Value.ownBlock, ne_eq, Option.some.injEq]
    omega
theorem box_step {A wr w3 : World} {sb : Nat} {v0 v1 v2 v3 sv v' : Value} {rs rs' : List Rc} (hsb : sb < A.heap.size)
    (h1 : wr.heap[sb]? = some (.cells #[v0, v1, v2, v3, sv] 27 (0, 0))) (ho : OwnsR A.heap.size wr sv rs) (hw : A.grownBy wr (some sb))
    (hg : wr.grownBy w3 sv.ownBlock) (ho' : OwnsR A.heap.size w3 v' rs') :
    (w3.setCell ⟨sb, 4, none⟩ v').heap[sb]? = some (.cells #[v0, v1, v2, v3, v'] 27 (0, 0)) ∧ OwnsR A.heap.size (w3.setCell ⟨sb, 4, none⟩ v') v' rs' ∧ A.grownBy (w3.setCell ⟨sb, 4, none⟩ v') (some sb) := by
  have hn : ∀ k, k < A.heap.size → some k ≠ sv.ownBlock := fun k hk e => by have := ho.own_ge k e.symm; omega
  have l1 := (Array.getElem?_eq_some_iff.1 h1).1
  have b1 := (hg.block sb l1 (hn _ hsb)).trans h1
  refine ⟨block_set (i := 4) b1 v', ho'.set hsb, ?_⟩
  have g3 : A.grownBy w3 (some sb) := ⟨hg.os.trans hw.os, hg.tape.trans hw.tape, hg.output.trans hw.output, Nat.le_trans hw.size hg.size, fun j hj hne => (hg.block j (Nat.lt_of_lt_of_le hj hw.size) (hn _ hj)).trans (hw.block j hj hne)⟩
  exact ⟨g3.os, g3.tape, g3.output, by simpa using g3.size, fun j hj hne => (Below.heap_setCell _ _ _ _ (fun e => hne (congrArg some e))).trans (g3.block j hj hne)⟩

theorem Tryz.infoInt1 : (Tryz.prog.info? 3).map (fun i => (i.zero, i.size, i.bytes)) = some (some (.int .i64 0), 1, 8) := by kernel_rfl

theorem wpList_append_str (w : World) {ops : Array Oper} {rest : List Oper} {o : Oper} {a : Act} {Q : Exit → Act → World → Prop} (hgd : o.guard = none) (s x : Operand)
    (ho : o.op = .call { callee := .builtin .append, args := #[s, x], argTypes := #[31, 31] })
    (B : Nat) (v : Value) (xs : List Value) (hs : a.eval s = v) (hown : Own1 9 B w v xs) (ad : Addr) (q : ByteArray) (hx : a.eval x = .slice (some ad) 1 1)
    (hnews : ∀ j u, [Value.string q][j]? = some u → w.cell? (ad.add j) = some u) (hl : xs.length ≤ 2000) (hB : B ≤ w.heap.size)
    (h : ∀ v' w', Own1 9 B w' v' (xs ++ [.string q]) → w.grownBy w' v.ownBlock → wpList Tryz.prog ops Q rest (a.put o.dst v') w') : wpList Tryz.prog ops Q (o :: rest) a w := by
  obtain ⟨i0, hi, hz0, hz1, hz2⟩ := info_parts Tryz.infoStr
  have hml : xs.length + 1 ≤ maxLen := Nat.le_trans (show xs.length + 1 ≤ 2001 by omega) (by decide)
  refine wpList_append_own w hgd s x 31 ho B 9 i0 _ 1 16 Tryz.underlying31 hi hz0 hz1 hz2 rfl (by decide) _ _ _ hs hown ad 1 1 _ hx rfl hnews (by simp [Value.oneCell']) hml (by omega) hB ?_
  intro v' w' ho' hg' _
  exact h v' w' (own1_snoc ho') hg'

theorem wpList_append_int (w : World) {ops : Array Oper} {rest : List Oper} {o : Oper} {a : Act} {Q : Exit → Act → World → Prop} (hgd : o.guard = none) (s x : Operand)
    (ho : o.op = .call { callee := .builtin .append, args := #[s, x], argTypes := #[22, 22] })
    (B : Nat) (v : Value) (xs : List Value) (hs : a.eval s = v) (hown : Own1 3 B w v xs) (ad : Addr) (q : Int) (hx : a.eval x = .slice (some ad) 1 1)
    (hnews : ∀ j u, [Value.int .i64 q][j]? = some u → w.cell? (ad.add j) = some u) (hl : xs.length ≤ 2000) (hB : B ≤ w.heap.size)
    (h : ∀ v' w', Own1 3 B w' v' (xs ++ [.int .i64 q]) → w.grownBy w' v.ownBlock → wpList Tryz.prog ops Q rest (a.put o.dst v') w') : wpList Tryz.prog ops Q (o :: rest) a w := by
  obtain ⟨i0, hi, hz0, hz1, hz2⟩ := info_parts Tryz.infoInt1
  have hml : xs.length + 1 ≤ maxLen := Nat.le_trans (show xs.length + 1 ≤ 2001 by omega) (by decide)
  refine wpList_append_own w hgd s x 22 ho B 3 i0 _ 1 8 Tryz.underlying22 hi hz0 hz1 hz2 rfl (by decide) _ _ _ hs hown ad 1 1 _ hx rfl hnews (by simp [Value.oneCell']) hml (by omega) hB ?_
  intro v' w' ho' hg' _
  exact h v' w' (own1_snoc ho') hg'
end Go.Proofs.YtdjmhagclcfnfabGreat
/- The reference's Canon. -/
namespace Go.Proofs.YtdjmhagclcfnfabGreat
open Go.RowKit Go.Shelf

/-- Of each block the last record. -/
def lastR (rs : List Rc) (i : Nat) : Option Rc := rs.reverse.find? (fun r => r.block == (i : Int))
def lastsR (rs : List Rc) (b : Nat) : List Rc := (List.range b).filterMap (lastR rs)
/-- What Canon answers, purely. -/
def canonR (l : List UInt8) : Int ⊕ (Nat × Nat × Nat × Nat × List Rc) :=
  match openG [83, 84, 82, 85] 18 400 l with
  | .inl k => .inl k
  | .inr (f, t, b, z, m) => match walkS (stepG true b z) m (-1) (l.drop 18) with
    | (_, .inl k) => .inl k
    | (rs, .inr q) => if q.length ≠ 0 then .inl 8 else .inr (f, t, b, z, lastsR rs b)
def ToldC (l : List UInt8) (w : World) (e : Ending) (w' : World) : Prop :=
  w.grownBy w' none ∧
    ((∃ k, canonR l = .inl k ∧ e = .returned (.tuple #[.string ⟨#[]⟩, .int .i64 k])) ∨
     (∃ f t b z rs, canonR l = .inr (f, t, b, z, rs) ∧ e = .returned (.tuple #[.string ⟨(serB f t b z rs).toArray⟩, .int .i64 0])))

theorem lastsR_succ (rs : List Rc) (b : Nat) : lastsR rs (b + 1) = lastsR rs b ++ (lastR rs b).toList := by
  unfold lastsR
  rw [List.range_succ, List.filterMap_append]
  cases h : lastR rs b with
  | none => simp [h]
  | some r => simp [h]
/-- Looking from the end. -/
theorem lastR_none (rs : List Rc) (b : Nat) (h : ∀ r ∈ rs, r.block ≠ b) : lastR rs b = none := by
  unfold lastR
  rw [List.find?_eq_none]
  intro r hr
  simpa using h r (by simpa using hr)
theorem lastR_some (rs : List Rc) (b k : Nat) (hk : k < rs.length) (h : ∀ r ∈ rs.drop (k + 1), r.block ≠ b) (he : rs[k].block = b) : lastR rs b = some rs[k] := by
  unfold lastR
  have hd : rs = rs.take k ++ rs[k] :: rs.drop (k + 1) := by rw [← List.drop_eq_getElem_cons hk, List.take_append_drop]
  have h2 : rs.reverse = (rs.drop (k + 1)).reverse ++ rs[k] :: (rs.take k).reverse := by
    conv => lhs; rw [hd]
    simp
  rw [h2, List.find?_append, List.find?_eq_none.2 (fun r hr => by simpa using h r (by simpa using hr)), Option.none_or, List.find?_cons_of_pos (by simp [he])]
theorem openG_err (M : List UInt8) (least most : Nat) (l : List UInt8) (k : Int) (h : openG M least most l = .inl k) : 2 ≤ k ∧ k ≤ 8 := by
  unfold openG at h
  repeat' split at h
  all_goals simp only [Sum.inl.injEq, reduceCtorEq] at h
  all_goals omega

theorem walkS_err (any : Bool) (b z : Nat) : ∀ (n : Nat) (last : Int) (q : List UInt8) (rs : List Rc) (k : Int), walkS (stepG any b z) n last q = (rs, .inl k) → 2 ≤ k ∧ k ≤ 8
  | 0, last, q, rs, k, h => by simp [walkS] at h
  | n + 1, last, q, rs, k, h => by
    rw [walkS] at h
    cases hs : stepG any b z last q with
    | inl k' =>
      rw [hs] at h
      simp only [Prod.mk.injEq, Sum.inl.injEq] at h
      obtain ⟨-, rfl⟩ := h
      exact stepG_err any b z last q k' hs
    | inr x =>
      obtain ⟨r, q'⟩ := x
      rw [hs] at h
      simp only [Prod.mk.injEq] at h
      cases h2 : walkS (stepG any b z) n r.block q' with
      | mk rs2 y =>
        rw [h2] at h
        obtain ⟨-, rfl⟩ := h
        exact walkS_err any b z n _ _ _ _ h2
theorem walkS_length (any : Bool) (b z : Nat) : ∀ (n : Nat) (last : Int) (q : List UInt8) (rs : List Rc) (q' : List UInt8), walkS (stepG any b z) n last q = (rs, .inr q') → rs.length = n
  | 0, last, q, rs, q', h => by simp [walkS] at h; simp [h.1]
  | n + 1, last, q, rs, q', h => by
    rw [walkS] at h
    cases hs : stepG any b z last q with
    | inl k' =>
      rw [hs] at h
      simp at h
    | inr x =>
      obtain ⟨r, q1⟩ := x
      rw [hs] at h
      simp only [Prod.mk.injEq] at h
      cases h2 : walkS (stepG any b z) n r.block q1 with
      | mk rs2 y =>
        rw [h2] at h
        obtain ⟨rfl, rfl⟩ := h
        rw [List.length_cons, walkS_length any b z n _ _ _ _ h2]
/-- What is read is right, of any order. -/
def OkRec (b z : Nat) (r : Rc) : Prop := 0 ≤ r.block ∧ r.block < b ∧ (r.data.size : Int) = if r.free then 0 else (z : Int)
theorem walkS_okRec (any : Bool) (b z : Nat) : ∀ (n : Nat) (last : Int) (q : List UInt8) (rs : List Rc) (y : Int ⊕ List UInt8), walkS (stepG any b z) n last q = (rs, y) → ∀ r ∈ rs, OkRec b z r
  | 0, last, q, rs, y, h => by simp [walkS] at h; simp [h.1]
  | n + 1, last, q, rs, y, h => by
    rw [walkS] at h
    cases hs : stepG any b z last q with
    | inl k' =>
      rw [hs] at h
      simp only [Prod.mk.injEq] at h
      obtain ⟨rfl, -⟩ := h
      intro r hr
      cases hr
    | inr x =>
      obtain ⟨r0, q1⟩ := x
      rw [hs] at h
      simp only [Prod.mk.injEq] at h
      cases h2 : walkS (stepG any b z) n r0.block q1 with
      | mk rs2 y2 =>
        rw [h2] at h
        obtain ⟨rfl, -⟩ := h
        intro r hr
        rcases List.mem_cons.1 hr with rfl | hr
        · unfold stepG at hs
          cases h3 : rdRec z q with
          | inl k => rw [h3] at hs; cases hs
          | inr x =>
            obtain ⟨r1, q2⟩ := x
            rw [h3] at hs
            simp only [] at hs
            split at hs
            · rename_i hc
              simp only [Sum.inr.injEq, Prod.mk.injEq] at hs
              obtain ⟨rfl, rfl⟩ := hs
              have h4 := rdRec_ok z q _ _ h3
              exact ⟨h4.2.2.1, hc.1, h4.2.1⟩
            · cases hs
        · exact walkS_okRec any b z n _ _ _ _ h2 r hr
theorem lastsR_ok (b z : Nat) (rs : List Rc) (h : ∀ r ∈ rs, OkRec b z r) : ∀ k, k ≤ b → recsOk b z (-1) (lastsR rs k) = true ∧ lastOf (-1) (lastsR rs k) < k
  | 0, _ => ⟨rfl, by simp [lastsR, lastOf]⟩
  | k + 1, hk => by
    obtain ⟨h1, h2⟩ := lastsR_ok b z rs h k (by omega)
    rw [lastsR_succ]
    cases hl : lastR rs k with
    | none =>
      simp only [Option.toList_none, List.append_nil]
      exact ⟨h1, by omega⟩
    | some r =>
      have hm : r ∈ rs := by simpa using List.mem_of_find?_eq_some hl
      have hb : r.block = (k : Int) := by simpa using List.find?_some hl
      obtain ⟨-, h4, h5⟩ := h r hm
      simp only [Option.toList_some]
      rw [recsOk_append, h1, Bool.true_and, lastOf_snoc]
      refine ⟨?_, by omega⟩
      simp only [recsOk, Bool.and_true]
      exact decide_eq_true ⟨by omega, h4, h5⟩
/-- .. in one shape. -/
theorem recsG_shape {any : Bool} {b z n : Nat} {q : List UInt8} {w w' : World} {e : Ending} (h : RecsSaid any b z n q w e w') :
    ∃ a ln cp s k, e = .returned (.tuple #[.slice a ln cp, .string s, .int .i64 k]) ∧ w.grownBy w' none ∧
      ((∃ rs, walkS (stepG any b z) n (-1) q = (rs, .inl k) ∧ 2 ≤ k) ∨ (∃ rs q', walkS (stepG any b z) n (-1) q = (rs, .inr q') ∧ s = ⟨q'.toArray⟩ ∧ k = 0 ∧ OwnsR w.heap.size w' (.slice a ln cp) rs)) := by
  obtain ⟨hg, (⟨rs, k, hw, rfl⟩ | ⟨rs, q', v, hw, rfl, ho⟩)⟩ := h
  · exact ⟨none, 0, 0, _, k, rfl, hg, .inl ⟨rs, hw, (walkS_err any b z n (-1) q rs k hw).1⟩⟩
  · obtain ⟨a, ln, cp, rfl⟩ := ho.slice
    exact ⟨a, ln, cp, _, 0, rfl, hg, .inr ⟨rs, q', hw, rfl, rfl, ho⟩⟩

theorem grow_but {w W W' : World} {sb : Nat} (hsb : w.heap.size ≤ sb) (h : w.grownBy W none) (hk : W.grownBy W' (some sb)) : w.grownBy W' none :=
  grow_own h hk (.inr fun x e => by simp only [Option.some.injEq] at e; omega)

end Go.Proofs.YtdjmhagclcfnfabGreat
/- The reference's chunk. -/
namespace Go.Proofs.YtdjmhagclcfnfabGreat
open Go.RowKit Go.Shelf

/-- What a chunk's text says. -/
structure Ck where
  f : Nat
  t : Nat
  b : Nat
  z : Nat
  all : Nat
  nu : Nat
  many : Nat
  rs : List Rc
def chunkR (l : List UInt8) : Int ⊕ Ck :=
  match openG [83, 84, 82, 67] 24 0 l with
  | .inl k => .inl k
  | .inr (f, t, b, z, all) =>
    if num ((l.drop 20).take 2) ≤ num ((l.drop 18).take 2) ∨ all < num ((l.drop 22).take 2) then .inl 4 else
    match walkR b z (num ((l.drop 22).take 2)) (-1) (l.drop 24) with
    | (_, .inl k) => .inl k
    | (rs, .inr q) => match endR l (l.length - q.length) with
      | some k => .inl k
      | none => .inr ⟨f, t, b, z, all, num ((l.drop 18).take 2), num ((l.drop 20).take 2), rs⟩
/-- The value of a chunk. -/
def ckV (c : Ck) (v : Value) : Value := .agg #[.int .i64 c.f, .int .i64 c.t, .int .i64 c.b, .int .i64 c.z, v, .int .i64 c.all, .int .i64 c.nu, .int .i64 c.many]
def ToldK (l : List UInt8) (w : World) (e : Ending) (w' : World) : Prop :=
  w.grownBy w' none ∧
    ((∃ k, chunkR l = .inl k ∧ e = .returned (.tuple #[ckV ⟨0, 0, 0, 0, 0, 0, 0, []⟩ (.slice none 0 0), .int .i64 k])) ∨
     (∃ c v, chunkR l = .inr c ∧ e = .returned (.tuple #[ckV c v, .int .i64 0]) ∧ OwnsR w.heap.size w' v c.rs))

theorem num2_lt (l : List UInt8) (p : Nat) : num ((l.drop p).take 2) < 65536 := by
  have h := num_lt ((l.drop p).take 2)
  have h2 : ((l.drop p).take 2).length ≤ 2 := by simp; omega
  have h3 : 256 ^ ((l.drop p).take 2).length ≤ 256 ^ 2 := Nat.pow_le_pow_right (by decide) h2
  omega

theorem box8z {W : World} {k : Nat} {t : TypeId} {cs : Array Value} (h : W.heap[k]? = some (.cells cs t (0, 0))) : ∀ i, W.frozen? ⟨k, i, none⟩ = false := fun _ => boxed_frozen h

theorem gfresh8 {w W : World} {k : Nat} (h : w.grownBy W none) (hk : w.heap.size ≤ k) (v0 v1 v2 v3 v4 v5 v6 v7 : Value) : w.grownBy ((((((((W.setCell ⟨k, 0, none⟩ v0).setCell ⟨k, 1, none⟩ v1).setCell ⟨k, 2, none⟩ v2).setCell ⟨k, 3, none⟩ v3).setCell ⟨k, 4, none⟩ v4).setCell ⟨k, 5, none⟩ v5).setCell ⟨k, 6, none⟩ v6).setCell ⟨k, 7, none⟩ v7) none :=
  gfresh (gfresh (gfresh (gfresh (gfresh (gfresh (gfresh (gfresh h hk) hk) hk) hk) hk) hk) hk) hk
theorem OwnsR.set8 {B : Nat} {W : World} {v : Value} {rs : List Rc} (h : OwnsR B W v rs) {k : Nat} (hk : k < B) (v0 v1 v2 v3 v4 v5 v6 v7 : Value) : OwnsR B ((((((((W.setCell ⟨k, 0, none⟩ v0).setCell ⟨k, 1, none⟩ v1).setCell ⟨k, 2, none⟩ v2).setCell ⟨k, 3, none⟩ v3).setCell ⟨k, 4, none⟩ v4).setCell ⟨k, 5, none⟩ v5).setCell ⟨k, 6, none⟩ v6).setCell ⟨k, 7, none⟩ v7) v rs :=
  (((((((h.set hk).set hk).set hk).set hk).set hk).set hk).set hk).set hk

end Go.Proofs.YtdjmhagclcfnfabGreat
/- The reference's Join. -/
namespace Go.Proofs.YtdjmhagclcfnfabGreat
open Go.RowKit Go.Shelf

/-- A list of texts that is handed in. -/
def Txs (B : Nat) (W : World) (sv : Value) (ts : List (List UInt8)) : Prop :=
  (ts = [] ∧ ∃ a cap, sv = .slice a 0 cap) ∨ ∃ b off cap, sv = .slice (some ⟨b, off, none⟩) ts.length cap ∧ b < B ∧ ∀ j (h : j < ts.length), W.cell? ⟨b, off + j, none⟩ = some (.string ⟨ts[j].toArray⟩)
theorem Txs.moved {W W' : World} {sv : Value} {ts : List (List UInt8)} (h : Txs W.heap.size W sv ts) (hb : Below W.heap.size W W') : Txs W'.heap.size W' sv ts := by
  rcases h with h | ⟨b, off, cap, e, hlt, hc⟩
  · exact .inl h
  · exact .inr ⟨b, off, cap, e, Nat.lt_of_lt_of_le hlt hb.size, fun j hj => (hb.cell (p := ⟨b, _, none⟩) hlt).trans (hc j hj)⟩
theorem Txs.slice {B : Nat} {W : World} {sv : Value} {ts : List (List UInt8)} (h : Txs B W sv ts) : ∃ a cap, sv = .slice a ts.length cap := by
  rcases h with ⟨rfl, a, cap, e⟩ | ⟨b, off, cap, e, _⟩
  · exact ⟨a, cap, e⟩
  · exact ⟨_, cap, e⟩
theorem Txs.at {B : Nat} {W : World} {a : Option Addr} {l cap : Nat} {ts : List (List UInt8)} (h : Txs B W (.slice a l cap) ts) {k : Nat} (hk : k < ts.length) :
    ∃ b off, a = some ⟨b, off, none⟩ ∧ b < B ∧ W.cell? ⟨b, off + k, none⟩ = some (.string ⟨ts[k].toArray⟩) := by
  rcases h with ⟨rfl, _⟩ | ⟨b, off, cap', e, hlt, hc⟩
  · simp at hk
  · simp only [Value.slice.injEq] at e
    exact ⟨b, off, e.1, hlt, hc k hk⟩

/-- The chunks of texts. -/
def chunksOf : List (List UInt8) → Int ⊕ List Ck
  | [] => .inr []
  | t :: ts => match chunkR t with
    | .inl k => .inl k
    | .inr c => match chunksOf ts with
      | .inl k => .inl k
      | .inr cs => .inr (c :: cs)
theorem chunksOf_ok : ∀ (xs : List (List UInt8)) (cs : List Ck) (t : List UInt8) (c : Ck), chunksOf xs = .inr cs → chunkR t = .inr c → chunksOf (xs ++ [t]) = .inr (cs ++ [c])
  | [], cs, t, c, h, hc => by
    simp only [chunksOf, Sum.inr.injEq] at h
    subst h
    simp [chunksOf, hc]
  | x :: xs, cs, t, c, h, hc => by
    rw [List.cons_append, chunksOf]
    rw [chunksOf] at h
    cases hx : chunkR x with
    | inl k => rw [hx] at h; cases h
    | inr c0 =>
      rw [hx] at h
      simp only [] at h
      cases h2 : chunksOf xs with
      | inl k => rw [h2] at h; cases h
      | inr cs0 =>
        rw [h2] at h
        simp only [Sum.inr.injEq] at h
        subst h
        simp only [chunksOf_ok xs cs0 t c h2 hc, List.cons_append]
theorem chunksOf_bad : ∀ (xs : List (List UInt8)) (cs : List Ck) (t : List UInt8) (ys : List (List UInt8)) (k : Int), chunksOf xs = .inr cs → chunkR t = .inl k → chunksOf (xs ++ t :: ys) = .inl k
  | [], cs, t, ys, k, h, hc => by simp [chunksOf, hc]
  | x :: xs, cs, t, ys, k, h, hc => by
    rw [List.cons_append, chunksOf]
    rw [chunksOf] at h
    cases hx : chunkR x with
    | inl k => rw [hx] at h; cases h
    | inr c0 =>
      rw [hx] at h
      simp only [] at h
      cases h2 : chunksOf xs with
      | inl k => rw [h2] at h; cases h
      | inr cs0 => simp only [chunksOf_bad xs cs0 t ys k h2 hc]
theorem chunksOf_length : ∀ (xs : List (List UInt8)) (cs : List Ck), chunksOf xs = .inr cs → cs.length = xs.length
  | [], cs, h => by
    simp only [chunksOf, Sum.inr.injEq] at h
    subst h
    rfl
  | x :: xs, cs, h => by
    rw [chunksOf] at h
    cases hx : chunkR x with
    | inl k => rw [hx] at h; cases h
    | inr c0 =>
      rw [hx] at h
      simp only [] at h
      cases h2 : chunksOf xs with
      | inl k => rw [h2] at h; cases h
      | inr cs0 =>
        rw [h2] at h
        simp only [Sum.inr.injEq] at h
        subst h
        simp [chunksOf_length xs cs0 h2]
theorem chunkR_err (l : List UInt8) (k : Int) (h : chunkR l = .inl k) : 2 ≤ k ∧ k ≤ 8 := by
  unfold chunkR at h
  split at h
  · rename_i k' ho
    simp only [Sum.inl.injEq] at h
    rw [← h]
    exact openG_err _ _ _ l k' ho
  · rename_i f t b z all ho
    split at h
    · simp only [Sum.inl.injEq] at h
      omega
    · split at h
      · rename_i k' hw
        simp only [Sum.inl.injEq] at h
        rw [← h]
        exact walk_err b z _ (-1) _ hw
      · split at h
        · rename_i k' he
          simp only [Sum.inl.injEq] at h
          rw [← h]
          exact endR_err l _ k' he
        · cases h

/-- What Join answers, purely. -/
def sameHead (a c : Ck) : Bool := decide (c.f = a.f ∧ c.t = a.t ∧ c.b = a.b ∧ c.z = a.z ∧ c.all = a.all ∧ c.many = a.many)
def gathered (cs : List Ck) (n : Nat) : List Rc := (cs.filter (fun c => c.nu == n)).flatMap Ck.rs
def gatherAll (cs : List Ck) (n : Nat) : List Rc := (List.range n).flatMap (gathered cs)
def joinOk (a : Ck) (cs : List Ck) : Bool :=
  decide (cs.length = a.many) && cs.all (sameHead a) && (List.range a.many).all (fun n => decide ((cs.filter (fun c => c.nu == n)).length = 1)) && (recsOk a.b a.z (-1) (gatherAll cs a.many) && decide ((gatherAll cs a.many).length = a.all))
theorem joinOk_iff (a : Ck) (cs : List Ck) : joinOk a cs = true ↔ cs.length = a.many ∧ (∀ c ∈ cs, sameHead a c = true) ∧ (∀ n, n < a.many → (cs.filter (fun c => c.nu == n)).length = 1) ∧ recsOk a.b a.z (-1) (gatherAll cs a.many) = true ∧ (gatherAll cs a.many).length = a.all := by
  simp only [joinOk, Bool.and_eq_true, decide_eq_true_eq, List.all_eq_true, List.mem_range, and_assoc]
def joinC : Int ⊕ List Ck → Int ⊕ (Nat × Nat × Nat × Nat × List Rc)
  | .inl k => .inl k
  | .inr [] => .inl 1
  | .inr (a :: cs) => if joinOk a (a :: cs) = true then .inr (a.f, a.t, a.b, a.z, gatherAll (a :: cs) a.many) else .inl 13
def joinR (ts : List (List UInt8)) : Int ⊕ (Nat × Nat × Nat × Nat × List Rc) := if ts.length < 1 ∨ 100 < ts.length then .inl 1 else joinC (chunksOf ts)
def ToldJ (ts : List (List UInt8)) (w : World) (e : Ending) (w' : World) : Prop :=
  w.grownBy w' none ∧
    ((∃ k, joinR ts = .inl k ∧ e = .returned (.tuple #[.string ⟨#[]⟩, .int .i64 k])) ∨
     (∃ f t b z rs, joinR ts = .inr (f, t, b, z, rs) ∧ e = .returned (.tuple #[.string ⟨(serB f t b z rs).toArray⟩, .int .i64 0])))

/-- Chunks in a row that a call owns. -/
def ckCells (p : Ck × Value) : List Value := [.int .i64 p.1.f, .int .i64 p.1.t, .int .i64 p.1.b, .int .i64 p.1.z, p.2, .int .i64 p.1.all, .int .i64 p.1.nu, .int .i64 p.1.many]
theorem ckCells_length (ps : List (Ck × Value)) : (ps.flatMap ckCells).length = ps.length * 8 := by
  induction ps with
  | nil => rfl
  | cons p ps ih => rw [List.flatMap_cons, List.length_append, ih, List.length_cons]; simp [ckCells]; omega
theorem ckCells_at : ∀ (ps : List (Ck × Value)) (k : Nat) (h : k < ps.length) (j : Nat) (_ : j < 8), (ps.flatMap ckCells)[k * 8 + j]? = (ckCells ps[k])[j]?
  | p :: ps, 0, _, j, hj => by
    rw [List.flatMap_cons, List.getElem?_append_left (by simp [ckCells]; omega)]
    simp
  | p :: ps, k + 1, h, j, hj => by
    rw [List.flatMap_cons, List.getElem?_append_right (by simp [ckCells]; omega)]
    rw [show (k + 1) * 8 + j - (ckCells p).length = k * 8 + j from by simp [ckCells]; omega]
    rw [ckCells_at ps k (by simpa using h) j hj]
    rfl
theorem OwnsR.beside {B : Nat} {W W' : World} {v : Value} {rs : List Rc} (h : OwnsR B W v rs) {o : Option Nat} (hg : W.grownBy W' o) (hne : ∀ k cs fr, W.heap[k]? = some (.cells cs 40 fr) → some k ≠ o) : OwnsR B W' v rs := by
  refine World.ownsRow.kept h hg ?_
  rcases h.2 with ⟨rfl, _⟩ | ⟨g, cap, cur, rfl, _, hg2, _⟩
  · exact .inl rfl
  · exact .inr (hne g cur (0, 0) hg2)
theorem recVals_append (xs ys : List Rc) : recVals (xs ++ ys) = recVals xs ++ recVals ys := by simp [recVals]
theorem recVals_one (rs : List Rc) : ∀ u ∈ recVals rs, u.oneCell' = true := by
  intro u hu
  simp only [recVals, List.mem_flatMap] at hu
  obtain ⟨r, _, hr⟩ := hu
  simp at hr
  rcases hr with rfl | rfl | rfl <;> rfl
theorem wpList_append_recs (w : World) {ops : Array Oper} {rest : List Oper} {o : Oper} {a : Act} {Q : Exit → Act → World → Prop} (hgd : o.guard = none) (s x : Operand)
    (ho : o.op = .call { callee := .builtin .append, args := #[s, x], argTypes := #[25, 25] })
    (B : Nat) (v : Value) (rs : List Rc) (B' : Nat) (xv : Value) (ys : List Rc) (hs : a.eval s = v) (hown : OwnsR B w v rs) (hx : a.eval x = xv) (hys : OwnsR B' w xv ys) (hl : rs.length + ys.length ≤ 200000) (hB : B ≤ w.heap.size)
    (h : ∀ v' w', OwnsR B w' v' (rs ++ ys) → w.grownBy w' v.ownBlock → wpList Tryz.prog ops Q rest (a.put o.dst v') w') : wpList Tryz.prog ops Q (o :: rest) a w := by
  obtain ⟨i0, hi, hz0, hz1, hz2⟩ := info_parts Tryz.infoRec
  have hys' : w.ownsRow B' 40 3 xv ys.length (recVals ys) := hys
  rcases hys'.2 with ⟨rfl, h0⟩ | ⟨g, cap, cur, rfl, _⟩
  · obtain rfl : ys = [] := List.eq_nil_of_length_eq_zero h0
    refine wpList_append_own_none hgd s x 25 ho B 40 i0 3 Tryz.underlying25 hi v rs.length (recVals rs) hs hown hx ?_
    exact h v w (by rw [List.append_nil]; exact hown) ⟨rfl, rfl, rfl, Nat.le_refl _, fun _ _ _ => rfl⟩
  · have hml : rs.length + ys.length ≤ maxLen := Nat.le_trans hl (by decide)
    refine wpList_append_own w hgd s x 25 ho B 40 i0 _ 3 32 Tryz.underlying25 hi hz0 hz1 hz2 rfl (by decide) _ _ _ hs hown ⟨g, 0, none⟩ ys.length cap (recVals ys) hx hys'.1 (fun j u hj => hys'.cells (g := g) rfl j u hj) (recVals_one ys) hml (by omega) hB ?_
    intro v' w' ho' hg' _
    refine h v' w' ?_ hg'
    unfold OwnsR
    rw [recVals_append, List.length_append]
    exact ho'
/-- What is known of a chunk that was read. -/
structure CkOk (c : Ck) : Prop where
  head : wellHead c.f c.t c.b c.z = true
  all : c.all ≤ 100
  many : c.many ≤ 65535
  nu : c.nu ≤ 65535
  len : c.rs.length ≤ 100
  recs : recsOk c.b c.z (-1) c.rs = true
theorem openG_ok (M : List UInt8) (least : Nat) (l : List UInt8) (f t b z m : Nat) (h : openG M least 0 l = .inr (f, t, b, z, m)) : wellHead f t b z = true ∧ m ≤ b := by
  unfold openG at h
  rw [if_pos (rfl : (0 : Nat) = 0)] at h
  split at h
  · cases h
  split at h
  · cases h
  split at h
  · rename_i hc
    simp only [Sum.inr.injEq] at h
    rw [h] at hc
    simpa using hc
  · cases h
theorem chunkR_ok (l : List UInt8) (c : Ck) (h : chunkR l = .inr c) : CkOk c := by
  unfold chunkR at h
  split at h
  · cases h
  · rename_i f t b z all ho
    obtain ⟨hw, hm⟩ := openG_ok _ _ l f t b z all ho
    obtain ⟨h1, h2, h3, h4, h5, h6, h7, h8, h9⟩ : (0 : Int) ≤ f ∧ (f : Int) ≤ 2147483647 ∧ (1 : Int) ≤ t ∧ (t : Int) ≤ 2147483647 ∧ (f : Int) ≠ t ∧ (1 : Int) ≤ b ∧ (b : Int) ≤ 100 ∧ (1 : Int) ≤ z ∧ (z : Int) ≤ 64 := of_decide_eq_true hw
    split at h
    · cases h
    · rename_i hc
      split at h
      · cases h
      · rename_i rs q hwk
        split at h
        · cases h
        · simp only [Sum.inr.injEq] at h
          subst h
          have n18 := num2_lt l 18
          have n20 := num2_lt l 20
          obtain ⟨_, e2⟩ := walk_bytes b z _ (-1) _ hwk
          have hln := recsOk_length b z rs e2 (by omega)
          exact ⟨hw, by show all ≤ 100; omega, by show num _ ≤ 65535; omega, by show num _ ≤ 65535; omega, by show rs.length ≤ 100; omega, e2⟩
theorem chunksOf_mem : ∀ (xs : List (List UInt8)) (cs : List Ck), chunksOf xs = .inr cs → ∀ c ∈ cs, CkOk c
  | [], cs, h, c, hc => by
    simp only [chunksOf, Sum.inr.injEq] at h
    subst h
    cases hc
  | x :: xs, cs, h, c, hc => by
    rw [chunksOf] at h
    cases hx : chunkR x with
    | inl k => rw [hx] at h; cases h
    | inr c0 =>
      rw [hx] at h
      simp only [] at h
      cases h2 : chunksOf xs with
      | inl k => rw [h2] at h; cases h
      | inr cs0 =>
        rw [h2] at h
        simp only [Sum.inr.injEq] at h
        subst h
        rcases List.mem_cons.1 hc with rfl | hc
        · exact chunkR_ok x _ hx
        · exact chunksOf_mem xs cs0 h2 c hc
theorem gathered_length (n : Nat) : ∀ (cs : List Ck), (∀ c ∈ cs, CkOk c) → (gathered cs n).length ≤ 100 * (cs.filter (fun c => c.nu == n)).length
  | [], _ => by simp [gathered]
  | c :: cs, h => by
    have ih := gathered_length n cs (fun c hc => h c (by simp [hc]))
    have hc := (h c (by simp)).len
    unfold gathered at *
    by_cases e : (c.nu == n) = true
    · rw [List.filter_cons_of_pos (by simpa using e), List.flatMap_cons, List.length_append, List.length_cons]
      omega
    · rw [List.filter_cons_of_neg (by simpa using e)]
      exact ih
theorem gatherAll_succ (cs : List Ck) (n : Nat) : gatherAll cs (n + 1) = gatherAll cs n ++ gathered cs n := by
  unfold gatherAll
  rw [List.range_succ, List.flatMap_append]
  simp
theorem gathered_take (cs : List Ck) (n j : Nat) (h : j < cs.length) : gathered (cs.take (j + 1)) n = gathered (cs.take j) n ++ (if cs[j].nu == n then cs[j].rs else []) ∧ ((cs.take (j + 1)).filter (fun c => c.nu == n)).length = ((cs.take j).filter (fun c => c.nu == n)).length + (if cs[j].nu == n then 1 else 0) := by
  rw [List.take_succ_eq_append_getElem h]
  unfold gathered
  rw [List.filter_append, List.flatMap_append, List.length_append]
  by_cases e : (cs[j].nu == n) = true
  · rw [List.filter_cons_of_pos (by simpa using e), if_pos e, if_pos e]
    simp
  · rw [List.filter_cons_of_neg (by simpa using e), if_neg e, if_neg e]
    simp

end Go.Proofs.YtdjmhagclcfnfabGreat
