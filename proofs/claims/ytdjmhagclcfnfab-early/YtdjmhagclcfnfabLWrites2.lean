/- The law Writes: its walk. -/
import Derived.Test.YtdjmhagclcfnfabLWrites
import Derived.Laws.CopyRow
import Derived.Laws.MakeOwn
namespace Go.Proofs.Ytdjmhagclcfnfab
open Go.RowKit Go.Shelf


/-- Records as cells. -/
def recCells (rs : List Rc) : List Value := rs.flatMap fun r => [.bool r.free, .int .i64 r.block, .string r.data]
theorem recCells_length (rs : List Rc) : (recCells rs).length = rs.length * 3 := by
  induction rs with
  | nil => rfl
  | cons r rs ih => simp only [recCells, List.flatMap_cons, List.length_append, List.length_cons, List.length_nil] at *; omega
theorem recCells_at : ∀ (rs : List Rc) (k : Nat) (h : k < rs.length), (recCells rs)[k * 3]? = some (.bool rs[k].free) ∧ (recCells rs)[k * 3 + 1]? = some (.int .i64 rs[k].block) ∧ (recCells rs)[k * 3 + 2]? = some (.string rs[k].data)
  | [], k, h => by simp at h
  | r :: rs, 0, _ => by simp [recCells]
  | r :: rs, k + 1, h => by
    have ih := recCells_at rs k (by simpa using h)
    have e : recCells (r :: rs) = [.bool r.free, .int .i64 r.block, .string r.data] ++ recCells rs := by simp [recCells]
    rw [e]
    have e3 : ∀ i, ([Value.bool r.free, .int .i64 r.block, .string r.data] ++ recCells rs)[(k + 1) * 3 + i]? = (recCells rs)[k * 3 + i]? := by
      intro i
      rw [List.getElem?_append_right (by simp; omega)]
      congr 1
      simp; omega
    have e0 := e3 0
    simp only [Nat.add_zero] at e0
    rw [e0, e3 1, e3 2]
    simpa using ih
theorem recCells_one (rs : List Rc) : ∀ u ∈ recCells rs, u.oneCell' = true := by
  intro u hu
  simp only [recCells, List.mem_flatMap] at hu
  obtain ⟨r, _, hr⟩ := hu
  simp at hr
  rcases hr with rfl | rfl | rfl <;> rfl
/-- All cells of a slice of records. -/
theorem Recs.cells {B : Nat} {W : World} {b off l cap : Nat} {rs : List Rc} (h : Recs B W (.slice (some ⟨b, off, none⟩) l cap) rs) : ∀ j v, (recCells rs)[j]? = some v → W.cell? ⟨b, off + j, none⟩ = some v := by
  intro j v hj
  have hlt : j < rs.length * 3 := by rw [← recCells_length]; exact (List.getElem?_eq_some_iff.1 hj).1
  obtain ⟨b', off', e, _, q0, q1, q2⟩ := h.at (k := j / 3) (by omega)
  simp only [Option.some.injEq, Addr.mk.injEq] at e
  obtain ⟨rfl, rfl, _⟩ := e
  obtain ⟨p0, p1, p2⟩ := recCells_at rs (j / 3) (by omega)
  have hm : j % 3 = 0 ∨ j % 3 = 1 ∨ j % 3 = 2 := by omega
  rcases hm with hm | hm | hm
  · have e : j = j / 3 * 3 := by omega
    rw [e] at hj ⊢
    rw [p0] at hj; cases hj; exact q0
  · have e : j = j / 3 * 3 + 1 := by omega
    rw [e] at hj ⊢
    rw [p1] at hj; cases hj; exact q1
  · have e : j = j / 3 * 3 + 2 := by omega
    rw [e] at hj ⊢
    rw [p2] at hj; cases hj; exact q2

/-- 'copy(given, records)': into a row that is known whole. -/
theorem run_copy_recs (w : World) (ty : TypeId) (g dLen dCap : Nat) (sv : Value) (rs : List Rc) (cur : Array Value) (hg : w.heap[g]? = some (.cells cur 35 (0, 0))) (hR : Recs w.heap.size w sv rs) (hd : rs.length ≤ dLen) (hfit : rs.length * 3 ≤ cur.size) :
    (Builtin.copy_ #[25, 25] ty #[.slice (some ⟨g, 0, none⟩) dLen dCap, sv]).run Try.prog w = .ok (goInt rs.length) (w.setRow g (recCells rs ++ cur.toList.drop (rs.length * 3)).toArray) := by
  obtain ⟨i0, hi, hz0, hz1, hz2⟩ := info_parts Try.infoRec
  obtain ⟨a, cap, rfl⟩ := hR.slice
  have hst := run_storeCells_at Try.prog g 0 35 (recCells rs) 0 cur w hg (by rw [recCells_length]; omega) (recCells_one rs)
  have hl : (Builtin.firstCells 3 rs.length (.slice a rs.length cap)).run Try.prog w = .ok (recCells rs).toArray w := by
    cases rs with
    | nil =>
      cases a with
      | none => simp [Builtin.firstCells, recCells]
      | some ad => simp [Builtin.firstCells, recCells, loadCells, loadCellsFrom]
    | cons r rs' =>
      obtain ⟨b, off, e, _⟩ := hR.at (k := 0) (by simp)
      subst e
      have := run_loadCells_list (P := Try.prog) w ⟨b, off, none⟩ (recCells (r :: rs')) (fun j v hj => by
        rw [Addr.add_lit]; exact hR.cells j v hj)
      rw [recCells_length] at this
      simpa [Builtin.firstCells] using this
  have hm : min rs.length dLen = rs.length := Nat.min_eq_left hd
  simp only [Nat.add_zero, Nat.zero_add, List.take_zero, List.nil_append, recCells_length] at hst
  simp [Builtin.copy_, run_underlying Try.underlying25, Builtin.lenOf, sizeOf, typeInfo, hi, hz1, hm, hl, hst]

theorem below_dr (w : World) (n : Nat) : Below w.heap.size w (w.drewN n) := ⟨rfl, rfl, rfl, Nat.le_refl _, fun _ _ => rfl⟩
/-- A block that begins with records. -/
theorem Recs.of_block {W : World} {g : Nat} {cs : Array Value} {t : TypeId} {rs : List Rc} (h : W.heap[g]? = some (.cells cs t (0, 0))) (hc : ∀ j, j < rs.length * 3 → cs[j]? = (recCells rs)[j]?) (cap : Nat) : Recs W.heap.size W (.slice (some ⟨g, 0, none⟩) rs.length cap) rs := by
  refine .inr ⟨g, 0, cap, rfl, (Array.getElem?_eq_some_iff.1 h).1, fun j hj => ?_⟩
  obtain ⟨p0, p1, p2⟩ := recCells_at rs j hj
  refine ⟨boxed_cell h ?_, boxed_cell h ?_, boxed_cell h ?_⟩
  · rw [hc _ (by omega), Nat.zero_add]; exact p0
  · rw [hc _ (by omega), Nat.zero_add]; exact p1
  · rw [hc _ (by omega), Nat.zero_add]; exact p2


end Go.Proofs.Ytdjmhagclcfnfab
