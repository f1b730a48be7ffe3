/- The walk of Applies. -/
import Derived.Test.YtpopjmkipddpgaaPApply
namespace Go.Proofs.Ytpopjmkipddpgaa
open Go.RowKit Go.Shelf

/-- All cells of a slice of blocks. -/
theorem Cls.cells {B : Nat} {W : World} {b off l cap : Nat} {cs : List Cl} (h : Cls B W (.slice (some ⟨b, off, none⟩) l cap) cs) : ∀ j v, (clVals cs)[j]? = some v → W.cell? ⟨b, off + j, none⟩ = some v := by
  intro j v hj
  have hlt : j < cs.length * 2 := by rw [← clVals_length]; exact (List.getElem?_eq_some_iff.1 hj).1
  obtain ⟨b', off', e, _, q0, q1⟩ := h.at (k := j / 2) (by omega)
  simp only [Option.some.injEq, Addr.mk.injEq] at e
  obtain ⟨rfl, rfl, _⟩ := e
  obtain ⟨p0, p1⟩ := clVals_at cs (j / 2) (by omega)
  have hm : j % 2 = 0 ∨ j % 2 = 1 := by omega
  rcases hm with hm | hm
  · have e : j = j / 2 * 2 := by omega
    rw [e] at hj ⊢
    rw [p0] at hj; cases hj; exact q0
  · have e : j = j / 2 * 2 + 1 := by omega
    rw [e] at hj ⊢
    rw [p1] at hj; cases hj; exact q1
theorem run_copy_cls (w : World) (ty : TypeId) (g dLen dCap : Nat) (sv : Value) (cs : List Cl) (cur : Array Value) (hg : w.heap[g]? = some (.cells cur 41 (0, 0))) (hR : Cls w.heap.size w sv cs) (hd : cs.length ≤ dLen) (hfit : cs.length * 2 ≤ cur.size) :
    (Builtin.copy_ #[39, 39] ty #[.slice (some ⟨g, 0, none⟩) dLen dCap, sv]).run Try.prog w = .ok (goInt cs.length) (w.setRow g (clVals cs ++ cur.toList.drop (cs.length * 2)).toArray) := by
  obtain ⟨i0, hi, hz0, hz1, hz2⟩ := info_parts Try.infoCl
  obtain ⟨a, cap, rfl⟩ := hR.slice
  have hst := run_storeCells_at Try.prog g 0 41 (clVals cs) 0 cur w hg (by rw [clVals_length]; omega) (clVals_one cs)
  have hl : (Builtin.firstCells 2 cs.length (.slice a cs.length cap)).run Try.prog w = .ok (clVals cs).toArray w := by
    cases cs with
    | nil =>
      cases a with
      | none => simp [Builtin.firstCells, clVals]
      | some ad => simp [Builtin.firstCells, clVals, loadCells, loadCellsFrom]
    | cons r cs' =>
      obtain ⟨b, off, e, _⟩ := hR.at (k := 0) (by simp)
      subst e
      have := run_loadCells_list (P := Try.prog) w ⟨b, off, none⟩ (clVals (r :: cs')) (fun j v hj => by
        rw [Addr.add_lit]; exact hR.cells j v hj)
      rw [clVals_length] at this
      simpa [Builtin.firstCells] using this
  have hm : min cs.length dLen = cs.length := Nat.min_eq_left hd
  simp only [Nat.add_zero, Nat.zero_add, List.take_zero, List.nil_append, clVals_length] at hst
  simp [Builtin.copy_, run_underlying Try.underlying39, Builtin.lenOf, sizeOf, typeInfo, hi, hz1, hm, hl, hst]
theorem Cls.of_block {W : World} {g : Nat} {cur : Array Value} {t : TypeId} {cs : List Cl} (h : W.heap[g]? = some (.cells cur t (0, 0))) (hc : ∀ j, j < cs.length * 2 → cur[j]? = (clVals cs)[j]?) (cap : Nat) : Cls W.heap.size W (.slice (some ⟨g, 0, none⟩) cs.length cap) cs := by
  refine .inr ⟨g, 0, cap, rfl, (Array.getElem?_eq_some_iff.1 h).1, fun j hj => ?_⟩
  obtain ⟨p0, p1⟩ := clVals_at cs j hj
  refine ⟨boxed_cell h ?_, boxed_cell h ?_⟩
  · rw [hc _ (by omega), Nat.zero_add]; exact p0
  · rw [hc _ (by omega), Nat.zero_add]; exact p1

/-- What Apply tells, in one shape. -/
def resA (l : List UInt8) (cs : List Cl) : List Cl × Int :=
  match applyR l cs with
  | .inl k => ([], k)
  | .inr os => (os, 0)
theorem resA_len (l : List UInt8) (cs : List Cl) : (resA l cs).1.length ≤ 100 := by
  unfold resA applyR
  cases h : parseR l with
  | inl k => simp
  | inr v =>
    obtain ⟨f, t, b, z, rs⟩ := v
    obtain ⟨_, hw, ho⟩ := parse_exact l f t b z rs h
    obtain ⟨h1, h2, h3, h4, h5, h6, h7, h8, h9⟩ : (0 : Int) ≤ f ∧ (f : Int) ≤ 2147483647 ∧ (1 : Int) ≤ t ∧ (t : Int) ≤ 2147483647 ∧ (f : Int) ≠ t ∧ (1 : Int) ≤ b ∧ (b : Int) ≤ 100 ∧ (1 : Int) ≤ z ∧ (z : Int) ≤ 64 := of_decide_eq_true hw
    simp only
    cases hv : volOk cs b z with
    | false => simp
    | true =>
      simp only [volOk, Bool.and_eq_true, decide_eq_true_eq] at hv
      simp [outR]
      omega
theorem toldA_shape {l : List UInt8} {cs : List Cl} {w w' : World} {e : Ending} (h : ToldA l cs w e w') :
    ∃ a c, e = .returned (.tuple #[.slice a (resA l cs).1.length c, .int .i64 (resA l cs).2]) ∧ OwnsC w.heap.size w' (.slice a (resA l cs).1.length c) (resA l cs).1 ∧ w.grownBy w' none := by
  obtain ⟨hg, (⟨k, hk, rfl⟩ | ⟨os, v, hk, rfl, ho⟩)⟩ := h
  · have : resA l cs = ([], k) := by unfold resA; rw [hk]
    rw [this]
    exact ⟨none, 0, rfl, World.ownsRow_nil _ _ _ _, hg⟩
  · have : resA l cs = (os, 0) := by unfold resA; rw [hk]
    rw [this]
    obtain ⟨a, c, rfl⟩ := ho.slice
    exact ⟨a, c, rfl, ho, hg⟩
end Go.Proofs.Ytpopjmkipddpgaa
