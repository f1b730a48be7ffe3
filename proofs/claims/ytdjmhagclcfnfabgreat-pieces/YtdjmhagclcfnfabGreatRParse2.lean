/- The reference's Parse. -/
import Derived.Test.YtdjmhagclcfnfabGreatREnds
namespace Go.Proofs.YtdjmhagclcfnfabGreat
open Go.RowKit Go.Shelf

theorem openR_err (l : List UInt8) (k : Int) (h : openR l = .inl k) : 2 ≤ k ∧ k ≤ 8 := by
  unfold openR at h
  repeat' split at h
  all_goals simp only [Sum.inl.injEq, reduceCtorEq] at h
  all_goals omega
theorem endR_err (l : List UInt8) (p : Nat) (k : Int) (h : endR l p = some k) : 2 ≤ k ∧ k ≤ 8 := by
  unfold endR at h
  repeat' split at h
  all_goals simp only [Option.some.injEq, reduceCtorEq] at h
  all_goals omega

/-- Where a rest lies. -/
theorem rest_at (l : List UInt8) (p0 b z n : Nat) (rs : List Rc) (q : List UInt8) (hz : z ≤ 64) (h0 : p0 ≤ l.length) (h : walkR b z n (-1) (l.drop p0) = (rs, .inr q)) : l.drop (l.length - q.length) = q ∧ l.length - q.length ≤ p0 + 67 * n ∧ q.length ≤ l.length := by
  obtain ⟨e1, e2⟩ := walk_bytes b z n (-1) _ h
  have e3 := walk_length b z n (-1) _ h
  have hlen := congrArg List.length e1
  rw [List.length_append, List.length_drop] at hlen
  have hp : l.length - q.length = p0 + (recsB rs).length := by omega
  have hb := recsB_length b z (by omega) rs (-1) e2
  rw [e3] at hb
  refine ⟨?_, by omega, by omega⟩
  rw [hp, ← List.drop_drop, e1, List.drop_left' rfl]

theorem box5 {W : World} {k : Nat} {t : TypeId} {v0 v1 v2 v3 v4 : Value} (h : W.heap[k]? = some (.cells #[v0, v1, v2, v3, v4] t (0, 0))) :
    W.cell? ⟨k, 0, none⟩ = some v0 ∧ W.cell? ⟨k, 1, none⟩ = some v1 ∧ W.cell? ⟨k, 2, none⟩ = some v2 ∧ W.cell? ⟨k, 3, none⟩ = some v3 ∧ W.cell? ⟨k, 4, none⟩ = some v4 ∧
    W.frozen? ⟨k, 0, none⟩ = false ∧ W.frozen? ⟨k, 1, none⟩ = false ∧ W.frozen? ⟨k, 2, none⟩ = false ∧ W.frozen? ⟨k, 3, none⟩ = false ∧ W.frozen? ⟨k, 4, none⟩ = false :=
  ⟨boxed_cell (i := 0) h rfl, boxed_cell (i := 1) h rfl, boxed_cell (i := 2) h rfl, boxed_cell (i := 3) h rfl, boxed_cell (i := 4) h rfl, boxed_frozen h, boxed_frozen h, boxed_frozen h, boxed_frozen h, boxed_frozen h⟩
theorem box_kept {W W' : World} {k : Nat} {o : Obj} (h : W.heap[k]? = some o) (hg : W.grownBy W' none) : W'.heap[k]? = some o ∧ k < W'.heap.size :=
  ⟨(hg.block k (Array.getElem?_eq_some_iff.1 h).1 (by simp)).trans h, Nat.lt_of_lt_of_le (Array.getElem?_eq_some_iff.1 h).1 hg.size⟩

theorem keep5g {W0 W w' : World} {k : Nat} {v0 v1 v2 v3 v4 : Value}
    (hS : W.cell? ⟨k, 0, none⟩ = some v0 ∧ W.cell? ⟨k, 1, none⟩ = some v1 ∧ W.cell? ⟨k, 2, none⟩ = some v2 ∧ W.cell? ⟨k, 3, none⟩ = some v3 ∧ W.cell? ⟨k, 4, none⟩ = some v4 ∧ W0.grownBy W none) (hk : k < W0.heap.size) (hg : W.grownBy w' none) :
    w'.cell? ⟨k, 0, none⟩ = some v0 ∧ w'.cell? ⟨k, 1, none⟩ = some v1 ∧ w'.cell? ⟨k, 2, none⟩ = some v2 ∧ w'.cell? ⟨k, 3, none⟩ = some v3 ∧ w'.cell? ⟨k, 4, none⟩ = some v4 ∧ W0.grownBy w' none := by
  obtain ⟨h0, h1, h2, h3, h4, h5⟩ := hS
  have hb := hg.block k (Nat.lt_of_lt_of_le hk h5.size) (by simp)
  exact ⟨(World.cell?_of_block hb).trans h0, (World.cell?_of_block hb).trans h1, (World.cell?_of_block hb).trans h2, (World.cell?_of_block hb).trans h3, (World.cell?_of_block hb).trans h4, gtrans h5 hg⟩
/-- .. in one shape. -/
theorem recs_shape {b z n : Nat} {q : List UInt8} {w w' : World} {e : Ending} (h : RecsSaid false b z n q w e w') :
    ∃ a ln cp s k, e = .returned (.tuple #[.slice a ln cp, .string s, .int .i64 k]) ∧ w.grownBy w' none ∧
      ((∃ rs, walkR b z n (-1) q = (rs, .inl k) ∧ 2 ≤ k) ∨ (∃ rs q', walkR b z n (-1) q = (rs, .inr q') ∧ s = ⟨q'.toArray⟩ ∧ k = 0 ∧ OwnsR w.heap.size w' (.slice a ln cp) rs)) := by
  obtain ⟨hg, (⟨rs, k, hw, rfl⟩ | ⟨rs, q', v, hw, rfl, ho⟩)⟩ := h
  · rw [walkS_R] at hw
    exact ⟨none, 0, 0, _, k, rfl, hg, .inl ⟨rs, hw, (walk_err b z n (-1) q hw).1⟩⟩
  · rw [walkS_R] at hw
    obtain ⟨a, ln, cp, rfl⟩ := ho.slice
    exact ⟨a, ln, cp, _, 0, rfl, hg, .inr ⟨rs, q', hw, rfl, rfl, ho⟩⟩

end Go.Proofs.YtdjmhagclcfnfabGreat
