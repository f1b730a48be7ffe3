/- Lists of ints and ints, opened. -/
import Derived.Test.YtkmeingnhaomaaaKPick
import Derived.Test.YtkmeingnhaomaaaLWrites3
import Derived.ChangeSlices
namespace Go.Proofs.Ytkmeingnhaomaaa
open Go.ChangeShapes Go.WideShapes Go.ChangeAt Go.RowKit

theorem wf_i64 {n : Int} (h : (Lit.int .i64 n).wf = true) : I64 n := by
  simp only [Lit.wf, Bool.and_eq_true, decide_eq_true_eq] at h
  exact ⟨h.1, h.2⟩
theorem getD_at (zs : List Int) (j : Nat) (h : j < zs.length) : zs.getD j 0 = zs[j] := by
  rw [List.getD_eq_getElem?_getD, List.getElem?_eq_getElem h, Option.getD_some]
set_option maxRecDepth 100000 in
theorem open_nums {H : Type} {enc : TypeId × Value → H} {W : World} {base : Nat} {v : Value} {d : DataW H} {p : List MemPlace} (hv : Value.okWide Try.prog W .any base 64 v) (h : DataW.Trod enc Try.prog W 0 (fun _ => true) true 64 v d p) :
    ∃ xs : List Int, Ints W.heap.size W v xs ∧ (∀ x ∈ xs, I64 x) ∧ xs.length ≤ 9223372036854775807 := by
  obtain ⟨a, len, cap, rfl⟩ := okWide_slice Try.underlying64 hv
  obtain ⟨fuel, hf⟩ := h
  rcases open_ints Try.underlying64 Try.underlying3 Try.cellsInt hf with ⟨e, _⟩ | ⟨a', len', cap', zs, e, _, hl, hm, hzl, _, hc, hwf⟩
  · simp [Value.cells] at e
    obtain ⟨rfl, rfl, rfl⟩ := e
    exact ⟨[], .inl ⟨rfl, none, 0, rfl⟩, (fun x hx => by cases hx), by simp⟩
  · simp [Value.cells] at e
    obtain ⟨rfl, rfl, rfl⟩ := e
    simp only [if_true] at hzl
    have hl2 : (zs.take len).length = len := by rw [List.length_take]; omega
    have hm' : cap ≤ 9223372036854775807 := hm
    refine ⟨zs.take len, ?_, fun x hx => wf_i64 (hwf x (List.mem_of_mem_take hx)), by omega⟩
    by_cases h0 : len = 0
    · subst h0
      exact .inl ⟨by simp, some a', cap, rfl⟩
    · have c0 := hc 0 (by omega)
      obtain ⟨b, o, sp⟩ := a'
      obtain rfl : sp = none := by
        have := World.cell?_spot c0
        simpa [Addr.add] using this
      refine .inr ⟨b, o, cap, by rw [hl2], World.block_lt_of_cell? W _ c0, fun j hj => ?_⟩
      rw [hl2] at hj
      have := hc j (by omega)
      rw [Addr.add_lit, getD_at zs j (by omega)] at this
      rw [List.getElem_take]
      exact this
end Go.Proofs.Ytkmeingnhaomaaa
