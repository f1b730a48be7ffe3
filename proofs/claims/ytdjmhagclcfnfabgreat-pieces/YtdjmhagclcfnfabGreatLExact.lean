/- The walk of Exact. -/
import Derived.Test.YtdjmhagclcfnfabGreatPFace
import Derived.Test.YtdjmhagclcfnfabGreatParseM
import Derived.Test.YtdjmhagclcfnfabGreatKSame
namespace Go.Proofs.YtdjmhagclcfnfabGreat
open Go.RowKit Go.Shelf

theorem recVals_at : ∀ (rs : List Rc) (j : Nat) (h : j < rs.length), (recVals rs)[j * 3]? = some (.bool rs[j].free) ∧ (recVals rs)[j * 3 + 1]? = some (.int .i64 rs[j].block) ∧ (recVals rs)[j * 3 + 2]? = some (.string rs[j].data)
  | r :: rs, 0, _ => ⟨rfl, rfl, rfl⟩
  | r :: rs, j + 1, h => by
    have := recVals_at rs j (by simpa using h)
    have e : recVals (r :: rs) = .bool r.free :: .int .i64 r.block :: .string r.data :: recVals rs := rfl
    rw [e, show (j + 1) * 3 = j * 3 + 1 + 1 + 1 from by omega, show j * 3 + 1 + 1 + 1 + 1 = (j * 3 + 1) + 1 + 1 + 1 from rfl, show j * 3 + 1 + 1 + 1 + 2 = (j * 3 + 2) + 1 + 1 + 1 from rfl]
    simpa only [List.getElem?_cons_succ, List.getElem_cons_succ] using this

theorem OwnsR.recs {B : Nat} {W : World} {v : Value} {rs : List Rc} (h : OwnsR B W v rs) : Recs W.heap.size W v rs := by
  have h0 : W.ownsRow B 40 3 v rs.length (recVals rs) := h
  rcases h0.2 with ⟨rfl, hn⟩ | ⟨g, cap, cur, rfl, _, hg, _⟩
  · exact .inl ⟨List.eq_nil_of_length_eq_zero hn, none, 0, rfl⟩
  · refine .inr ⟨g, 0, cap, rfl, (Array.getElem?_eq_some_iff.1 hg).1, fun j hj => ?_⟩
    obtain ⟨e0, e1, e2⟩ := recVals_at rs j hj
    have c0 := h0.cells (g := g) rfl _ _ e0
    have c1 := h0.cells (g := g) rfl _ _ e1
    have c2 := h0.cells (g := g) rfl _ _ e2
    simp only [Addr.add_lit, Nat.zero_add] at c0 c1 c2 ⊢
    exact ⟨c0, c1, c2⟩

end Go.Proofs.YtdjmhagclcfnfabGreat
