/- The program's Parse. -/
import Derived.Test.YtpopjmkipddpgabPCollect
import Derived.Recover
import Derived.Defers
import Derived.Laws.Pointers
namespace Go.Proofs.Ytpopjmkipddpgab
open Go.RowKit Go.Shelf

/-- P3, as mathematics: the error, or the stream. -/
def parseR (l : List UInt8) : Int ⊕ (Nat × Nat × Nat × Nat × List Rc) :=
  match openR l with
  | .inl k => .inl k
  | .inr (f, t, b, z, m) =>
    match walkR b z m (-1) (l.drop 18) with
    | (_, .inl k) => .inl k
    | (rs, .inr q) => match endR l (l.length - q.length) with
      | some k => .inl k
      | none => .inr (f, t, b, z, rs)

theorem OwnsR.base {B B' : Nat} {W : World} {v : Value} {rs : List Rc} (h : OwnsR B W v rs) (hb : B' ≤ B) : OwnsR B' W v rs := by
  have h0 : W.ownsRow B 35 3 v rs.length (recVals rs) := h
  refine ⟨h0.1, ?_⟩
  rcases h0.2 with hn | ⟨g, cap, cur, hv, hbg, rest⟩
  · exact .inl hn
  · exact .inr ⟨g, cap, cur, hv, Nat.le_trans hb hbg, rest⟩
theorem OwnsR.set {B : Nat} {W : World} {v : Value} {rs : List Rc} (h : OwnsR B W v rs) {k o : Nat} {x : Value} (hk : k < B) : OwnsR B (W.setCell ⟨k, o, none⟩ x) v rs := by
  refine World.ownsRow.kept h (gset W k o x) ?_
  rcases h.2 with ⟨rfl, _⟩ | ⟨g, cap, cur, rfl, hbg, _⟩
  · exact .inl rfl
  · refine .inr fun e => ?_
    have : g = k := by simpa [Value.ownBlock] using e
    omega
theorem OwnsR.drew {B : Nat} {W : World} {v : Value} {rs : List Rc} (h : OwnsR B W v rs) (n : Nat) : OwnsR B (W.drewN n) v rs := h
/-- What turned lay behind what there was. -/
theorem grown_fresh {A B C : World} {r : Nat} (h : A.grownBy B none) (k : B.grownBy C (some r)) (hr : A.heap.size ≤ r) : A.grownBy C none :=
  ⟨k.os.trans h.os, k.tape.trans h.tape, k.output.trans h.output, Nat.le_trans h.size k.size, fun j hj hne => (k.block j (Nat.lt_of_lt_of_le hj h.size) (by simp; omega)).trans (h.block j hj hne)⟩

end Go.Proofs.Ytpopjmkipddpgab
