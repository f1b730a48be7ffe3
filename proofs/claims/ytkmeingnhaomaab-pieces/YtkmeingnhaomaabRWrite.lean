/- The reference's write: a chunk's text. -/
import Derived.Test.YtkmeingnhaomaabRParse2
namespace Go.Proofs.Ytkmeingnhaomaab
open Go.RowKit Go.Shelf

def chunkA (f t b z all nu many : Nat) (rs : List Rc) : List UInt8 := [83, 84, 82, 67] ++ headB f t b z all ++ lowB nu 2 ++ lowB many 2 ++ lowB rs.length 2 ++ recsB rs
def chunkB (f t b z all nu many : Nat) (rs : List Rc) : List UInt8 := chunkA f t b z all nu many rs ++ lowB (crc (chunkA f t b z all nu many rs)) 4

theorem box8 {W : World} {k : Nat} {t : TypeId} {v0 v1 v2 v3 v4 v5 v6 v7 : Value} (h : W.heap[k]? = some (.cells #[v0, v1, v2, v3, v4, v5, v6, v7] t (0, 0))) :
    W.cell? ⟨k, 0, none⟩ = some v0 ∧ W.cell? ⟨k, 1, none⟩ = some v1 ∧ W.cell? ⟨k, 2, none⟩ = some v2 ∧ W.cell? ⟨k, 3, none⟩ = some v3 ∧ W.cell? ⟨k, 4, none⟩ = some v4 ∧ W.cell? ⟨k, 5, none⟩ = some v5 ∧ W.cell? ⟨k, 6, none⟩ = some v6 ∧ W.cell? ⟨k, 7, none⟩ = some v7 :=
  ⟨boxed_cell (i := 0) h rfl, boxed_cell (i := 1) h rfl, boxed_cell (i := 2) h rfl, boxed_cell (i := 3) h rfl, boxed_cell (i := 4) h rfl, boxed_cell (i := 5) h rfl, boxed_cell (i := 6) h rfl, boxed_cell (i := 7) h rfl⟩

theorem keep8 {W0 W w' : World} {k : Nat} {v0 v1 v2 v3 v4 v5 v6 v7 : Value} (h : W.cell? ⟨k, 0, none⟩ = some v0 ∧ W.cell? ⟨k, 1, none⟩ = some v1 ∧ W.cell? ⟨k, 2, none⟩ = some v2 ∧ W.cell? ⟨k, 3, none⟩ = some v3 ∧ W.cell? ⟨k, 4, none⟩ = some v4 ∧ W.cell? ⟨k, 5, none⟩ = some v5 ∧ W.cell? ⟨k, 6, none⟩ = some v6 ∧ W.cell? ⟨k, 7, none⟩ = some v7 ∧ Below W0.heap.size W0 W) (hb : Below W.heap.size W w') (hk : k < W0.heap.size) :
    w'.cell? ⟨k, 0, none⟩ = some v0 ∧ w'.cell? ⟨k, 1, none⟩ = some v1 ∧ w'.cell? ⟨k, 2, none⟩ = some v2 ∧ w'.cell? ⟨k, 3, none⟩ = some v3 ∧ w'.cell? ⟨k, 4, none⟩ = some v4 ∧ w'.cell? ⟨k, 5, none⟩ = some v5 ∧ w'.cell? ⟨k, 6, none⟩ = some v6 ∧ w'.cell? ⟨k, 7, none⟩ = some v7 ∧ Below W0.heap.size W0 w' := by
  obtain ⟨h0, h1, h2, h3, h4, h5, h6, h7, hB⟩ := h
  exact ⟨keep1 h0 hB hb hk, keep1 h1 hB hb hk, keep1 h2 hB hb hk, keep1 h3 hB hb hk, keep1 h4 hB hb hk, keep1 h5 hB hb hk, keep1 h6 hB hb hk, keep1 h7 hB hb hk, keepB hB hb⟩

end Go.Proofs.Ytkmeingnhaomaab
