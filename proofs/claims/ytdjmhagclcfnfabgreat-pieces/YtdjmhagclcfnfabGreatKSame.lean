/- strandkeep's sameStream. -/
import Derived.Test.YtdjmhagclcfnfabGreatPFace
import Derived.Test.YtdjmhagclcfnfabGreatLWrites
namespace Go.Proofs.YtdjmhagclcfnfabGreat
open Go.RowKit Go.Shelf

/-- The two boxes in which sameStream holds its arguments. -/
theorem two_boxes (w : World) (A B : Array Value) (t : TypeId) : ((w.alloc (.cells A t)).alloc (.cells B t)).heap[w.heap.size]? = some (.cells A t (0, 0)) ∧ ((w.alloc (.cells A t)).alloc (.cells B t)).heap[w.heap.size + 1]? = some (.cells B t (0, 0)) ∧ Below w.heap.size w ((w.alloc (.cells A t)).alloc (.cells B t)) := by
  refine ⟨(Below.heap_alloc _ _ _ (by simp)).trans (World.alloc_heap_new _ _), ?_, ((Below.refl _ _).alloc (Nat.le_refl _) _).alloc (by simp) _⟩
  have h := World.alloc_heap_new (w.alloc (.cells A t)) (.cells B t)
  rwa [World.size_alloc] at h

end Go.Proofs.YtdjmhagclcfnfabGreat
