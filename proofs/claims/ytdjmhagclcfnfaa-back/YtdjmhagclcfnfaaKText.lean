/- strandkeep's text. -/
import Derived.Test.YtdjmhagclcfnfaaKMade
namespace Go.Proofs.Ytdjmhagclcfnfaa
open Go.RowKit Go.Shelf

theorem serB_length (f t b z : Nat) (rs : List Rc) : (serB f t b z rs).length = 22 + (recsB rs).length := by
  simp [serB, aheadB, headB_length, lowB_length]
  omega
theorem serB_small (f t b z : Nat) (rs : List Rc) (hb : b ≤ 100) (hz : z ≤ 64) (ho : recsOk b z (-1) rs = true) : 22 ≤ (serB f t b z rs).length ∧ (serB f t b z rs).length ≤ 10000 := by
  have h1 := recsB_length b z (by omega) rs (-1) ho
  have h2 := recsOk_length b z rs ho (by omega)
  rw [serB_length]
  omega

set_option maxRecDepth 100000 in
set_option maxHeartbeats 1000000 in
theorem text_good (f t b z : Nat) (sv : Value) (rs : List Rc) (w : World) (hR : Recs w.heap.size w sv rs) (hw : wellHead f t b z = true) (ho : recsOk b z (-1) rs = true) :
    Calls Try.prog 42 #[.agg #[.int .i64 f, .int .i64 t, .int .i64 b, .int .i64 z, sv]] w fun e w' => e = .returned (.string ⟨(serB f t b z rs).toArray⟩) ∧ w.grownBy w' none := by
  obtain ⟨a, c, rfl⟩ := hR.slice
  have HS : Hid (∀ W, Below w.heap.size w W → _) := fun W hb => pser_good f t b z (.slice a rs.length c) rs W (hR.moved hb) hw ho
  clear hR hw ho
  generalize serB f t b z rs = L at *
  go_enter Try.func42, Try.ntmps42
  go_wp2_with fail
  refine (HS.out _ ((Below.refl _ _).alloc (Nat.le_refl _) _)).mono ?_
  rintro e w3 ⟨rfl, hb3⟩
  have G3 : Hid _ := hb3
  clear hb3
  go_wp2
  go_ret
  exact ⟨rfl, gtrans (galloc _ _ _) (gbelow G3.out)⟩
end Go.Proofs.Ytdjmhagclcfnfaa
