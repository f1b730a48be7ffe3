/- The program's Serialize. -/
import Derived.Test.YtdjmhagclcfnfaaPWrite2
namespace Go.Proofs.Ytdjmhagclcfnfaa
open Go.RowKit Go.Shelf

theorem headOk_and (f t b z : Int) (rs : List Rc) : (headOk f t b z rs.length && recsOk b z (-1) rs) = (wellHead f t b z && recsOk b z (-1) rs) := by
  unfold headOk
  cases hw : wellHead f t b z with
  | false => rfl
  | true =>
    cases hr : recsOk b z (-1) rs with
    | false => simp
    | true =>
      have h : 0 ≤ f ∧ f ≤ 2147483647 ∧ 1 ≤ t ∧ t ≤ 2147483647 ∧ f ≠ t ∧ 1 ≤ b ∧ b ≤ 100 ∧ 1 ≤ z ∧ z ≤ 64 := of_decide_eq_true hw
      have := recsOk_length b z rs hr (by omega)
      simp [this]

/-- wellMade, of any stream. -/
theorem pwell_any (f t b z : Int) (sv : Value) (rs : List Rc) (w : World) (hR : Recs w.heap.size w sv rs) (hlen : rs.length ≤ 4611686018427387904) :
    Calls Try.prog 51 #[.agg #[.int .i64 f, .int .i64 t, .int .i64 b, .int .i64 z, sv]] w fun e w' => e = .returned (.bool (wellHead f t b z && recsOk b z (-1) rs)) ∧ Below w.heap.size w w' := by
  rw [← headOk_and]
  cases h : headOk f t b z rs.length with
  | true => exact pwell_goodHead f t b z sv rs w hR hlen h
  | false =>
    obtain ⟨a, c, rfl⟩ := hR.slice
    exact pwell_badHead f t b z a rs.length c w h

set_option maxRecDepth 100000 in
set_option maxHeartbeats 1000000 in
theorem pser_bad (f t b z : Int) (sv : Value) (rs : List Rc) (w : World) (hR : Recs w.heap.size w sv rs) (hlen : rs.length ≤ 4611686018427387904) (h : (wellHead f t b z && recsOk b z (-1) rs) = false) :
    Calls Try.prog 18 #[.agg #[.int .i64 f, .int .i64 t, .int .i64 b, .int .i64 z, sv]] w fun e w' => e = .returned (.tuple #[.string ⟨#[]⟩, .int .i64 9]) ∧ Below w.heap.size w w' := by
  obtain ⟨a, c, rfl⟩ := hR.slice
  have hW := fun w1 (hb1 : Below w.heap.size w w1) => pwell_any f t b z _ rs w1 (hR.moved hb1) hlen
  rw [h] at hW
  have HW : Hid _ := hW
  clear hW h
  go_enter Try.func18, Try.ntmps18
  go_wp2_with fail
  refine (HW.out _ ((Below.refl _ _).alloc (Nat.le_refl _) _)).mono ?_
  rintro e w1 ⟨rfl, hb⟩
  go_wp2
  go_ret2
  exact ⟨rfl, ((Below.refl _ _).alloc (Nat.le_refl _) _).trans (hb.mono (by simp))⟩

set_option maxRecDepth 100000 in
set_option maxHeartbeats 4000000 in
theorem pser_good (f t b z : Nat) (sv : Value) (rs : List Rc) (w : World) (hR : Recs w.heap.size w sv rs) (hw : wellHead f t b z = true) (ho : recsOk b z (-1) rs = true) :
    Calls Try.prog 18 #[.agg #[.int .i64 f, .int .i64 t, .int .i64 b, .int .i64 z, sv]] w fun e w' => e = .returned (.tuple #[.string ⟨(serB f t b z rs).toArray⟩, .int .i64 0]) ∧ Below w.heap.size w w' := by
  obtain ⟨h1, h2, h3, h4, h5, h6, h7, h8, h9⟩ : (0 : Int) ≤ f ∧ (f : Int) ≤ 2147483647 ∧ (1 : Int) ≤ t ∧ (t : Int) ≤ 2147483647 ∧ (f : Int) ≠ t ∧ (1 : Int) ≤ b ∧ (b : Int) ≤ 100 ∧ (1 : Int) ≤ z ∧ (z : Int) ≤ 64 := of_decide_eq_true hw
  have hn : rs.length ≤ 100 := by have := recsOk_length b z rs ho (by omega); omega
  clear h1 h2 h3 h4 h5 h6 h8 h9
  obtain ⟨a, c, rfl⟩ := hR.slice
  have hW := fun w1 (hb1 : Below w.heap.size w w1) => pwell_any f t b z _ rs w1 (hR.moved hb1) (by omega)
  rw [hw, ho] at hW
  have HW : Hid _ := hW
  clear hW
  go_enter Try.func18, Try.ntmps18
  go_wp2_with fail
  refine (HW.out _ ((Below.refl _ _).alloc (Nat.le_refl _) _)).mono ?_
  rintro e w1 ⟨rfl, hb⟩
  clear HW
  generalize hO : (Obj.cells #[.int .i64 f, .int .i64 t, .int .i64 b, .int .i64 z, .slice a rs.length c] 24) = O at *
  have hB1 : Below w.heap.size w w1 := ((Below.refl _ _).alloc (Nat.le_refl _) _).trans (hb.mono (by simp))
  have hs1 : w.heap.size < w1.heap.size := by have := hb.size; simp at this; omega
  have hc := fun i => hb.cell (p := ⟨w.heap.size, i, none⟩) (by simp)
  have c0 := (hc 0).trans (show _ = some (.int .i64 f) by subst hO; simp [go_sem])
  have c1 := (hc 1).trans (show _ = some (.int .i64 t) by subst hO; simp [go_sem])
  have c2 := (hc 2).trans (show _ = some (.int .i64 b) by subst hO; simp [go_sem])
  have c3 := (hc 3).trans (show _ = some (.int .i64 z) by subst hO; simp [go_sem])
  have c4 := (hc 4).trans (show _ = some (.slice a rs.length c) by subst hO; simp [go_sem])
  clear hc hO hb
  have hR1 : Recs w1.heap.size w1 (.slice a rs.length c) rs := hR.moved hB1
  have HW2 : Hid (∀ u : Unit, _) := fun _ => write_any f t b z (.slice a rs.length c) rs w1 hR1 hw ho
  clear hR1 hR
  go_wp2_with fail
  refine (HW2.out ()).mono ?_
  rintro e w2 ⟨rfl, hb2⟩
  have HB2 : Hid _ := hB1.trans (hb2.mono hB1.size)
  clear hb2 c0 c1 c2 c3 c4
  go_wp2
  go_ret2
  exact ⟨rfl, HB2.out⟩
end Go.Proofs.Ytdjmhagclcfnfaa
