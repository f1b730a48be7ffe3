/- The program's write. -/
import Derived.Test.YtdjmhagclcfnfaaPWrite
namespace Go.Proofs.Ytdjmhagclcfnfaa
open Go.RowKit Go.Shelf

theorem serB_shut (f t b z : Nat) (rs : List Rc) : serB f t b z rs = shutB (([83, 84, 82, 68] ++ headB f t b z rs.length) ++ recsB rs) := rfl

theorem keepS5b {W0 W w' : World} {b : Nat} {v0 v1 v2 v3 v4 : Value}
    (hS : W.cell? ⟨b, 0, none⟩ = some v0 ∧ W.cell? ⟨b, 1, none⟩ = some v1 ∧ W.cell? ⟨b, 2, none⟩ = some v2 ∧ W.cell? ⟨b, 3, none⟩ = some v3 ∧ W.cell? ⟨b, 4, none⟩ = some v4 ∧ Below W0.heap.size W0 W) (hb : Below W0.heap.size W w') (hp : b < W0.heap.size) :
    w'.cell? ⟨b, 0, none⟩ = some v0 ∧ w'.cell? ⟨b, 1, none⟩ = some v1 ∧ w'.cell? ⟨b, 2, none⟩ = some v2 ∧ w'.cell? ⟨b, 3, none⟩ = some v3 ∧ w'.cell? ⟨b, 4, none⟩ = some v4 ∧ Below W0.heap.size W0 w' :=
  have c := fun i => hb.cell (p := ⟨b, i, none⟩) hp
  ⟨(c 0).trans hS.1, (c 1).trans hS.2.1, (c 2).trans hS.2.2.1, (c 3).trans hS.2.2.2.1, (c 4).trans hS.2.2.2.2.1, hS.2.2.2.2.2.trans hb⟩

set_option maxRecDepth 100000 in
set_option maxHeartbeats 4000000 in
theorem write_any (f t b z : Nat) (sv : Value) (rs : List Rc) (w : World) (hR : Recs w.heap.size w sv rs) (hw : wellHead f t b z = true) (ho : recsOk b z (-1) rs = true) :
    Calls Try.prog 52 #[.agg #[.int .i64 f, .int .i64 t, .int .i64 b, .int .i64 z, sv]] w fun e w' => e = .returned (.string ⟨(serB f t b z rs).toArray⟩) ∧ Below w.heap.size w w' := by
  obtain ⟨h1, h2, h3, h4, h5, h6, h7, h8, h9⟩ : (0 : Int) ≤ f ∧ (f : Int) ≤ 2147483647 ∧ (1 : Int) ≤ t ∧ (t : Int) ≤ 2147483647 ∧ (f : Int) ≠ t ∧ (1 : Int) ≤ b ∧ (b : Int) ≤ 100 ∧ (1 : Int) ≤ z ∧ (z : Int) ≤ 64 := of_decide_eq_true hw
  have hn : rs.length ≤ 100 := by have := recsOk_length b z rs ho (by omega); omega
  have hfit := recsOk_fit b z (-1) rs h7 (by omega) ho
  obtain ⟨a, c, rfl⟩ := hR.slice
  go_enter Try.func52, Try.ntmps52
  have HW1 : ∀ W : World, W = w.alloc (.cells #[.int .i64 f, .int .i64 t, .int .i64 b, .int .i64 z, .slice a rs.length c] 24) → W.heap.size = w.heap.size + 1 ∧ Below w.heap.size w W ∧ W.heap[w.heap.size]? = some (.cells #[.int .i64 f, .int .i64 t, .int .i64 b, .int .i64 z, .slice a rs.length c] 24 (0, 0)) := by
    rintro W rfl
    exact ⟨by simp, (Below.refl _ _).alloc (Nat.le_refl _) _, World.alloc_heap_new _ _⟩
  go_wp2
  obtain ⟨w1, hw1⟩ : ∃ w1, w1 = w.alloc (.cells #[.int .i64 f, .int .i64 t, .int .i64 b, .int .i64 z, .slice a rs.length c] 24) := ⟨_, rfl⟩
  obtain ⟨hs1, hB1, hx1⟩ := HW1 w1 hw1
  rw [← hw1]
  clear hw1 HW1
  have c0 := boxed_cell (i := 0) hx1 rfl
  have c1 := boxed_cell (i := 1) hx1 rfl
  have c2 := boxed_cell (i := 2) hx1 rfl
  have c3 := boxed_cell (i := 3) hx1 rfl
  have c4 := boxed_cell (i := 4) hx1 rfl
  have hsl : w.heap.size < w1.heap.size := by omega
  have HR : Hid (∀ W, Below w1.heap.size w1 W → Recs W.heap.size W (.slice a rs.length c) rs) := fun W h => (hR.moved hB1).moved h
  have HL : Hid (([83, 84, 82, 68] ++ headB f t b z rs.length).length ≤ 1000) := by
    show _ ≤ _
    simp [headB_length]
  have HV : Hid (∀ W : World, (W.alloc (.cells #[.slice a rs.length c] 22)).cell? ⟨W.heap.size, 0, none⟩ = some (.slice a rs.length c)) := fun W => by simp [go_sem]
  have HVl : Hid (∀ W : World, W.heap.size < (W.alloc (.cells #[.slice a rs.length c] 22)).heap.size) := fun W => by simp
  clear hx1 hR ho hw
  go_region_held3 (fun w' => w'.cell? ⟨w.heap.size, 0, none⟩ = some (.int .i64 f) ∧ w'.cell? ⟨w.heap.size, 1, none⟩ = some (.int .i64 t) ∧ w'.cell? ⟨w.heap.size, 2, none⟩ = some (.int .i64 b) ∧ w'.cell? ⟨w.heap.size, 3, none⟩ = some (.int .i64 z) ∧ w'.cell? ⟨w.heap.size, 4, none⟩ = some (.slice a rs.length c) ∧ Below w1.heap.size w1 w')
    (first | exact ⟨c0, c1, c2, c3, c4, (Below.refl _ _).drew⟩ | exact keepS5 (by assumption) hb5 hsl | exact keepS5 (by assumption) ((Below.refl _ _).alloc (Nat.le_refl _) _) hsl | exact keepS5 (by assumption) hb3 hsl | exact keepS5 (by assumption) hb2 hsl)
    (first | (go_at_call 68; refine (headOf_any _ _ _ _ _ _ _ _).mono ?_; rintro e w2 ⟨rfl, hb2⟩) | (go_at_call 90; refine (headText_any [83, 84, 82, 68] rfl f t b z rs.length _ ?_ ?_ ?_ ?_ ?_).mono ?_; omega; omega; omega; omega; omega; rintro e w3 ⟨rfl, hb3⟩) | (go_at_call 61; refine (values_any _ _ _ _).mono ?_; rintro e w4 ⟨rfl, rfl⟩) | (go_at_call 89; refine (closed_any z ([83, 84, 82, 68] ++ headB f t b z rs.length) (.slice a rs.length c) rs w3.heap.size _ (HR.out _ (s5_below (b := w.heap.size) (v0 := .int .i64 f) (v1 := .int .i64 t) (v2 := .int .i64 b) (v3 := .int .i64 z) (v4 := .slice a rs.length c) (by assumption))) (HV.out _) (HVl.out _) HL.out h9 (Nat.le_trans hn (by decide)) hfit).mono ?_; rintro e w5 ⟨rfl, hb5⟩))
  go_wp2
  go_ret
  exact ⟨rfl, hB1.trans (Below.mono (s5_below (b := w.heap.size) (v0 := .int .i64 f) (v1 := .int .i64 t) (v2 := .int .i64 b) (v3 := .int .i64 z) (v4 := .slice a rs.length c) (by assumption)) hB1.size)⟩
end Go.Proofs.Ytdjmhagclcfnfaa
