/- The program's Serialize. -/
import Derived.Test.YtpopjmkipddpgaaPWrite
namespace Go.Proofs.Ytpopjmkipddpgaa
open Go.RowKit Go.Shelf

theorem headOk_and (f t b z : Int) (rs : List Rc) : (headOk f t b z rs.length && recsOk b z (-1) rs) = (wellHead f t b z && recsOk b z (-1) rs) := by
  unfold headOk
  cases hw : wellHead f t b z with
  | false => rfl
  | true =>
    cases hr : recsOk b z (-1) rs with
    | false => simp
    | true =>
      have h : 0 ≤ f ∧ f ≤ 2147483647 ∧ 1 ≤ t ∧ t ≤ 2147483647 ∧ f ≠ t ∧ 1 ≤ b ∧ b ≤ 100 ∧ 1 ≤ z ∧ z ≤ 64 := of_decide_eq_true hw
      have := recsOk_length b z rs hr (by omega)
      simp [this]

/-- wellMade, of any stream. -/
theorem pwell_any (f t b z : Int) (sv : Value) (rs : List Rc) (w : World) (hR : Recs w.heap.size w sv rs) (hlen : rs.length ≤ 4611686018427387904) :
    Calls Try.prog 37 #[.agg #[.int .i64 f, .int .i64 t, .int .i64 b, .int .i64 z, sv]] w fun e w' => e = .returned (.bool (wellHead f t b z && recsOk b z (-1) rs)) ∧ Below w.heap.size w w' := by
  rw [← headOk_and]
  cases h : headOk f t b z rs.length with
  | true => exact pwell_goodHead f t b z sv rs w hR hlen h
  | false =>
    obtain ⟨a, c, rfl⟩ := hR.slice
    exact pwell_badHead f t b z a rs.length c w h

set_option maxRecDepth 100000 in
set_option maxHeartbeats 1000000 in
theorem pser_bad (f t b z : Int) (sv : Value) (rs : List Rc) (w : World) (hR : Recs w.heap.size w sv rs) (hlen : rs.length ≤ 4611686018427387904) (h : (wellHead f t b z && recsOk b z (-1) rs) = false) :
    Calls Try.prog 15 #[.agg #[.int .i64 f, .int .i64 t, .int .i64 b, .int .i64 z, sv]] w fun e w' => e = .returned (.tuple #[.string ⟨#[]⟩, .int .i64 9]) ∧ Below w.heap.size w w' := by
  obtain ⟨a, c, rfl⟩ := hR.slice
  have hW := fun w1 (hb1 : Below w.heap.size w w1) => pwell_any f t b z _ rs w1 (hR.moved hb1) hlen
  rw [h] at hW
  have HW : Hid _ := hW
  clear hW h
  go_enter Try.func15, Try.ntmps15
  go_wp2_with fail
  refine (HW.out _ ((Below.refl _ _).alloc (Nat.le_refl _) _)).mono ?_
  rintro e w1 ⟨rfl, hb⟩
  go_wp2
  go_ret2
  exact ⟨rfl, ((Below.refl _ _).alloc (Nat.le_refl _) _).trans (hb.mono (by simp))⟩

theorem keepS5 {W0 W w' : World} {b : Nat} {v0 v1 v2 v3 v4 : Value}
    (hS : W.cell? ⟨b, 0, none⟩ = some v0 ∧ W.cell? ⟨b, 1, none⟩ = some v1 ∧ W.cell? ⟨b, 2, none⟩ = some v2 ∧ W.cell? ⟨b, 3, none⟩ = some v3 ∧ W.cell? ⟨b, 4, none⟩ = some v4 ∧ Below W0.heap.size W0 W) (hb : Below W.heap.size W w') (hp : b < W0.heap.size) :
    w'.cell? ⟨b, 0, none⟩ = some v0 ∧ w'.cell? ⟨b, 1, none⟩ = some v1 ∧ w'.cell? ⟨b, 2, none⟩ = some v2 ∧ w'.cell? ⟨b, 3, none⟩ = some v3 ∧ w'.cell? ⟨b, 4, none⟩ = some v4 ∧ Below W0.heap.size W0 w' :=
  have hB := hS.2.2.2.2.2
  ⟨keep1 hS.1 hB hb hp, keep1 hS.2.1 hB hb hp, keep1 hS.2.2.1 hB hb hp, keep1 hS.2.2.2.1 hB hb hp, keep1 hS.2.2.2.2.1 hB hb hp, keepB hB hb⟩

theorem s5_below {W0 W : World} {b : Nat} {v0 v1 v2 v3 v4 : Value}
    (hS : W.cell? ⟨b, 0, none⟩ = some v0 ∧ W.cell? ⟨b, 1, none⟩ = some v1 ∧ W.cell? ⟨b, 2, none⟩ = some v2 ∧ W.cell? ⟨b, 3, none⟩ = some v3 ∧ W.cell? ⟨b, 4, none⟩ = some v4 ∧ Below W0.heap.size W0 W) : Below W0.heap.size W0 W := hS.2.2.2.2.2

set_option maxRecDepth 100000 in
set_option maxHeartbeats 4000000 in
theorem pser_good (f t b z : Nat) (sv : Value) (rs : List Rc) (w : World) (hR : Recs w.heap.size w sv rs) (hw : wellHead f t b z = true) (ho : recsOk b z (-1) rs = true) :
    Calls Try.prog 15 #[.agg #[.int .i64 f, .int .i64 t, .int .i64 b, .int .i64 z, sv]] w fun e w' => e = .returned (.tuple #[.string ⟨(serB f t b z rs).toArray⟩, .int .i64 0]) ∧ Below w.heap.size w w' := by
  obtain ⟨h1, h2, h3, h4, h5, h6, h7, h8, h9⟩ : (0 : Int) ≤ f ∧ (f : Int) ≤ 2147483647 ∧ (1 : Int) ≤ t ∧ (t : Int) ≤ 2147483647 ∧ (f : Int) ≠ t ∧ (1 : Int) ≤ b ∧ (b : Int) ≤ 100 ∧ (1 : Int) ≤ z ∧ (z : Int) ≤ 64 := of_decide_eq_true hw
  have hn : rs.length ≤ 100 := by have := recsOk_length b z rs ho (by omega); omega
  clear h1 h2 h3 h4 h5 h6 h8 h9
  obtain ⟨a, c, rfl⟩ := hR.slice
  have hW := fun w1 (hb1 : Below w.heap.size w w1) => pwell_any f t b z _ rs w1 (hR.moved hb1) (by omega)
  rw [hw, ho] at hW
  have HW : Hid _ := hW
  clear hW
  go_enter Try.func15, Try.ntmps15
  go_wp2_with fail
  refine (HW.out _ ((Below.refl _ _).alloc (Nat.le_refl _) _)).mono ?_
  rintro e w1 ⟨rfl, hb⟩
  clear HW
  generalize hO : (Obj.cells #[.int .i64 f, .int .i64 t, .int .i64 b, .int .i64 z, .slice a rs.length c] 24) = O at *
  have hB1 : Below w.heap.size w w1 := ((Below.refl _ _).alloc (Nat.le_refl _) _).trans (hb.mono (by simp))
  have hs1 : w.heap.size < w1.heap.size := by have := hb.size; simp at this; omega
  have hc := fun i => hb.cell (p := ⟨w.heap.size, i, none⟩) (by simp)
  have c0 := (hc 0).trans (show _ = some (.int .i64 f) by subst hO; simp [go_sem])
  have c1 := (hc 1).trans (show _ = some (.int .i64 t) by subst hO; simp [go_sem])
  have c2 := (hc 2).trans (show _ = some (.int .i64 b) by subst hO; simp [go_sem])
  have c3 := (hc 3).trans (show _ = some (.int .i64 z) by subst hO; simp [go_sem])
  have c4 := (hc 4).trans (show _ = some (.slice a rs.length c) by subst hO; simp [go_sem])
  clear hc hO hb
  have HR : Hid (∀ W, Below w1.heap.size w1 W → Recs W.heap.size W (.slice a rs.length c) rs) := fun W h => hR.moved (hB1.trans (h.mono hB1.size))
  go_wp2
  have HV : Hid (∀ W : World, (W.alloc (.cells #[.slice a rs.length c] 22)).cell? ⟨W.heap.size, 0, none⟩ = some (.slice a rs.length c)) := fun W => by simp [go_sem]
  have HVl : Hid (∀ W : World, W.heap.size < (W.alloc (.cells #[.slice a rs.length c] 22)).heap.size) := fun W => by simp
  go_region_held3 (fun w' => w'.cell? ⟨w.heap.size, 0, none⟩ = some (.int .i64 f) ∧ w'.cell? ⟨w.heap.size, 1, none⟩ = some (.int .i64 t) ∧ w'.cell? ⟨w.heap.size, 2, none⟩ = some (.int .i64 b) ∧ w'.cell? ⟨w.heap.size, 3, none⟩ = some (.int .i64 z) ∧ w'.cell? ⟨w.heap.size, 4, none⟩ = some (.slice a rs.length c) ∧ Below w1.heap.size w1 w')
    (first | exact ⟨c0, c1, c2, c3, c4, (Below.refl _ _).drew⟩ | exact keepS5 (by assumption) hb2 hs1 | exact keepS5 (by assumption) ((Below.refl _ _).alloc (Nat.le_refl _) _) hs1 | exact keepS5 (by assumption) hb4 hs1)
    (first | (go_at_call 39; refine (headOf_any _ _ _ _ _ _ _ _).mono ?_; rintro e w2 ⟨rfl, hb2⟩) | (go_at_call 40; refine (values_any _ _ _ _).mono ?_; rintro e w3 ⟨rfl, rfl⟩) | (go_at_call 38; refine (write_any f t b z (.slice a rs.length c) rs _ _ ?_ ?_ ?_ hw ho).mono ?_; exact HR.out _ (s5_below (b := w.heap.size) (v0 := .int .i64 f) (v1 := .int .i64 t) (v2 := .int .i64 b) (v3 := .int .i64 z) (v4 := .slice a rs.length c) (by assumption)); exact HV.out _; exact HVl.out _; rintro e w4 ⟨rfl, hb4⟩))
  go_wp2
  go_ret2
  exact ⟨rfl, hB1.trans (Below.mono (s5_below (b := w.heap.size) (v0 := .int .i64 f) (v1 := .int .i64 t) (v2 := .int .i64 b) (v3 := .int .i64 z) (v4 := .slice a rs.length c) (by assumption)) hB1.size)⟩
end Go.Proofs.Ytpopjmkipddpgaa
