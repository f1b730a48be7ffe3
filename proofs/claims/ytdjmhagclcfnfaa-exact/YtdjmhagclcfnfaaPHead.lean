/- The program's HeadText. -/
import Derived.Test.YtdjmhagclcfnfaaPNum2
import Derived.Test.YtdjmhagclcfnfaaSerGood
import Derived.Deep.RegionHeld3
namespace Go.Proofs.Ytdjmhagclcfnfaa
open Go.RowKit

theorem keepS5 {W0 W w' : World} {b : Nat} {v0 v1 v2 v3 v4 : Value}
    (hS : W.cell? ⟨b, 0, none⟩ = some v0 ∧ W.cell? ⟨b, 1, none⟩ = some v1 ∧ W.cell? ⟨b, 2, none⟩ = some v2 ∧ W.cell? ⟨b, 3, none⟩ = some v3 ∧ W.cell? ⟨b, 4, none⟩ = some v4 ∧ Below W0.heap.size W0 W) (hb : Below W.heap.size W w') (hp : b < W0.heap.size) :
    w'.cell? ⟨b, 0, none⟩ = some v0 ∧ w'.cell? ⟨b, 1, none⟩ = some v1 ∧ w'.cell? ⟨b, 2, none⟩ = some v2 ∧ w'.cell? ⟨b, 3, none⟩ = some v3 ∧ w'.cell? ⟨b, 4, none⟩ = some v4 ∧ Below W0.heap.size W0 w' :=
  have hB := hS.2.2.2.2.2
  ⟨keep1 hS.1 hB hb hp, keep1 hS.2.1 hB hb hp, keep1 hS.2.2.1 hB hb hp, keep1 hS.2.2.2.1 hB hb hp, keep1 hS.2.2.2.2.1 hB hb hp, keepB hB hb⟩

theorem s5_below {W0 W : World} {b : Nat} {v0 v1 v2 v3 v4 : Value}
    (hS : W.cell? ⟨b, 0, none⟩ = some v0 ∧ W.cell? ⟨b, 1, none⟩ = some v1 ∧ W.cell? ⟨b, 2, none⟩ = some v2 ∧ W.cell? ⟨b, 3, none⟩ = some v3 ∧ W.cell? ⟨b, 4, none⟩ = some v4 ∧ Below W0.heap.size W0 W) : Below W0.heap.size W0 W := hS.2.2.2.2.2


set_option maxRecDepth 100000 in
set_option maxHeartbeats 4000000 in
theorem headText_any (M : List UInt8) (hM : M.length = 4) (f t b z n : Nat) (w : World) (hf : f < 4294967296) (ht : t < 4294967296) (hb : b < 4294967296) (hz : z < 4294967296) (hn : n < 4294967296) :
    Calls Try.prog 90 #[.string ⟨M.toArray⟩, .agg #[.int .i64 f, .int .i64 t, .int .i64 b, .int .i64 z, .int .i64 n]] w fun e w' => e = .returned (.string ⟨(M ++ headB f t b z n).toArray⟩) ∧ Below w.heap.size w w' := by
  have hlb := lowB_length
  have ef : IntKind.u32.wrap (f : Int) = f := by rw [IntKind.wrap_u32]; omega
  have et : IntKind.u32.wrap (t : Int) = t := by rw [IntKind.wrap_u32]; omega
  have eb : IntKind.u32.wrap (b : Int) = b := by rw [IntKind.wrap_u32]; omega
  have ez : IntKind.u32.wrap (z : Int) = z := by rw [IntKind.wrap_u32]; omega
  have en : IntKind.u32.wrap (n : Int) = n := by rw [IntKind.wrap_u32]; omega
  have HW1 : ∀ W : World, W = w.alloc (.cells #[.int .i64 f, .int .i64 t, .int .i64 b, .int .i64 z, .int .i64 n] 101) → W.heap.size = w.heap.size + 1 ∧ Below w.heap.size w W ∧ W.heap[w.heap.size]? = some (.cells #[.int .i64 f, .int .i64 t, .int .i64 b, .int .i64 z, .int .i64 n] 101 (0, 0)) := by
    rintro W rfl
    exact ⟨by simp, (Below.refl _ _).alloc (Nat.le_refl _) _, World.alloc_heap_new _ _⟩
  go_enter Try.func90, Try.ntmps90
  go_wp2
  obtain ⟨w1, hw1⟩ : ∃ w1, w1 = w.alloc (.cells #[.int .i64 f, .int .i64 t, .int .i64 b, .int .i64 z, .int .i64 n] 101) := ⟨_, rfl⟩
  obtain ⟨hs1, hB1, hx1⟩ := HW1 w1 hw1
  rw [← hw1]
  clear hw1 HW1
  have c0 := boxed_cell (i := 0) hx1 rfl
  have c1 := boxed_cell (i := 1) hx1 rfl
  have c2 := boxed_cell (i := 2) hx1 rfl
  have c3 := boxed_cell (i := 3) hx1 rfl
  have c4 := boxed_cell (i := 4) hx1 rfl
  have hsl : w.heap.size < w1.heap.size := by omega
  clear hx1
  go_region_held3 (fun w' => w'.cell? ⟨w.heap.size, 0, none⟩ = some (.int .i64 f) ∧ w'.cell? ⟨w.heap.size, 1, none⟩ = some (.int .i64 t) ∧ w'.cell? ⟨w.heap.size, 2, none⟩ = some (.int .i64 b) ∧ w'.cell? ⟨w.heap.size, 3, none⟩ = some (.int .i64 z) ∧ w'.cell? ⟨w.heap.size, 4, none⟩ = some (.int .i64 n) ∧ Below w1.heap.size w1 w')
    (first | exact ⟨c0, c1, c2, c3, c4, (Below.refl _ _).drew⟩ | exact keepS5 (by assumption) (by assumption) hsl)
    (first | (go_at_call 124; refine (ntext_int _ _ _ ?_ ?_ ?_ ?_).mono ?_; omega; omega; omega; omega; rintro e w2 ⟨rfl, hb2⟩))
  go_wp2
  go_ret
  refine ⟨ret_str (by simp [headB]), hB1.trans (Below.mono (s5_below (b := w.heap.size) (v0 := .int .i64 f) (v1 := .int .i64 t) (v2 := .int .i64 b) (v3 := .int .i64 z) (v4 := .int .i64 n) (by assumption)) hB1.size)⟩
end Go.Proofs.Ytdjmhagclcfnfaa
