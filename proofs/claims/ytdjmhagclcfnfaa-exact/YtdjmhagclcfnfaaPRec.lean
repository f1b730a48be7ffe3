/- The program's RecordText. -/
import Derived.Test.YtdjmhagclcfnfaaPHead
namespace Go.Proofs.Ytdjmhagclcfnfaa
open Go.RowKit

theorem s2_below {W0 W : World} {b o o' : Nat} {v v' : Value} (hS : W.cell? ⟨b, o, none⟩ = some v ∧ W.cell? ⟨b, o', none⟩ = some v' ∧ Below W0.heap.size W0 W) : Below W0.heap.size W0 W := hS.2.2

set_option maxRecDepth 100000 in
set_option maxHeartbeats 4000000 in
theorem recText_at (fr : Bool) (n : Nat) (d : ByteArray) (w : World) (hn : n ≤ 65535) (hd : d.size ≤ 100000) :
    Calls Try.prog 151 #[.agg #[.bool fr, .int .i64 n, .string d]] w fun e w' => e = .returned (.string ⟨((if fr then 2 else 1) :: (lowB n 2 ++ d.data.toList)).toArray⟩) ∧ Below w.heap.size w w' := by
  have hlb := lowB_length
  have hq : ¬ 9223372036854775807 < 3 + d.size := by omega
  have en : IntKind.u32.wrap (n : Int) = n := by rw [IntKind.wrap_u32]; omega
  have HW1 : ∀ W : World, W = w.alloc (.cells #[.bool fr, .int .i64 n, .string d] 34) → W.heap.size = w.heap.size + 1 ∧ Below w.heap.size w W ∧ W.heap[w.heap.size]? = some (.cells #[.bool fr, .int .i64 n, .string d] 34 (0, 0)) := by
    rintro W rfl
    exact ⟨by simp, (Below.refl _ _).alloc (Nat.le_refl _) _, World.alloc_heap_new _ _⟩
  cases fr
  · go_enter Try.func151, Try.ntmps151
    go_wp2
    obtain ⟨w1, hw1⟩ : ∃ w1, w1 = w.alloc (.cells #[.bool false, .int .i64 n, .string d] 34) := ⟨_, rfl⟩
    obtain ⟨hs1, hB1, hx1⟩ := HW1 w1 hw1
    rw [← hw1]
    clear hw1 HW1
    have c1 := boxed_cell (i := 1) hx1 rfl
    have c2 := boxed_cell (i := 2) hx1 rfl
    have hsl : w.heap.size < w1.heap.size := by omega
    clear hx1
    go_region_held3 (fun w' => w'.cell? ⟨w.heap.size, 1, none⟩ = some (.int .i64 n) ∧ w'.cell? ⟨w.heap.size, 2, none⟩ = some (.string d) ∧ Below w1.heap.size w1 w')
      (first | exact ⟨c1, c2, (Below.refl _ _).drew⟩ | exact keepS2 (by assumption) (by assumption) hsl)
      (first | (go_at_call 124; refine (ntext_int _ _ _ ?_ ?_ ?_ ?_).mono ?_; omega; omega; omega; omega; rintro e w2 ⟨rfl, hb2⟩))
    go_wp2
    go_ret
    refine ⟨ret_str (by simp [lowB]), hB1.trans (Below.mono (s2_below (b := w.heap.size) (o := 1) (o' := 2) (v := .int .i64 n) (v' := .string d) (by assumption)) hB1.size)⟩
  · go_enter Try.func151, Try.ntmps151
    go_wp2
    obtain ⟨w1, hw1⟩ : ∃ w1, w1 = w.alloc (.cells #[.bool true, .int .i64 n, .string d] 34) := ⟨_, rfl⟩
    obtain ⟨hs1, hB1, hx1⟩ := HW1 w1 hw1
    rw [← hw1]
    clear hw1 HW1
    have c1 := boxed_cell (i := 1) hx1 rfl
    have c2 := boxed_cell (i := 2) hx1 rfl
    have hsl : w.heap.size < w1.heap.size := by omega
    clear hx1
    go_region_held3 (fun w' => w'.cell? ⟨w.heap.size, 1, none⟩ = some (.int .i64 n) ∧ w'.cell? ⟨w.heap.size, 2, none⟩ = some (.string d) ∧ Below w1.heap.size w1 w')
      (first | exact ⟨c1, c2, (Below.refl _ _).drew⟩ | exact keepS2 (by assumption) (by assumption) hsl)
      (first | (go_at_call 124; refine (ntext_int _ _ _ ?_ ?_ ?_ ?_).mono ?_; omega; omega; omega; omega; rintro e w2 ⟨rfl, hb2⟩))
    go_wp2
    go_ret
    refine ⟨ret_str (by simp [lowB]), hB1.trans (Below.mono (s2_below (b := w.heap.size) (o := 1) (o' := 2) (v := .int .i64 n) (v' := .string d) (by assumption)) hB1.size)⟩

theorem recText_any (r : Rc) (w : World) (z : Int) (hz : z ≤ 64) (h0 : 0 ≤ r.block) (h1 : r.block ≤ 65535) (hd : (r.data.size : Int) = if r.free then 0 else z) :
    Calls Try.prog 151 #[.agg #[.bool r.free, .int .i64 r.block, .string r.data]] w fun e w' => e = .returned (.string ⟨(recB r).toArray⟩) ∧ Below w.heap.size w w' := by
  obtain ⟨f, n, d⟩ := r
  obtain ⟨n, rfl⟩ := Int.eq_ofNat_of_zero_le h0
  dsimp only at *
  have h := recText_at f n d w (by omega) (by cases f <;> simp only [Bool.false_eq_true, if_false, if_true] at hd <;> omega)
  cases f
  · exact h
  · simp only [if_true] at hd
    have hd0 : d.size = 0 := by omega
    have e : d.data.toList = [] := by rw [empty_of_size d hd0]
    simp only [if_true, e, List.append_nil] at h
    exact h
end Go.Proofs.Ytdjmhagclcfnfaa
