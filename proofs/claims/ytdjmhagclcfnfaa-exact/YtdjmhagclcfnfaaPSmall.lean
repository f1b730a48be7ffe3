/- The program's small tests and heads. -/
import Derived.Test.YtdjmhagclcfnfaaPNum
import Derived.Test.YtdjmhagclcfnfaaWell
namespace Go.Proofs.Ytdjmhagclcfnfaa
open Go.RowKit

theorem empty_of_size (d : ByteArray) (h : d.size = 0) : d = ⟨#[]⟩ := by
  apply ByteArray.ext
  exact Array.eq_empty_of_size_eq_zero h

set_option maxRecDepth 100000 in
set_option maxHeartbeats 400000 in
theorem filled_any (d : ByteArray) (held : Bool) (z : Int) (w : World) :
    Calls Try.prog 88 #[.string d, .bool held, .int .i64 z] w fun e w' => e = .returned (.bool (decide ((d.size : Int) = if held then z else 0))) ∧ w' = w := by
  cases held
  · by_cases h : d = ⟨#[]⟩
    · subst h
      go_enter Try.func88, Try.ntmps88
      go_wp2
      go_ret
      exact ⟨by simp, rfl⟩
    · have hs : d.size ≠ 0 := fun e => h (empty_of_size d e)
      have hi : d.toList.isEmpty = false := by
        rw [ByteArray.toList_eq]
        cases hl : d.data.toList with
        | nil => exact absurd (empty_of_size d (congrArg List.length hl)) h
        | cons _ _ => rfl
      clear h
      go_enter Try.func88, Try.ntmps88
      go_wp2
      go_ret
      refine ⟨?_, rfl⟩
      simp
  · go_enter Try.func88, Try.ntmps88
    go_wp2
    go_ret
    refine ⟨?_, rfl⟩
    have e : ((d.size : Int) == z) = decide ((d.size : Int) = z) := rfl
    show Ending.returned (.bool ((d.size : Int) == z)) = .returned (.bool (decide ((d.size : Int) = z)))
    rw [e]

set_option maxRecDepth 100000 in
set_option maxHeartbeats 400000 in
theorem headOf_any (f t b z : Int) (a : Option Addr) (l c : Nat) (w : World) :
    Calls Try.prog 68 #[.agg #[.int .i64 f, .int .i64 t, .int .i64 b, .int .i64 z, .slice a l c]] w fun e w' => e = .returned (.agg #[.int .i64 f, .int .i64 t, .int .i64 b, .int .i64 z, .int .i64 l]) ∧ Below w.heap.size w w' := by
  go_enter Try.func68, Try.ntmps68
  go_wp2
  refine bodyPost_ret (v := .agg #[.int .i64 f, .int .i64 t, .int .i64 b, .int .i64 z, .int .i64 l]) (by simp [results, Try.results68, go_sem]) rfl ⟨rfl, ?_⟩
  exact ((Below.refl _ _).alloc (Nat.le_refl _) _).alloc (by simp) _

def win (n a b : Int) : Bool := decide (a ≤ n) && decide (n ≤ b)
theorem win_iff (n a b : Int) : win n a b = true ↔ a ≤ n ∧ n ≤ b := by simp [win]
theorem win_not (n a b : Int) : win n a b = false ↔ ¬ (a ≤ n ∧ n ≤ b) := by
  cases h : win n a b with
  | true => simp [(win_iff n a b).1 h]
  | false => simp; intro h1; have := mt (win_iff n a b).2 (by rw [h]; simp); omega

set_option maxHeartbeats 400000 in
theorem within_any (n a b : Int) (w : World) : Calls Try.prog 99 #[.int .i64 n, .int .i64 a, .int .i64 b] w fun e w' => e = .returned (.bool (win n a b)) ∧ w' = w := by
  cases h1 : decide (a ≤ n) <;> cases h2 : decide (n ≤ b)
  all_goals
    have H : Hid (win n a b = (decide (a ≤ n) && decide (n ≤ b))) := rfl
    go_enter Try.func99, Try.ntmps99
    go_wp2
    go_ret
    rw [H.out, h1, h2]
    exact ⟨rfl, rfl⟩

def headOk (f t b z n : Int) : Bool := wellHead f t b z && decide (n ≤ b)

set_option maxRecDepth 100000 in
set_option maxHeartbeats 1000000 in
theorem fits_bad (f t b z n m : Int) (w : World) (h : (wellHead f t b z && decide (n ≤ m)) = false) :
    Calls Try.prog 120 #[.agg #[.int .i64 f, .int .i64 t, .int .i64 b, .int .i64 z, .int .i64 n], .int .i64 m] w fun e w' => e = .returned (.bool false) ∧ Below w.heap.size w w' := by
  have H : Hid (¬ (0 ≤ f ∧ f ≤ 2147483647 ∧ 1 ≤ t ∧ t ≤ 2147483647 ∧ f ≠ t ∧ 1 ≤ b ∧ b ≤ 100 ∧ 1 ≤ z ∧ z ≤ 64 ∧ n ≤ m)) := by
    intro hh
    obtain ⟨h1, h2, h3, h4, h5, h6, h7, h8, h9, h10⟩ := hh
    have : (wellHead f t b z && decide (n ≤ m)) = true := by
      simp only [wellHead, Bool.and_eq_true, decide_eq_true_eq]
      exact ⟨⟨h1, h2, h3, h4, h5, h6, h7, h8, h9⟩, h10⟩
    rw [this] at h; cases h
  clear h
  have H' : (win f 0 2147483647 = false)
      ∨ (win f 0 2147483647 = true ∧ win t 1 2147483647 = false)
      ∨ (win f 0 2147483647 = true ∧ win t 1 2147483647 = true ∧ (f != t) = false)
      ∨ (win f 0 2147483647 = true ∧ win t 1 2147483647 = true ∧ (f != t) = true ∧ win b 1 100 = false)
      ∨ (win f 0 2147483647 = true ∧ win t 1 2147483647 = true ∧ (f != t) = true ∧ win b 1 100 = true ∧ win z 1 64 = false)
      ∨ (win f 0 2147483647 = true ∧ win t 1 2147483647 = true ∧ (f != t) = true ∧ win b 1 100 = true ∧ win z 1 64 = true ∧ decide (n ≤ m) = false) := by
    have := H.out
    simp only [win_iff, win_not, bne_iff_ne, bne_eq_false_iff_eq, decide_eq_false_iff_not]
    omega
  clear H
  rcases H' with h1 | ⟨h1, h2⟩ | ⟨h1, h2, h3⟩ | ⟨h1, h2, h3, h4⟩ | ⟨h1, h2, h3, h4, h5⟩ | ⟨h1, h2, h3, h4, h5, h6⟩
  all_goals
    go_enter Try.func120, Try.ntmps120
    go_wp2_with (go_at_call 99; refine (within_any _ _ _ _).mono ?_; rintro e w' ⟨rfl, rfl⟩)
    go_ret
    exact ⟨rfl, (Below.refl _ _).alloc (Nat.le_refl _) _⟩

set_option maxRecDepth 100000 in
set_option maxHeartbeats 1000000 in
theorem fits_good (f t b z n m : Int) (w : World) (h : (wellHead f t b z && decide (n ≤ m)) = true) :
    Calls Try.prog 120 #[.agg #[.int .i64 f, .int .i64 t, .int .i64 b, .int .i64 z, .int .i64 n], .int .i64 m] w fun e w' => e = .returned (.bool true) ∧ Below w.heap.size w w' := by
  simp only [wellHead, Bool.and_eq_true, decide_eq_true_eq] at h
  obtain ⟨⟨h1, h2, h3, h4, h5, h6, h7, h8, h9⟩, h10⟩ := h
  have d1 : win f 0 2147483647 = true := (win_iff _ _ _).2 ⟨by omega, by omega⟩
  have d2 : win t 1 2147483647 = true := (win_iff _ _ _).2 ⟨by omega, by omega⟩
  have d3 : (f != t) = true := bne_iff_ne.2 h5
  have d4 : win b 1 100 = true := (win_iff _ _ _).2 ⟨by omega, by omega⟩
  have d5 : win z 1 64 = true := (win_iff _ _ _).2 ⟨by omega, by omega⟩
  have d6 : decide (n ≤ m) = true := decide_eq_true h10
  clear h1 h2 h3 h4 h5 h6 h7 h8 h9 h10
  go_enter Try.func120, Try.ntmps120
  go_wp2_with (go_at_call 99; refine (within_any _ _ _ _).mono ?_; rintro e w' ⟨rfl, rfl⟩)
  go_ret
  exact ⟨rfl, (Below.refl _ _).alloc (Nat.le_refl _) _⟩

theorem fits_any (f t b z n m : Int) (w : World) :
    Calls Try.prog 120 #[.agg #[.int .i64 f, .int .i64 t, .int .i64 b, .int .i64 z, .int .i64 n], .int .i64 m] w fun e w' => e = .returned (.bool (wellHead f t b z && decide (n ≤ m))) ∧ Below w.heap.size w w' := by
  cases h : (wellHead f t b z && decide (n ≤ m)) with
  | true => exact fits_good f t b z n m w h
  | false => exact fits_bad f t b z n m w h

set_option maxRecDepth 100000 in
set_option maxHeartbeats 1000000 in
theorem hwell_any (f t b z n : Int) (w : World) :
    Calls Try.prog 87 #[.agg #[.int .i64 f, .int .i64 t, .int .i64 b, .int .i64 z, .int .i64 n]] w fun e w' => e = .returned (.bool (headOk f t b z n)) ∧ Below w.heap.size w w' := by
  go_enter Try.func87, Try.ntmps87
  go_wp2_with fail
  refine (fits_any f t b z n b _).mono ?_
  rintro e w1 ⟨rfl, hb⟩
  have HB : Hid _ := hb
  clear hb
  generalize hh : (wellHead f t b z && decide (n ≤ b)) = x
  have HX : Hid (headOk f t b z n = x) := hh
  clear hh
  go_wp2
  go_ret
  rw [HX.out]
  exact ⟨rfl, ((Below.refl _ _).alloc (Nat.le_refl _) _).trans (HB.out.mono (by simp))⟩
theorem hwell_bad (f t b z n : Int) (w : World) (h : headOk f t b z n = false) :
    Calls Try.prog 87 #[.agg #[.int .i64 f, .int .i64 t, .int .i64 b, .int .i64 z, .int .i64 n]] w fun e w' => e = .returned (.bool false) ∧ Below w.heap.size w w' := by
  rw [← h]
  exact hwell_any f t b z n w
theorem hwell_good (f t b z n : Int) (w : World) (h : headOk f t b z n = true) :
    Calls Try.prog 87 #[.agg #[.int .i64 f, .int .i64 t, .int .i64 b, .int .i64 z, .int .i64 n]] w fun e w' => e = .returned (.bool true) ∧ Below w.heap.size w w' := by
  rw [← h]
  exact hwell_any f t b z n w

set_option maxRecDepth 100000 in
set_option maxHeartbeats 400000 in
/-- A head with records behind it. -/
theorem hstream_any (f t b z n : Int) (a : Option Addr) (l c : Nat) (w : World) :
    Calls Try.prog 84 #[.agg #[.int .i64 f, .int .i64 t, .int .i64 b, .int .i64 z, .int .i64 n], .slice a l c] w fun e w' => e = .returned (.agg #[.int .i64 f, .int .i64 t, .int .i64 b, .int .i64 z, .slice a l c]) ∧ Below w.heap.size w w' := by
  go_enter Try.func84, Try.ntmps84
  go_wp2
  refine bodyPost_ret (v := .agg #[.int .i64 f, .int .i64 t, .int .i64 b, .int .i64 z, .slice a l c]) (by simp [results, Try.results84, go_sem]) rfl ⟨rfl, ?_⟩
  exact ((Below.refl _ _).alloc (Nat.le_refl _) _).alloc (by simp) _
end Go.Proofs.Ytdjmhagclcfnfaa
