/- The reference's record and head. -/
import Derived.Test.YtdjmhagclcfnfaaCheck
import Derived.Deep.RegionHeld3
namespace Go.Proofs.Ytdjmhagclcfnfaa
open Go.RowKit

theorem bcell {W w1 : World} (hb : Below W.heap.size W w1) : (∀ b o, b < W.heap.size → w1.cell? ⟨b, o, none⟩ = W.cell? ⟨b, o, none⟩) ∧ (∀ b o, b < W.heap.size → w1.frozen? ⟨b, o, none⟩ = W.frozen? ⟨b, o, none⟩) :=
  ⟨fun b o h => hb.cell (p := ⟨b, o, none⟩) h, fun b o h => hb.frozen (p := ⟨b, o, none⟩) h⟩

/-- A cell that lay in W0, kept from W to w'. -/
theorem keep1 {W0 W w' : World} {b o : Nat} {v : Value} (hc : W.cell? ⟨b, o, none⟩ = some v) (hB : Below W0.heap.size W0 W) (hb : Below W.heap.size W w') (hp : b < W0.heap.size) :
    w'.cell? ⟨b, o, none⟩ = some v :=
  (hb.cell (p := ⟨b, o, none⟩) (Nat.lt_of_lt_of_le hp hB.size)).trans hc
theorem keepB {W0 W w' : World} (hB : Below W0.heap.size W0 W) (hb : Below W.heap.size W w') : Below W0.heap.size W0 w' := hB.trans (hb.mono hB.size)
theorem keepS1 {W0 W w' : World} {b o : Nat} {v : Value} (hS : W.cell? ⟨b, o, none⟩ = some v ∧ Below W0.heap.size W0 W) (hb : Below W.heap.size W w') (hp : b < W0.heap.size) :
    w'.cell? ⟨b, o, none⟩ = some v ∧ Below W0.heap.size W0 w' := ⟨keep1 hS.1 hS.2 hb hp, keepB hS.2 hb⟩
theorem keepS2 {W0 W w' : World} {b o o' : Nat} {v v' : Value} (hS : W.cell? ⟨b, o, none⟩ = some v ∧ W.cell? ⟨b, o', none⟩ = some v' ∧ Below W0.heap.size W0 W) (hb : Below W.heap.size W w') (hp : b < W0.heap.size) :
    w'.cell? ⟨b, o, none⟩ = some v ∧ w'.cell? ⟨b, o', none⟩ = some v' ∧ Below W0.heap.size W0 w' := ⟨keep1 hS.1 hS.2.2 hb hp, keep1 hS.2.1 hS.2.2 hb hp, keepB hS.2.2 hb⟩
theorem keepS4 {W0 W w' : World} {b : Nat} {v0 v1 v2 v3 : Value}
    (hS : W.cell? ⟨b, 0, none⟩ = some v0 ∧ W.cell? ⟨b, 1, none⟩ = some v1 ∧ W.cell? ⟨b, 2, none⟩ = some v2 ∧ W.cell? ⟨b, 3, none⟩ = some v3 ∧ Below W0.heap.size W0 W) (hb : Below W.heap.size W w') (hp : b < W0.heap.size) :
    w'.cell? ⟨b, 0, none⟩ = some v0 ∧ w'.cell? ⟨b, 1, none⟩ = some v1 ∧ w'.cell? ⟨b, 2, none⟩ = some v2 ∧ w'.cell? ⟨b, 3, none⟩ = some v3 ∧ Below W0.heap.size W0 w' :=
  have hB := hS.2.2.2.2
  ⟨keep1 hS.1 hB hb hp, keep1 hS.2.1 hB hb hp, keep1 hS.2.2.1 hB hb hp, keep1 hS.2.2.2.1 hB hb hp, keepB hB hb⟩

theorem ret_str {s : ByteArray} {l : List UInt8} (h : s.data.toList = l) : Ending.returned (.string s) = .returned (.string ⟨l.toArray⟩) := by
  have : s = ⟨l.toArray⟩ := by
    apply ByteArray.ext
    rw [← h]
  rw [this]

set_option maxRecDepth 100000 in
set_option maxHeartbeats 1000000 in
theorem record_free (n : Nat) (d : ByteArray) (w : World) (hn : n ≤ 65535) :
    Calls Try.prog 55 #[.agg #[.bool true, .int .i64 n, .string d]] w fun e w' => e = .returned (.string ⟨(2 :: lowB n 2).toArray⟩) ∧ Below w.heap.size w w' := by
  have hlb := lowB_length
  go_enter Try.func55, Try.ntmps55
  go_wp2
  have hB0 : Below w.heap.size w (w.alloc (.cells #[.bool true, .int .i64 n, .string d] 34)) := (Below.refl _ _).alloc (Nat.le_refl _) _
  have h1 : (w.alloc (.cells #[.bool true, .int .i64 n, .string d] 34)).cell? ⟨w.heap.size, 1, none⟩ = some (.int .i64 n) := by simp [go_sem]
  have hsz : w.heap.size < (w.alloc (.cells #[.bool true, .int .i64 n, .string d] 34)).heap.size := by simp
  generalize w.alloc (.cells #[.bool true, .int .i64 n, .string d] 34) = W0 at *
  go_region_held3 (fun w' => w'.cell? ⟨w.heap.size, 1, none⟩ = some (.int .i64 n) ∧ Below W0.heap.size W0 w')
    (first | exact ⟨h1, (Below.refl _ _).drew⟩ | exact keepS1 (by assumption) hb hsz)
    (first | (go_at_call 91; refine (bytes_int _ _ _ ?_ ?_ ?_ ?_).mono ?_; omega; omega; omega; omega; rintro e w' ⟨rfl, hb⟩))
  go_wp2
  go_ret
  refine ⟨ret_str ?_, hB0.trans (Below.mono (And.right (by assumption)) (by omega))⟩
  simp [lowB]

set_option maxRecDepth 100000 in
set_option maxHeartbeats 1000000 in
theorem record_full (n : Nat) (d : ByteArray) (w : World) (hn : n ≤ 65535) (hd : d.size ≤ 100000) :
    Calls Try.prog 55 #[.agg #[.bool false, .int .i64 n, .string d]] w fun e w' => e = .returned (.string ⟨(1 :: (lowB n 2 ++ d.data.toList)).toArray⟩) ∧ Below w.heap.size w w' := by
  have hq : ¬ 9223372036854775807 < 3 + d.size := by omega
  have hlb := lowB_length
  go_enter Try.func55, Try.ntmps55
  go_wp2
  have hB0 : Below w.heap.size w (w.alloc (.cells #[.bool false, .int .i64 n, .string d] 34)) := (Below.refl _ _).alloc (Nat.le_refl _) _
  have h1 : (w.alloc (.cells #[.bool false, .int .i64 n, .string d] 34)).cell? ⟨w.heap.size, 1, none⟩ = some (.int .i64 n) := by simp [go_sem]
  have h2 : (w.alloc (.cells #[.bool false, .int .i64 n, .string d] 34)).cell? ⟨w.heap.size, 2, none⟩ = some (.string d) := by simp [go_sem]
  have hsz : w.heap.size < (w.alloc (.cells #[.bool false, .int .i64 n, .string d] 34)).heap.size := by simp
  generalize w.alloc (.cells #[.bool false, .int .i64 n, .string d] 34) = W0 at *
  go_region_held3 (fun w' => w'.cell? ⟨w.heap.size, 1, none⟩ = some (.int .i64 n) ∧ w'.cell? ⟨w.heap.size, 2, none⟩ = some (.string d) ∧ Below W0.heap.size W0 w')
    (first | exact ⟨h1, h2, (Below.refl _ _).drew⟩ | exact keepS2 (by assumption) hb hsz)
    (first | (go_at_call 91; refine (bytes_int _ _ _ ?_ ?_ ?_ ?_).mono ?_; omega; omega; omega; omega; rintro e w' ⟨rfl, hb⟩))
  go_wp2
  go_ret
  refine ⟨ret_str ?_, hB0.trans (Below.mono (And.right (And.right (by assumption))) (by omega))⟩
  simp [lowB]

/-- The bytes of a head behind the first four. -/
def headB (f t b z n : Nat) : List UInt8 := lowB f 4 ++ lowB t 4 ++ lowB b 2 ++ lowB z 2 ++ lowB n 2

set_option maxRecDepth 100000 in
set_option maxHeartbeats 4000000 in
theorem head_any (f t b z n : Nat) (v : Value) (w : World) (hf : f ≤ 4294967295) (ht : t ≤ 4294967295) (hb' : b ≤ 65535) (hz : z ≤ 65535) (hn : n ≤ 65535) (a : Option Addr) (l c : Nat) (hv : v = .slice a l c) :
    Calls Try.prog 54 #[.agg #[.int .i64 f, .int .i64 t, .int .i64 b, .int .i64 z, v], .int .i64 n] w fun e w' => e = .returned (.string ⟨(headB f t b z n).toArray⟩) ∧ Below w.heap.size w w' := by
  have hlb := lowB_length
  subst hv
  go_enter Try.func54, Try.ntmps54
  go_wp2
  generalize hO : (Obj.cells #[.int .i64 f, .int .i64 t, .int .i64 b, .int .i64 z, .slice a l c] 24) = O
  have hB0 : Below w.heap.size w (w.alloc O) := (Below.refl _ _).alloc (Nat.le_refl _) _
  have h0 : (w.alloc O).cell? ⟨w.heap.size, 0, none⟩ = some (.int .i64 f) := by subst hO; simp [go_sem]
  have h1 : (w.alloc O).cell? ⟨w.heap.size, 1, none⟩ = some (.int .i64 t) := by subst hO; simp [go_sem]
  have h2 : (w.alloc O).cell? ⟨w.heap.size, 2, none⟩ = some (.int .i64 b) := by subst hO; simp [go_sem]
  have h3 : (w.alloc O).cell? ⟨w.heap.size, 3, none⟩ = some (.int .i64 z) := by subst hO; simp [go_sem]
  have hsz : w.heap.size < (w.alloc O).heap.size := by simp
  clear hO
  generalize w.alloc O = W0 at *
  go_region_held3 (fun w' => w'.cell? ⟨w.heap.size, 0, none⟩ = some (.int .i64 f) ∧ w'.cell? ⟨w.heap.size, 1, none⟩ = some (.int .i64 t) ∧ w'.cell? ⟨w.heap.size, 2, none⟩ = some (.int .i64 b) ∧ w'.cell? ⟨w.heap.size, 3, none⟩ = some (.int .i64 z) ∧ Below W0.heap.size W0 w')
    (first | exact ⟨h0, h1, h2, h3, (Below.refl _ _).drew⟩ | exact keepS4 (by assumption) hb hsz)
    (first | (go_at_call 91; refine (bytes_int _ _ _ ?_ ?_ ?_ ?_).mono ?_; omega; omega; omega; omega; rintro e w' ⟨rfl, hb⟩))
  go_wp2
  go_ret
  refine ⟨ret_str ?_, hB0.trans (Below.mono (And.right (And.right (And.right (And.right (by assumption))))) (by omega))⟩
  simp [headB]
end Go.Proofs.Ytdjmhagclcfnfaa
