/- The reference's bytes. -/
import Derived.Test.YtdjmhagclcfnfaaMath
import Derived.Test.YtdjmhagclcfnfaaRows
import Derived.WalkKit
import Derived.WalkSpells
import Derived.WalkLawsBesides
import Derived.Laws.BytesArg
namespace Go.Proofs.Ytdjmhagclcfnfaa
open Go.RowKit

/-- 'string([]byte{x})': the new slice of one byte, as a string. -/
theorem conv_one (wr : World) (x : Int) :
    (convert 72 9 (.slice (some ⟨wr.heap.size, 0, none⟩) 1 1)).run Try.prog (wr.alloc (.cells #[.int .u8 x] 5)) = .ok (.string ⟨#[UInt8.ofNat x.toNat]⟩) (wr.alloc (.cells #[.int .u8 x] 5)) :=
  run_convert_bytes_arg (P := Try.prog) _ 72 5 Try.underlying72 Try.underlying5 wr.heap.size 0 1 1 [x] rfl
    (fun i hi => by
      have : i = 0 := by omega
      subst this
      simp [go_sem]) 9 Try.underlying9

set_option maxRecDepth 100000 in
set_option maxHeartbeats 400000 in
theorem bytes_any (n size : Nat) (w : World) (hn : n ≤ 4294967295) (hs : size ≤ 4) :
    Calls Try.prog 91 #[.int .i64 n, .int .i64 size] w fun e w' => e = .returned (.string ⟨(lowB n size).toArray⟩) ∧ Below w.heap.size w w' := by
  have hcv := conv_one
  go_enter Try.func91, Try.ntmps91
  go_wp2
  go_loopw [0, 5, 6] (fun m o i wr => ∃ k : Nat, k ≤ size ∧ i = .int .i64 k ∧ m = .int .i64 (n / 256 ^ k : Nat) ∧ o = .string ⟨(lowB n k).toArray⟩ ∧ Below w.heap.size w wr) (fun _ _ i _ => size - (intOf i).toNat)
  case atStart => exact ⟨0, Nat.zero_le _, rfl, by simp, rfl, Below.refl _ _⟩
  case round =>
    obtain ⟨k, hk, rfl, rfl, rfl, hb⟩ := hrel
    have hq0 : n / 256 ^ k ≤ n := Nat.div_le_self _ _
    have hdv := div_pow_succ n k
    have HL : Hid (∀ q, n / 256 ^ k = q → lowB n (k + 1) = UInt8.ofNat (q % 256) :: lowB n k) := fun q h => by rw [← h]; rfl
    generalize n / 256 ^ k = q at *
    have HD : Hid _ := hdv; clear hdv
    by_cases hlt : k < size
    · have hl := lowB_length n k
      go_wp2
      go_roundw
      case rel =>
        refine ⟨k + 1, by omega, by go_num, ?_, ?_, hb.alloc hb.size _⟩
        · rw [← HD.out]; go_num
        · rw [HL.out q rfl]
          exact congrArg Value.string (by apply ByteArray.ext; simp)
      case measure => simp [intOf]; omega
    · go_wp2
      go_ret
      have : k = size := by omega
      subst this
      exact ⟨rfl, hb⟩
/-- The same, its arguments integers with their bounds. -/
theorem bytes_int (n size : Int) (w : World) (h0 : 0 ≤ n) (hn : n ≤ 4294967295) (h1 : 0 ≤ size) (hs : size ≤ 4) :
    Calls Try.prog 91 #[.int .i64 n, .int .i64 size] w fun e w' => e = .returned (.string ⟨(lowB n.toNat size.toNat).toArray⟩) ∧ Below w.heap.size w w' := by
  obtain ⟨a, rfl⟩ := Int.eq_ofNat_of_zero_le h0
  obtain ⟨b, rfl⟩ := Int.eq_ofNat_of_zero_le h1
  exact bytes_any a b w (by omega) (by omega)
end Go.Proofs.Ytdjmhagclcfnfaa
