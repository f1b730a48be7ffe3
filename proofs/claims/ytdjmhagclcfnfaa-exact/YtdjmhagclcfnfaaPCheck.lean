/- The program's check. -/
import Derived.Test.YtdjmhagclcfnfaaCheck
namespace Go.Proofs.Ytdjmhagclcfnfaa
open Go.RowKit

theorem u32_xor_n (a b : Nat) (ha : a < 4294967296) (hb : b < 4294967296) : bits .xor .u32 (a : Int) (b : Int) = ((a ^^^ b : Nat) : Int) := by
  have hx : a ^^^ b < 2 ^ 32 := Nat.xor_lt_two_pow (by omega) (by omega)
  have h1 : (BitVec.ofInt 32 (a : Int)).toNat = a := by
    rw [BitVec.ofInt_natCast, BitVec.toNat_ofNat]; exact Nat.mod_eq_of_lt (by omega)
  have h2 : (BitVec.ofInt 32 (b : Int)).toNat = b := by
    rw [BitVec.ofInt_natCast, BitVec.toNat_ofNat]; exact Nat.mod_eq_of_lt (by omega)
  show IntKind.u32.wrap ((BitVec.ofInt 32 (a : Int) ^^^ BitVec.ofInt 32 (b : Int)).toNat : Int) = _
  rw [BitVec.toNat_xor, h1, h2, IntKind.wrap_u32]
  omega
theorem u32_and_one (a : Nat) (ha : a < 4294967296) : bits .and .u32 (a : Int) 1 = ((a % 2 : Nat) : Int) := by
  have h1 : (BitVec.ofInt 32 (a : Int)).toNat = a := by
    rw [BitVec.ofInt_natCast, BitVec.toNat_ofNat]; exact Nat.mod_eq_of_lt (by omega)
  show IntKind.u32.wrap ((BitVec.ofInt 32 (a : Int) &&& BitVec.ofInt 32 1).toNat : Int) = _
  rw [BitVec.toNat_and, h1, show (BitVec.ofInt 32 1).toNat = 1 from rfl, Nat.and_one_is_mod, IntKind.wrap_u32]
  omega
theorem px1 (c : Nat) (b : UInt8) (hc : c < 2 ^ 32) : bits .xor .u32 (c : Int) ((b.toNat : Int) % 4294967296) = ((c ^^^ b.toNat : Nat) : Int) := by
  have hb := b.toNat_lt
  rw [show ((b.toNat : Int) % 4294967296) = ((b.toNat : Nat) : Int) from by omega]
  exact u32_xor_n _ _ (by omega) (by omega)
theorem px2 (y : Nat) (hy : y < 2 ^ 32) : bits .xor .u32 ((y : Int) / 2) (3988292384 * bits .and .u32 (y : Int) 1 % 4294967296) = ((crcBit y : Nat) : Int) := by
  rw [u32_and_one y (by omega), show ((y : Int) / 2) = ((y / 2 : Nat) : Int) from by omega]
  unfold crcBit
  split
  · rename_i h
    rw [h, show (3988292384 * ((1 : Nat) : Int) % 4294967296) = ((3988292384 : Nat) : Int) from by omega]
    exact u32_xor_n _ _ (by omega) (by omega)
  · rename_i h
    rw [show y % 2 = 0 from by omega, show (3988292384 * ((0 : Nat) : Int) % 4294967296) = ((0 : Nat) : Int) from by omega]
    rw [u32_xor_n _ _ (by omega) (by omega), Nat.xor_zero]

theorem px3 (c : Nat) (hc : c < 2 ^ 32) : bits .xor .u32 IntKind.u32.max (c : Int) = ((c ^^^ 4294967295 : Nat) : Int) := by
  rw [show IntKind.u32.max = ((4294967295 : Nat) : Int) from rfl, u32_xor_n _ _ (by omega) (by omega), Nat.xor_comm]
theorem ret_num {k : IntKind} {a b : Int} (h : a = b) : Ending.returned (.int k a) = .returned (.int k b) := by rw [h]

/-- The sum behind some more bytes. -/
def crcF (c : Nat) (l : List UInt8) : Nat := l.foldl crcByte c
theorem crcF_snoc (c : Nat) (l : List UInt8) (b : UInt8) : crcF c (l ++ [b]) = crcByte (crcF c l) b := by simp [crcF]
theorem crcF_lt (c : Nat) (l : List UInt8) (h : c < 2 ^ 32) : crcF c l < 2 ^ 32 := crcFold_lt l c h
theorem crcF_append (c : Nat) (a b : List UInt8) : crcF c (a ++ b) = crcF (crcF c a) b := by simp [crcF]
theorem crcN_F (l : List UInt8) : crcN l = crcF 4294967295 l := rfl
theorem crcN_append (a b : List UInt8) : crcN (a ++ b) = crcF (crcN a) b := by simp [crcN, crcF]

set_option maxRecDepth 100000 in
set_option maxHeartbeats 400000 in
theorem psum_any (c0 : Nat) (s : ByteArray) (w : World) (h0 : c0 < 2 ^ 32) (hs : s.size ≤ 100000) :
    Calls Try.prog 150 #[.int .u32 c0, .string s] w fun e w' => e = .returned (.int .u32 (crcF c0 s.data.toList : Nat)) ∧ w' = w := by
  go_enter Try.func150, Try.ntmps150
  go_wp2
  go_loop [0, 8] (fun c i => ∃ k : Nat, k ≤ s.size ∧ i = .int .i64 k ∧ c = .int .u32 (crcF c0 (s.data.toList.take k) : Nat)) (fun _ i => s.size - (intOf i).toNat)
  case atStart => exact ⟨0, Nat.zero_le _, rfl, by simp [crcF]⟩
  case round =>
    obtain ⟨k, hk, rfl, rfl⟩ := hrel
    have hc := crcF_lt c0 (s.data.toList.take k) h0
    by_cases hlt : k < s.size
    · have hsn := take_snoc s k hlt
      have HS : Hid (crcF c0 (s.data.toList.take (k + 1)) = crcByte (crcF c0 (s.data.toList.take k)) s[k]) := by
        show _ = _
        rw [hsn, crcF_snoc]
      clear hsn
      generalize crcF c0 (s.data.toList.take k) = c at *
      have e1 := px1 c s[k] hc
      have hx0 : c ^^^ s[k].toNat < 2 ^ 32 := Nat.xor_lt_two_pow hc (by have := s[k].toNat_lt; omega)
      have HX : Hid (crcF c0 (s.data.toList.take (k + 1)) = crcBits 8 (c ^^^ s[k].toNat)) := HS
      clear HS
      generalize c ^^^ s[k].toNat = x at *
      go_wp2
      go_loop [0, 17] (fun c j => ∃ m : Nat, m ≤ 8 ∧ j = .int .i64 m ∧ c = .int .u32 (crcBits m x : Nat)) (fun _ j => 8 - (intOf j).toNat)
      case atStart => exact ⟨0, by omega, rfl, rfl⟩
      case round =>
        obtain ⟨m, hm, rfl, rfl⟩ := hrel
        have hy := crcBits_lt x hx0 m
        by_cases hlt8 : m < 8
        · have HB : Hid (crcBits (m + 1) x = crcBit (crcBits m x)) := rfl
          generalize crcBits m x = y at *
          have e2 := px2 y hy
          go_wp2
          go_round
          case rel => exact ⟨m + 1, by omega, by go_num, by rw [HB.out]⟩
          case measure => simp [intOf]; omega
        · obtain rfl : m = 8 := by omega
          go_wp2
          go_round
          case rel => exact ⟨k + 1, by omega, by go_num, by rw [HX.out]⟩
          case measure => simp [intOf]; omega
    · have HE : Hid (crcF c0 (s.data.toList.take k) = crcF c0 s.data.toList) := by
        show _ = _
        rw [List.take_of_length_le (by simp; omega)]
      rw [HE.out]
      go_wp2
      go_ret
      exact ⟨rfl, rfl⟩

set_option maxRecDepth 100000 in
set_option maxHeartbeats 400000 in
theorem pchk_any (c : Nat) (w : World) (hc : c < 2 ^ 32) :
    Calls Try.prog 144 #[.int .u32 c] w fun e w' => e = .returned (.int .u32 (c ^^^ 4294967295 : Nat)) ∧ w' = w := by
  have e1 := px3 c hc
  have e2 : (c : Int) % 4294967296 = c := by omega
  go_enter Try.func144, Try.ntmps144
  go_wp2
  go_ret
  exact ⟨rfl, rfl⟩
end Go.Proofs.Ytdjmhagclcfnfaa
