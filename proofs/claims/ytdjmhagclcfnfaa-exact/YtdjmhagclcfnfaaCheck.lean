/- The reference's check. -/
import Derived.Test.YtdjmhagclcfnfaaBytes
namespace Go.Proofs.Ytdjmhagclcfnfaa
open Go.RowKit

theorem i64_xor_nat (a b : Nat) (ha : a < 4294967296) (hb : b < 4294967296) : bits .xor .i64 (a : Int) (b : Int) = ((a ^^^ b : Nat) : Int) := by
  have hx : a ^^^ b < 2 ^ 32 := Nat.xor_lt_two_pow (by omega) (by omega)
  have h1 : (BitVec.ofInt 64 (a : Int)).toNat = a := by
    rw [BitVec.ofInt_natCast, BitVec.toNat_ofNat]; exact Nat.mod_eq_of_lt (by omega)
  have h2 : (BitVec.ofInt 64 (b : Int)).toNat = b := by
    rw [BitVec.ofInt_natCast, BitVec.toNat_ofNat]; exact Nat.mod_eq_of_lt (by omega)
  show IntKind.i64.wrap ((BitVec.ofInt 64 (a : Int) ^^^ BitVec.ofInt 64 (b : Int)).toNat : Int) = _
  rw [BitVec.toNat_xor, h1, h2, IntKind.wrap_i64]
  omega

theorem w64_in (n : Int) (h : 0 ≤ n) (h' : n ≤ 9223372036854775807) : wrap64 n = n := by unfold wrap64; omega

theorem xor_byte (c : Nat) (b : UInt8) (hc : c < 2 ^ 32) : bits .xor .i64 (c : Int) (wrap64 (b.toNat : Int)) = ((c ^^^ b.toNat : Nat) : Int) := by
  have hb := b.toNat_lt
  rw [w64_in _ (by omega) (by omega)]
  exact i64_xor_nat _ _ (by omega) (by omega)

theorem take_snoc (s : ByteArray) (k : Nat) (h : k < s.size) : s.data.toList.take (k + 1) = s.data.toList.take k ++ [s[k]] := by
  rw [List.take_succ_eq_append_getElem (by simpa using h)]; rfl

set_option maxRecDepth 100000 in
set_option maxHeartbeats 400000 in
theorem check_any (s : ByteArray) (w : World) (hs : s.size ≤ 100000) :
    Calls Try.prog 56 #[.string s] w fun e w' => e = .returned (.string ⟨(lowB (crc s.data.toList) 4).toArray⟩) ∧ Below w.heap.size w w' := by
  go_enter Try.func56, Try.ntmps56
  go_wp2
  go_loop [3, 4] (fun c i => ∃ k : Nat, k ≤ s.size ∧ i = .int .i64 k ∧ c = .int .i64 (crcN (s.data.toList.take k) : Nat)) (fun _ i => s.size - (intOf i).toNat)
  case atStart => exact ⟨0, Nat.zero_le _, rfl, by simp [crcN]⟩
  case round =>
    obtain ⟨k, hk, rfl, rfl⟩ := hrel
    have hc := crcN_lt (s.data.toList.take k)
    by_cases hlt : k < s.size
    · have hsn := take_snoc s k hlt
      have HS : Hid (crcN (s.data.toList.take (k + 1)) = crcByte (crcN (s.data.toList.take k)) s[k]) := by
        show _ = _
        rw [hsn, crcN_snoc]
      clear hsn
      generalize crcN (s.data.toList.take k) = c at *
      have e1 := xor_byte c s[k] hc
      have hx0 : c ^^^ s[k].toNat < 2 ^ 32 := Nat.xor_lt_two_pow hc (by have := s[k].toNat_lt; omega)
      have HX : Hid (crcN (s.data.toList.take (k + 1)) = crcBits 8 (c ^^^ s[k].toNat)) := HS
      clear HS
      generalize c ^^^ s[k].toNat = x at *
      go_wp2
      go_loop [3, 5, 6] (fun c j _ => ∃ m : Nat, m ≤ 8 ∧ j = .int .i64 m ∧ c = .int .i64 (crcBits m x : Nat)) (fun _ j _ => 8 - (intOf j).toNat)
      case atStart => exact ⟨0, by omega, rfl, rfl⟩
      case round =>
        obtain ⟨m, hm, rfl, rfl⟩ := hrel
        have hy := crcBits_lt x hx0 m
        by_cases hlt8 : m < 8
        · have HB : Hid (crcBits (m + 1) x = crcBit (crcBits m x)) := rfl
          generalize crcBits m x = y at *
          have e2 : bits .xor .i64 ((y : Int) / 2) 3988292384 = ((y / 2 ^^^ 3988292384 : Nat) : Int) := by
            have := i64_xor_nat (y / 2) 3988292384 (by omega) (by omega)
            simpa using this
          by_cases ho : y % 2 = 1
          · have ho' : ((y : Int) % 2 == 1) = true := by simp; omega
            have HO : Hid (y % 2 = 1) := ho
            clear ho
            go_wp2
            go_round
            case rel => exact ⟨m + 1, by omega, by go_num, by rw [HB.out]; simp only [crcBit, HO.out, if_true]⟩
            case measure => simp [intOf]; omega
          · have ho' : ((y : Int) % 2 == 1) = false := by simp; omega
            have HO : Hid (¬ y % 2 = 1) := ho
            clear ho
            go_wp2
            go_round
            case rel => exact ⟨m + 1, by omega, by go_num, by rw [HB.out]; simp only [crcBit, HO.out, if_false]; go_num⟩
            case measure => simp [intOf]; omega
        · obtain rfl : m = 8 := by omega
          go_wp2
          go_round
          case rel => exact ⟨k + 1, by omega, by go_num, by rw [HX.out]⟩
          case measure => simp [intOf]; omega
    · have e3 : bits .xor .i64 ((crcN (s.data.toList.take k) : Nat) : Int) 4294967295 = ((crcN (s.data.toList.take k) ^^^ 4294967295 : Nat) : Int) :=
        i64_xor_nat _ 4294967295 (by omega) (by omega)
      have hl := crc_lt s.data.toList
      have HE : Hid (crcN (s.data.toList.take k) ^^^ 4294967295 = crc s.data.toList) := by
        show _ = _
        rw [List.take_of_length_le (by simp; omega)]; rfl
      rw [HE.out] at e3
      clear HE
      generalize hz : crc s.data.toList = z at *
      have HZ : Hid _ := hz
      clear hz
      generalize crcN (s.data.toList.take k) = c at *
      go_wp2_with (go_at_call 91; refine (bytes_any z 4 _ (by omega) (by omega)).mono ?_; rintro e w' ⟨rfl, hb⟩)
      go_ret
      rw [HZ.out]
      exact ⟨rfl, hb⟩
end Go.Proofs.Ytdjmhagclcfnfaa
