/- Plain mathematics: numbers as bytes. Nothing of the dump. -/
namespace Go.Proofs.Ytdjmhagclcfnfaa

/-- The lowest k bytes of n, the highest first. -/
def lowB (n : Nat) : Nat → List UInt8
  | 0 => []
  | k + 1 => UInt8.ofNat (n / 256 ^ k % 256) :: lowB n k

theorem lowB_length (n : Nat) : ∀ k, (lowB n k).length = k
  | 0 => rfl
  | k + 1 => by simp [lowB, lowB_length n k]

theorem div_pow_succ (n k : Nat) : n / 256 ^ k / 256 = n / 256 ^ (k + 1) := by
  rw [Nat.div_div_eq_div_mul, Nat.pow_succ]

/-! ### The check: CRC-32, in plain numbers -/
def crcBit (c : Nat) : Nat := if c % 2 = 1 then (c / 2) ^^^ 3988292384 else c / 2
def crcBits : Nat → Nat → Nat
  | 0, c => c
  | k + 1, c => crcBit (crcBits k c)
def crcByte (c : Nat) (b : UInt8) : Nat := crcBits 8 (c ^^^ b.toNat)
def crcN (l : List UInt8) : Nat := l.foldl crcByte 4294967295
def crc (l : List UInt8) : Nat := crcN l ^^^ 4294967295

theorem crcBit_lt (c : Nat) (h : c < 2 ^ 32) : crcBit c < 2 ^ 32 := by
  unfold crcBit
  split
  · exact Nat.xor_lt_two_pow (by omega) (by omega)
  · omega
theorem crcBits_lt (c : Nat) (h : c < 2 ^ 32) : ∀ k, crcBits k c < 2 ^ 32
  | 0 => h
  | k + 1 => crcBit_lt _ (crcBits_lt c h k)
theorem crcByte_lt (c : Nat) (b : UInt8) (h : c < 2 ^ 32) : crcByte c b < 2 ^ 32 :=
  crcBits_lt _ (Nat.xor_lt_two_pow h (by have := b.toNat_lt; omega)) 8
theorem crcN_snoc (l : List UInt8) (b : UInt8) : crcN (l ++ [b]) = crcByte (crcN l) b := by simp [crcN]
theorem crcFold_lt : ∀ (l : List UInt8) (c : Nat), c < 2 ^ 32 → l.foldl crcByte c < 2 ^ 32
  | [], _, h => h
  | b :: l, c, h => crcFold_lt l _ (crcByte_lt c b h)
theorem crcN_lt (l : List UInt8) : crcN l < 2 ^ 32 := crcFold_lt l _ (by omega)
theorem crc_lt (l : List UInt8) : crc l < 2 ^ 32 := Nat.xor_lt_two_pow (crcN_lt l) (by omega)

end Go.Proofs.Ytdjmhagclcfnfaa
