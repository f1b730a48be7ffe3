/- One byte turned makes a text none. -/
import Derived.Test.YtdjmhagclcfnfaaParseM
namespace Go.Proofs.Ytdjmhagclcfnfaa

theorem xor_cancel {a b k : Nat} (h : a ^^^ k = b ^^^ k) : a = b := by
  have := congrArg (· ^^^ k) h
  simpa [Nat.xor_assoc] using this
theorem xor_cancel_left {a b k : Nat} (h : k ^^^ a = k ^^^ b) : a = b := xor_cancel (k := k) (by rw [Nat.xor_comm a, Nat.xor_comm b]; exact h)
theorem crcBit_top (x : Nat) (h : x < 2 ^ 32) : (crcBit x).testBit 31 = decide (x % 2 = 1) := by
  have h1 : (x / 2).testBit 31 = false := Nat.testBit_lt_two_pow (by omega)
  unfold crcBit
  split
  · rename_i hp
    rw [Nat.testBit_xor, h1, hp]
    decide
  · rename_i hp
    rw [h1]
    simp [hp]
theorem crcBit_inj (c d : Nat) (hc : c < 2 ^ 32) (hd : d < 2 ^ 32) (h : crcBit c = crcBit d) : c = d := by
  have t := crcBit_top c hc
  rw [h, crcBit_top d hd] at t
  unfold crcBit at h
  by_cases p : c % 2 = 1 <;> by_cases q : d % 2 = 1 <;> simp only [p, q, if_true, if_false, decide_true, decide_false] at h t
  · have := xor_cancel h
    omega
  · simp at t
  · simp at t
  · omega
theorem crcBits_inj : ∀ (k c d : Nat), c < 2 ^ 32 → d < 2 ^ 32 → crcBits k c = crcBits k d → c = d
  | 0, _, _, _, _, h => h
  | k + 1, c, d, hc, hd, h => crcBits_inj k c d hc hd (crcBit_inj _ _ (crcBits_lt c hc k) (crcBits_lt d hd k) h)
theorem crcByte_inj (c d : Nat) (x : UInt8) (hc : c < 2 ^ 32) (hd : d < 2 ^ 32) (h : crcByte c x = crcByte d x) : c = d :=
  xor_cancel (crcBits_inj 8 _ _ (Nat.xor_lt_two_pow hc (by have := x.toNat_lt; omega)) (Nat.xor_lt_two_pow hd (by have := x.toNat_lt; omega)) h)
theorem crcByte_byte (c : Nat) (x y : UInt8) (hc : c < 2 ^ 32) (h : crcByte c x = crcByte c y) : x = y :=
  UInt8.toNat_inj.1 (xor_cancel_left (crcBits_inj 8 _ _ (Nat.xor_lt_two_pow hc (by have := x.toNat_lt; omega)) (Nat.xor_lt_two_pow hc (by have := y.toNat_lt; omega)) h))
theorem crcFold_inj : ∀ (l : List UInt8) (c d : Nat), c < 2 ^ 32 → d < 2 ^ 32 → l.foldl crcByte c = l.foldl crcByte d → c = d
  | [], _, _, _, _, h => h
  | x :: l, c, d, hc, hd, h => crcByte_inj c d x hc hd (crcFold_inj l _ _ (crcByte_lt c x hc) (crcByte_lt d x hd) h)
theorem crc_turn (l m : List UInt8) (x y : UInt8) (h : crc (l ++ x :: m) = crc (l ++ y :: m)) : x = y := by
  have h1 := xor_cancel h
  unfold crcN at h1
  rw [List.foldl_append, List.foldl_append, List.foldl_cons, List.foldl_cons] at h1
  have hl := crcFold_lt l 4294967295 (by omega)
  exact crcByte_byte _ x y hl (crcFold_inj m _ _ (crcByte_lt _ x hl) (crcByte_lt _ y hl) h1)
theorem lowB_crc (a b : List UInt8) (h : lowB (crc a) 4 = lowB (crc b) 4) : crc a = crc b := by
  have h1 := congrArg num h
  rw [num_lowB, num_lowB] at h1
  have := crc_lt a
  have := crc_lt b
  omega

/-- Two texts that differ in one byte are not both texts. -/
theorem turned_sum (A A' : List UInt8) (i : Nat) (x : UInt8) (hi : i < (A ++ lowB (crc A) 4).length) (h : (A ++ lowB (crc A) 4).set i x = A' ++ lowB (crc A') 4) : x = (A ++ lowB (crc A) 4)[i] := by
  have hl := congrArg List.length h
  rw [List.length_set, List.length_append, List.length_append, lowB_length, lowB_length] at hl
  have hA : A.length = A'.length := by omega
  by_cases hlt : i < A.length
  · rw [List.set_append_left _ _ hlt] at h
    obtain ⟨h1, h2⟩ := List.append_inj h (by rw [List.length_set]; exact hA)
    have h3 := lowB_crc _ _ h2
    rw [← h1, List.set_eq_take_append_cons_drop, if_pos hlt] at h3
    have e : A = A.take i ++ A[i] :: A.drop (i + 1) := by rw [← List.drop_eq_getElem_cons hlt, List.take_append_drop]
    have h4 : crc (A.take i ++ A[i] :: A.drop (i + 1)) = crc (A.take i ++ x :: A.drop (i + 1)) := by rw [← e]; exact h3
    rw [List.getElem_append_left hlt]
    exact (crc_turn _ _ _ _ h4).symm
  · rw [List.set_append_right _ _ (by omega)] at h
    obtain ⟨h1, h2⟩ := List.append_inj h hA
    rw [← h1] at h2
    rw [List.getElem_append_right (by omega)]
    have hj : i - A.length < (lowB (crc A) 4).length := by rw [List.length_append] at hi; omega
    have h3 : ((lowB (crc A) 4).set (i - A.length) x)[i - A.length]'(by rw [List.length_set]; exact hj) = x := List.getElem_set_self _
    simp only [h2] at h3
    exact h3.symm
theorem turned_none (f t b z : Nat) (rs : List Rc) (i : Nat) (x : UInt8) (hi : i < (serB f t b z rs).length) (hx : x ≠ (serB f t b z rs)[i]) : ∃ k, parseR ((serB f t b z rs).set i x) = .inl k := by
  cases h : parseR ((serB f t b z rs).set i x) with
  | inl k => exact ⟨k, rfl⟩
  | inr v =>
    obtain ⟨f', t', b', z', rs'⟩ := v
    obtain ⟨e, _, _⟩ := parse_exact _ f' t' b' z' rs' h
    exact absurd (turned_sum (aheadB f t b z rs) (aheadB f' t' b' z' rs') i x hi e) hx
end Go.Proofs.Ytdjmhagclcfnfaa
