/- What Parse reads is what Serialize writes: mathematics. -/
import Derived.Test.YtdjmhagclcfnfaaPParse
namespace Go.Proofs.Ytdjmhagclcfnfaa

theorem split_at (l : List UInt8) (p k : Nat) (h : p + k ≤ l.length) : l.drop p = lowB (num ((l.drop p).take k)) k ++ l.drop (p + k) := by
  have hk : ((l.drop p).take k).length = k := by simp; omega
  have e := lowB_num ((l.drop p).take k)
  rw [hk] at e
  rw [e, ← List.drop_drop, List.take_append_drop]

theorem openR_ok (l : List UInt8) (f t b z m : Nat) (h : openR l = .inr (f, t, b, z, m)) : 18 ≤ l.length ∧ l = ([83, 84, 82, 68] ++ headB f t b z m) ++ l.drop 18 ∧ wellHead f t b z = true ∧ m ≤ b ∧ f < 4294967296 ∧ t < 4294967296 := by
  unfold openR at h
  split at h
  · cases h
  split at h
  · cases h
  split at h
  · rename_i h1 h2 h3
    simp only [Sum.inr.injEq] at h
    rw [h] at h3
    simp only [headR, Prod.mk.injEq] at h
    obtain ⟨e1, e2, e3, e4, e5⟩ := h
    simp only [headOk, Bool.and_eq_true, decide_eq_true_eq] at h3
    refine ⟨by omega, ?_, h3.1, by omega, by rw [← e1]; exact num_le l 4 4 (by omega), by rw [← e2]; exact num_le l 8 4 (by omega)⟩
    have s1 := split_at l 4 4 (by omega)
    have s2 := split_at l 8 4 (by omega)
    have s3 := split_at l 12 2 (by omega)
    have s4 := split_at l 14 2 (by omega)
    have s5 := split_at l 16 2 (by omega)
    rw [e1] at s1
    rw [e2] at s2
    rw [e3] at s3
    rw [e4] at s4
    rw [e5] at s5
    have h2' : l.take 4 = [83, 84, 82, 68] := by simpa using h2
    conv => lhs; rw [← List.take_append_drop 4 l, h2', s1, s2, s3, s4, s5]
    simp [headB]
  · cases h

theorem endR_none (l : List UInt8) (p : Nat) (h : endR l p = none) : l = l.take p ++ lowB (crc (l.take p)) 4 := by
  unfold endR at h
  split at h
  · cases h
  split at h
  · cases h
  split at h
  · cases h
  rename_i h1 h2 h3
  have hc : num ((l.drop p).take 4) = crc (l.take p) := by simpa using h2
  have s := split_at l p 4 (by omega)
  rw [hc, List.drop_of_length_le (show l.length ≤ p + 4 by omega), List.append_nil] at s
  rw [← s, List.take_append_drop]

/-- **Whatever is read is the text of what is read, and that is well made.** -/
theorem parse_exact (l : List UInt8) (f t b z : Nat) (rs : List Rc) (h : parseR l = .inr (f, t, b, z, rs)) : l = serB f t b z rs ∧ wellHead f t b z = true ∧ recsOk b z (-1) rs = true := by
  unfold parseR at h
  split at h
  · cases h
  rename_i f' t' b' z' m ho
  obtain ⟨h18, hl, hw, hm, _, _⟩ := openR_ok l f' t' b' z' m ho
  split at h
  · cases h
  rename_i rs' q hk
  split at h
  · cases h
  rename_i he
  simp only [Sum.inr.injEq, Prod.mk.injEq] at h
  obtain ⟨rfl, rfl, rfl, rfl, rfl⟩ := h
  obtain ⟨e1, e2⟩ := walk_bytes b' z' m (-1) _ hk
  have e3 := walk_length b' z' m (-1) _ hk
  have hlen := congrArg List.length e1
  rw [List.length_append, List.length_drop] at hlen
  have hend := endR_none l _ he
  have htake : l.take (l.length - q.length) = aheadB f' t' b' z' rs' := by
    have hp : l.length - q.length = (([83, 84, 82, 68] ++ headB f' t' b' z' m) ++ recsB rs').length := by
      rw [List.length_append, List.length_append, headB_length]
      simp
      omega
    rw [hp]
    conv => lhs; rw [hl, e1, ← List.append_assoc]
    rw [List.take_left' rfl, aheadB, e3]
  refine ⟨?_, hw, e2⟩
  rw [htake] at hend
  exact hend

theorem rdRec_rec (z : Nat) (r : Rc) (q : List UInt8) (h0 : 0 ≤ r.block) (h1 : r.block < 65536) (hd : (r.data.size : Int) = if r.free then 0 else (z : Int)) : rdRec z (recB r ++ q) = .inr (r, q) := by
  obtain ⟨free, block, data⟩ := r
  simp only at h0 h1 hd
  obtain ⟨n, rfl⟩ := Int.eq_ofNat_of_zero_le h0
  have hn : num (lowB n 2) = n := by rw [num_lowB]; omega
  have hl2 := lowB_length n 2
  cases free with
  | true =>
    have hda : data = ⟨#[]⟩ := empty_of_size data (by simpa using hd)
    subst hda
    have e : recB ⟨true, (n : Int), ⟨#[]⟩⟩ ++ q = 2 :: (lowB n 2 ++ q) := by simp [recB]
    rw [e]
    have ht : ((2 : UInt8) :: (lowB n 2 ++ q)).take 1 = [2] := rfl
    have hdr : ((2 : UInt8) :: (lowB n 2 ++ q)).drop 1 = lowB n 2 ++ q := rfl
    have hdr3 : ((2 : UInt8) :: (lowB n 2 ++ q)).drop 3 = q := by
      show (lowB n 2 ++ q).drop 2 = q
      exact List.drop_left' hl2
    have hnum : num [(2 : UInt8)] = 2 := rfl
    have hlen : ((2 : UInt8) :: (lowB n 2 ++ q)).length = q.length + 3 := by simp [hl2]; omega
    unfold rdRec
    rw [ht, hdr, hdr3, hnum, hlen, List.take_left' hl2, hn]
    rw [if_neg (by omega), if_neg (by omega), if_neg (by omega), if_pos rfl]
  | false =>
    have hdz : data.data.toList.length = z := by
      have : data.size = z := by
        simp only [Bool.false_eq_true, if_false] at hd
        omega
      exact this
    have e : recB ⟨false, (n : Int), data⟩ ++ q = 1 :: (lowB n 2 ++ (data.data.toList ++ q)) := by simp [recB]
    rw [e]
    have ht : ((1 : UInt8) :: (lowB n 2 ++ (data.data.toList ++ q))).take 1 = [1] := rfl
    have hdr : ((1 : UInt8) :: (lowB n 2 ++ (data.data.toList ++ q))).drop 1 = lowB n 2 ++ (data.data.toList ++ q) := rfl
    have hdr3 : ((1 : UInt8) :: (lowB n 2 ++ (data.data.toList ++ q))).drop 3 = data.data.toList ++ q := by
      show (lowB n 2 ++ (data.data.toList ++ q)).drop 2 = _
      exact List.drop_left' hl2
    have hdrz : ((1 : UInt8) :: (lowB n 2 ++ (data.data.toList ++ q))).drop (3 + z) = q := by
      rw [← List.drop_drop, hdr3]
      exact List.drop_left' hdz
    have hnum : num [(1 : UInt8)] = 1 := rfl
    have hlen : ((1 : UInt8) :: (lowB n 2 ++ (data.data.toList ++ q))).length = q.length + 3 + z := by
      simp only [List.length_cons, List.length_append, hl2, hdz]
      omega
    unfold rdRec
    rw [ht, hdr, hdr3, hnum, hlen, List.take_left' hl2, hn, hdrz, List.take_left' hdz]
    rw [if_neg (by omega), if_neg (by omega), if_neg (by omega), if_neg (by omega), if_neg (by omega)]

theorem walk_recs (b z : Nat) (hb : b ≤ 100) : ∀ (rs : List Rc) (last : Int) (q : List UInt8), -1 ≤ last → recsOk b z last rs = true → walkR b z rs.length last (recsB rs ++ q) = (rs, .inr q)
  | [], last, q, _, _ => rfl
  | r :: rs, last, q, hl, h => by
    rw [recsOk, Bool.and_eq_true] at h
    obtain ⟨h1, h2⟩ := h
    obtain ⟨a1, a2, a3⟩ := of_decide_eq_true h1
    have hst : stepR b z last (recsB (r :: rs) ++ q) = .inr (r, recsB rs ++ q) := by
      rw [recsB_cons, List.append_assoc, stepR, rdRec_rec z r _ (by omega) (by omega) a3]
      simp only [if_pos (And.intro a1 a2)]
    rw [List.length_cons, walkR, hst]
    simp only []
    rw [walk_recs b z hb rs r.block q (by omega) h2]

/-- **What is well made comes back from its text.** -/
theorem parse_back (f t b z : Nat) (rs : List Rc) (hw : wellHead f t b z = true) (ho : recsOk b z (-1) rs = true) : parseR (serB f t b z rs) = .inr (f, t, b, z, rs) := by
  obtain ⟨h1, h2, h3, h4, h5, h6, h7, h8, h9⟩ : (0 : Int) ≤ f ∧ (f : Int) ≤ 2147483647 ∧ (1 : Int) ≤ t ∧ (t : Int) ≤ 2147483647 ∧ (f : Int) ≠ t ∧ (1 : Int) ≤ b ∧ (b : Int) ≤ 100 ∧ (1 : Int) ≤ z ∧ (z : Int) ≤ 64 := of_decide_eq_true hw
  have hn := recsOk_length b z rs ho (by omega)
  obtain ⟨c, hc⟩ : ∃ c, c = lowB (crc (aheadB f t b z rs)) 4 := ⟨_, rfl⟩
  have hcl : c.length = 4 := by rw [hc]; exact lowB_length _ _
  have hl : serB f t b z rs = [83, 84, 82, 68] ++ (lowB f 4 ++ (lowB t 4 ++ (lowB b 2 ++ (lowB z 2 ++ (lowB rs.length 2 ++ (recsB rs ++ c)))))) := by
    rw [hc, serB, aheadB, headB]
    simp
  have hlen : (serB f t b z rs).length = 22 + (recsB rs).length := by
    rw [hl]
    simp only [List.length_append, lowB_length, hcl, List.length_cons, List.length_nil]
    omega
  have d4 : (serB f t b z rs).drop 4 = lowB f 4 ++ (lowB t 4 ++ (lowB b 2 ++ (lowB z 2 ++ (lowB rs.length 2 ++ (recsB rs ++ c))))) := by rw [hl]; rfl
  have d8 : (serB f t b z rs).drop 8 = lowB t 4 ++ (lowB b 2 ++ (lowB z 2 ++ (lowB rs.length 2 ++ (recsB rs ++ c)))) := by
    rw [show 8 = 4 + 4 from rfl, ← List.drop_drop, d4, List.drop_left' (lowB_length _ _)]
  have d12 : (serB f t b z rs).drop 12 = lowB b 2 ++ (lowB z 2 ++ (lowB rs.length 2 ++ (recsB rs ++ c))) := by
    rw [show 12 = 8 + 4 from rfl, ← List.drop_drop, d8, List.drop_left' (lowB_length _ _)]
  have d14 : (serB f t b z rs).drop 14 = lowB z 2 ++ (lowB rs.length 2 ++ (recsB rs ++ c)) := by
    rw [show 14 = 12 + 2 from rfl, ← List.drop_drop, d12, List.drop_left' (lowB_length _ _)]
  have d16 : (serB f t b z rs).drop 16 = lowB rs.length 2 ++ (recsB rs ++ c) := by
    rw [show 16 = 14 + 2 from rfl, ← List.drop_drop, d14, List.drop_left' (lowB_length _ _)]
  have d18 : (serB f t b z rs).drop 18 = recsB rs ++ c := by
    rw [show 18 = 16 + 2 from rfl, ← List.drop_drop, d16, List.drop_left' (lowB_length _ _)]
  have hh : headR (serB f t b z rs) = (f, t, b, z, rs.length) := by
    unfold headR
    rw [d4, d8, d12, d14, d16, List.take_left' (lowB_length _ _), List.take_left' (lowB_length _ _), List.take_left' (lowB_length _ _), List.take_left' (lowB_length _ _), List.take_left' (lowB_length _ _)]
    rw [num_lowB, num_lowB, num_lowB, num_lowB, num_lowB]
    simp only [Prod.mk.injEq]
    omega
  have ho' : openR (serB f t b z rs) = .inr (f, t, b, z, rs.length) := by
    unfold openR
    rw [if_neg (by omega), hh]
    have ht : (serB f t b z rs).take 4 = [83, 84, 82, 68] := by rw [hl]; rfl
    rw [ht, if_neg (by simp)]
    have hok : headOk f t b z rs.length = true := by
      simp only [headOk, hw, Bool.true_and, decide_eq_true_eq]
      exact hn
    simp only [hok, if_true]
  have hwk := walk_recs b z (by omega) rs (-1) c (by omega) ho
  have he : endR (serB f t b z rs) ((serB f t b z rs).length - c.length) = none := by
    have hp : (serB f t b z rs).length - c.length = (aheadB f t b z rs).length := by
      rw [serB, ← hc, List.length_append]
      omega
    rw [hp]
    have htk : (serB f t b z rs).take (aheadB f t b z rs).length = aheadB f t b z rs := by rw [serB]; exact List.take_left' rfl
    have hdp : (serB f t b z rs).drop (aheadB f t b z rs).length = c := by rw [serB, ← hc]; exact List.drop_left' rfl
    unfold endR
    rw [htk, hdp, List.take_of_length_le (by omega)]
    have hnc : num c = crc (aheadB f t b z rs) := by
      rw [hc, num_lowB]
      have := crc_lt (aheadB f t b z rs)
      omega
    rw [if_neg (by omega), hnc, if_neg (by simp), if_neg (by omega)]
  unfold parseR
  rw [ho', d18]
  simp only []
  rw [hwk]
  simp only []
  rw [he]

theorem rdRec_err (z : Nat) (q : List UInt8) (k : Int) (h : rdRec z q = .inl k) : 2 ≤ k ∧ k ≤ 8 := by
  unfold rdRec at h
  repeat' split at h
  all_goals simp only [Sum.inl.injEq, reduceCtorEq] at h
  all_goals omega
theorem stepR_err (b z : Nat) (last : Int) (q : List UInt8) (k : Int) (h : stepR b z last q = .inl k) : 2 ≤ k ∧ k ≤ 8 := by
  unfold stepR at h
  cases h1 : rdRec z q with
  | inl k1 =>
    rw [h1] at h
    simp only [Sum.inl.injEq] at h
    rw [← h]
    exact rdRec_err z q k1 h1
  | inr x =>
    obtain ⟨r, q1⟩ := x
    rw [h1] at h
    simp only [] at h
    split at h
    · cases h
    · simp only [Sum.inl.injEq] at h
      omega
theorem walk_err (b z : Nat) : ∀ (n : Nat) (last : Int) (q : List UInt8) {rs : List Rc} {k : Int}, walkR b z n last q = (rs, .inl k) → 2 ≤ k ∧ k ≤ 8
  | 0, last, q, rs, k, h => by simp [walkR] at h
  | n + 1, last, q, rs, k, h => by
    rw [walkR] at h
    cases h2 : stepR b z last q with
    | inl k1 =>
      rw [h2] at h
      simp only [Prod.mk.injEq, Sum.inl.injEq] at h
      rw [← h.2]
      exact stepR_err b z last q k1 h2
    | inr x =>
      obtain ⟨r, q1⟩ := x
      rw [h2] at h
      simp only [Prod.mk.injEq] at h
      exact walk_err b z n r.block q1 (rs := (walkR b z n r.block q1).1) (k := k) (by rw [← h.2])
theorem parse_err (l : List UInt8) (k : Int) (h : parseR l = .inl k) : 2 ≤ k ∧ k ≤ 8 := by
  unfold parseR at h
  split at h
  · rename_i k1 ho
    simp only [Sum.inl.injEq] at h
    unfold openR at ho
    repeat' split at ho
    all_goals simp only [Sum.inl.injEq, reduceCtorEq] at ho
    all_goals omega
  split at h
  · rename_i rs k1 hk
    simp only [Sum.inl.injEq] at h
    rw [← h]
    exact walk_err _ _ _ _ _ hk
  split at h
  · rename_i k1 he
    simp only [Sum.inl.injEq] at h
    unfold endR at he
    repeat' split at he
    all_goals simp only [Option.some.injEq, reduceCtorEq] at he
    all_goals omega
  · cases h
end Go.Proofs.Ytdjmhagclcfnfaa
