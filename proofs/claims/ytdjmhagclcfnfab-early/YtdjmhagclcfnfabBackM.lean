/- No part of a text is one, nor is it with a byte more. -/
import Derived.Test.YtdjmhagclcfnfabParseM
namespace Go.Proofs.Ytdjmhagclcfnfab

theorem part_take (l : List UInt8) (n p k : Nat) (h : p + k ≤ n) : ((l.take n).drop p).take k = (l.drop p).take k := by
  rw [List.drop_take, List.take_take, Nat.min_eq_left (by omega)]
/-- The head alone is looked at. -/
theorem openR_take (l : List UInt8) (n : Nat) (h : 18 ≤ n) (hl : 18 ≤ l.length) : openR (l.take n) = openR l := by
  have hh : headR (l.take n) = headR l := by
    unfold headR
    rw [part_take l n 4 4 (by omega), part_take l n 8 4 (by omega), part_take l n 12 2 (by omega), part_take l n 14 2 (by omega), part_take l n 16 2 (by omega)]
  unfold openR
  rw [hh, List.take_take, Nat.min_eq_left (by omega), if_neg (show ¬ (l.take n).length < 18 by rw [List.length_take]; omega), if_neg (show ¬ l.length < 18 by omega)]

theorem rdRec_short (z : Nat) (r : Rc) (c : Nat) (hd : (r.data.size : Int) = if r.free then 0 else (z : Int)) (hc : c < (recB r).length) : rdRec z ((recB r).take c) = .inl 2 := by
  have hds : r.data.data.toList.length = r.data.size := by simp
  have hl : ((recB r).take c).length = c := by rw [List.length_take]; omega
  unfold rdRec
  rw [hl]
  by_cases h0 : c < 1
  · rw [if_pos h0]
  rw [if_neg h0]
  obtain ⟨k, hk⟩ : ∃ k, c = k + 1 := ⟨c - 1, by omega⟩
  have h1 : ((recB r).take c).take 1 = (recB r).take 1 := by rw [List.take_take, Nat.min_eq_left (by omega)]
  rw [h1]
  unfold recB at hc ⊢
  by_cases hf : r.free = true
  · rw [if_pos hf] at hc ⊢
    have hn : num (List.take 1 (2 :: lowB r.block.toNat 2)) = 2 := rfl
    rw [hn, if_neg (by omega)]
    rw [List.length_cons, lowB_length] at hc
    rw [if_pos (by omega)]
  · rw [if_neg hf] at hc ⊢
    rw [if_neg hf] at hd
    have hn : num (List.take 1 (1 :: (lowB r.block.toNat 2 ++ r.data.data.toList))) = 1 := rfl
    rw [hn, if_neg (by omega)]
    rw [List.length_cons, List.length_append, lowB_length, hds] at hc
    by_cases h3 : c < 3
    · rw [if_pos h3]
    · rw [if_neg h3, if_neg (by omega), if_pos (by omega)]
theorem walk_short (b z : Nat) (hb : b ≤ 100) : ∀ (rs : List Rc) (last : Int) (q : List UInt8) (c : Nat), -1 ≤ last → recsOk b z last rs = true → c < (recsB rs).length → ∃ rs', walkR b z rs.length last ((recsB rs ++ q).take c) = (rs', .inl 2)
  | [], last, q, c, _, _, hc => by simp [recsB] at hc
  | r :: rs, last, q, c, hl, h, hc => by
    rw [recsOk, Bool.and_eq_true] at h
    obtain ⟨h1, h2⟩ := h
    obtain ⟨a1, a2, a3⟩ := of_decide_eq_true h1
    rw [recsB_cons, List.length_append] at hc
    rw [recsB_cons, List.append_assoc, List.length_cons, walkR]
    by_cases hlt : c < (recB r).length
    · rw [List.take_append_of_le_length (by omega), stepR, rdRec_short z r c a3 hlt]
      exact ⟨[], rfl⟩
    · have e : (recB r ++ (recsB rs ++ q)).take c = recB r ++ (recsB rs ++ q).take (c - (recB r).length) := by
        rw [List.take_append, List.take_of_length_le (by omega)]
      rw [e]
      have hst : stepR b z last (recB r ++ (recsB rs ++ q).take (c - (recB r).length)) = .inr (r, (recsB rs ++ q).take (c - (recB r).length)) := by
        rw [stepR, rdRec_rec z r _ (by omega) (by omega) a3]
        simp only [if_pos (And.intro a1 a2)]
      rw [hst]
      obtain ⟨rs', hr⟩ := walk_short b z hb rs r.block q (c - (recB r).length) (by omega) h2 (by omega)
      simp only []
      rw [hr]
      exact ⟨_, rfl⟩

/-- What stands behind the head, and the head, of a text. -/
theorem ser_parts (f t b z : Nat) (rs : List Rc) (hw : wellHead f t b z = true) (ho : recsOk b z (-1) rs = true) :
    openR (serB f t b z rs) = .inr (f, t, b, z, rs.length) ∧ (serB f t b z rs).drop 18 = recsB rs ++ lowB (crc (aheadB f t b z rs)) 4 ∧ (serB f t b z rs).length = 22 + (recsB rs).length ∧ (aheadB f t b z rs).length = 18 + (recsB rs).length := by
  have hal : (aheadB f t b z rs).length = 18 + (recsB rs).length := by
    simp [aheadB, headB, lowB_length]
    omega
  have hsl : (serB f t b z rs).length = 22 + (recsB rs).length := by
    rw [serB, List.length_append, lowB_length, hal]
    omega
  have hd : (serB f t b z rs).drop 18 = recsB rs ++ lowB (crc (aheadB f t b z rs)) 4 := by
    rw [serB, aheadB, List.append_assoc]
    exact List.drop_left' (by simp [headB, lowB_length])
  refine ⟨?_, hd, hsl, hal⟩
  have hp := parse_back f t b z rs hw ho
  unfold parseR at hp
  cases h : openR (serB f t b z rs) with
  | inl k =>
    rw [h] at hp
    cases hp
  | inr v =>
    obtain ⟨f', t', b', z', m⟩ := v
    rw [h] at hp
    simp only [] at hp
    cases h2 : walkR b' z' m (-1) ((serB f t b z rs).drop 18) with
    | mk ss y =>
      rw [h2] at hp
      cases y with
      | inl k => cases hp
      | inr q =>
        simp only [] at hp
        have hm := walk_length b' z' m (-1) _ h2
        cases h3 : endR (serB f t b z rs) ((serB f t b z rs).length - q.length) with
        | some k => rw [h3] at hp; cases hp
        | none =>
          rw [h3] at hp
          cases hp
          rw [hm]

/-- **No part of a text is one: it is short.** -/
theorem parse_short (f t b z : Nat) (rs : List Rc) (hw : wellHead f t b z = true) (ho : recsOk b z (-1) rs = true) (c : Nat) (hc : c < (serB f t b z rs).length) : parseR ((serB f t b z rs).take c) = .inl 2 := by
  obtain ⟨ho', hd, hsl, hal⟩ := ser_parts f t b z rs hw ho
  have hb : b ≤ 100 := by
    obtain ⟨_, _, _, _, _, _, h, _⟩ : (0 : Int) ≤ f ∧ (f : Int) ≤ 2147483647 ∧ (1 : Int) ≤ t ∧ (t : Int) ≤ 2147483647 ∧ (f : Int) ≠ t ∧ (1 : Int) ≤ b ∧ (b : Int) ≤ 100 ∧ (1 : Int) ≤ z ∧ (z : Int) ≤ 64 := of_decide_eq_true hw
    omega
  have hlen : ((serB f t b z rs).take c).length = c := by rw [List.length_take]; omega
  by_cases h18 : c < 18
  · have : openR ((serB f t b z rs).take c) = .inl 2 := by
      unfold openR
      rw [if_pos (by omega)]
    unfold parseR
    rw [this]
  · unfold parseR
    rw [openR_take _ c (by omega) (by omega), ho', List.drop_take, hd]
    simp only []
    by_cases hlt : c - 18 < (recsB rs).length
    · obtain ⟨rs', hr⟩ := walk_short b z hb rs (-1) (lowB (crc (aheadB f t b z rs)) 4) (c - 18) (by omega) ho hlt
      rw [hr]
    · have e : (recsB rs ++ lowB (crc (aheadB f t b z rs)) 4).take (c - 18) = recsB rs ++ (lowB (crc (aheadB f t b z rs)) 4).take (c - 18 - (recsB rs).length) := by
        rw [List.take_append, List.take_of_length_le (by omega)]
      rw [e, walk_recs b z hb rs (-1) _ (by omega) ho]
      simp only []
      have hl4 : ((lowB (crc (aheadB f t b z rs)) 4).take (c - 18 - (recsB rs).length)).length = c - 18 - (recsB rs).length := by
        rw [List.length_take, lowB_length]
        omega
      have he : endR ((serB f t b z rs).take c) (((serB f t b z rs).take c).length - ((lowB (crc (aheadB f t b z rs)) 4).take (c - 18 - (recsB rs).length)).length) = some 2 := by
        unfold endR
        rw [hlen, hl4, if_pos (by omega)]
      rw [he]
/-- **With a byte more something is left.** -/
theorem parse_more (f t b z : Nat) (rs : List Rc) (hw : wellHead f t b z = true) (ho : recsOk b z (-1) rs = true) (x : UInt8) : parseR (serB f t b z rs ++ [x]) = .inl 8 := by
  obtain ⟨ho', hd, hsl, hal⟩ := ser_parts f t b z rs hw ho
  have hb : b ≤ 100 := by
    obtain ⟨_, _, _, _, _, _, h, _⟩ : (0 : Int) ≤ f ∧ (f : Int) ≤ 2147483647 ∧ (1 : Int) ≤ t ∧ (t : Int) ≤ 2147483647 ∧ (f : Int) ≠ t ∧ (1 : Int) ≤ b ∧ (b : Int) ≤ 100 ∧ (1 : Int) ≤ z ∧ (z : Int) ≤ 64 := of_decide_eq_true hw
    omega
  have hop : openR (serB f t b z rs ++ [x]) = .inr (f, t, b, z, rs.length) := by
    rw [← ho', ← openR_take (serB f t b z rs ++ [x]) (serB f t b z rs).length (by omega) (by rw [List.length_append]; omega), List.take_left' rfl]
  have hdr : (serB f t b z rs ++ [x]).drop 18 = recsB rs ++ (lowB (crc (aheadB f t b z rs)) 4 ++ [x]) := by
    rw [List.drop_append_of_le_length (by omega), hd, List.append_assoc]
  unfold parseR
  rw [hop]
  simp only []
  rw [hdr, walk_recs b z hb rs (-1) _ (by omega) ho]
  simp only []
  have hl5 : (lowB (crc (aheadB f t b z rs)) 4 ++ [x]).length = 5 := by simp [lowB_length]
  have hlen : (serB f t b z rs ++ [x]).length = 23 + (recsB rs).length := by rw [List.length_append, hsl]; simp; omega
  have hp : (serB f t b z rs ++ [x]).length - (lowB (crc (aheadB f t b z rs)) 4 ++ [x]).length = (aheadB f t b z rs).length := by omega
  have e : serB f t b z rs ++ [x] = aheadB f t b z rs ++ (lowB (crc (aheadB f t b z rs)) 4 ++ [x]) := by rw [serB, List.append_assoc]
  have he : endR (serB f t b z rs ++ [x]) ((serB f t b z rs ++ [x]).length - (lowB (crc (aheadB f t b z rs)) 4 ++ [x]).length) = some 8 := by
    rw [hp]
    unfold endR
    have hn : num (((serB f t b z rs ++ [x]).drop (aheadB f t b z rs).length).take 4) = crc ((serB f t b z rs ++ [x]).take (aheadB f t b z rs).length) := by
      rw [e, List.drop_left' rfl, List.take_left' rfl, List.take_left' (lowB_length _ _), num_lowB]
      have := crc_lt (aheadB f t b z rs)
      omega
    rw [if_neg (by omega), if_neg (by rw [hn]; simp), if_pos (by omega)]
  rw [he]
/-- **No other stream has the same text.** -/
theorem ser_inj (f t b z : Nat) (rs rs' : List Rc) (hw : wellHead f t b z = true) (ho : recsOk b z (-1) rs = true) (ho' : recsOk b z (-1) rs' = true) (h : serB f t b z rs' = serB f t b z rs) : rs = rs' := by
  have h1 := parse_back f t b z rs hw ho
  rw [← h, parse_back f t b z rs' hw ho'] at h1
  simp only [Sum.inr.injEq, Prod.mk.injEq, true_and] at h1
  exact h1.symm
end Go.Proofs.Ytdjmhagclcfnfab
