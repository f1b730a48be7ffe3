/- Whoever wants the first records alone: the numbers. -/
import Derived.Test.YtdjmhagclcfnfabPSome
import Derived.Test.YtdjmhagclcfnfabBackM
namespace Go.Proofs.Ytdjmhagclcfnfab

theorem recsB_app (a b : List Rc) : recsB (a ++ b) = recsB a ++ recsB b := by simp [recsB]
theorem some_all (f t b z : Nat) (rs : List Rc) (hw : wellHead f t b z = true) (ho : recsOk b z (-1) rs = true) : someR (serB f t b z rs) 0 rs.length = .inr rs := by
  obtain ⟨h1, _⟩ := ser_parts f t b z rs hw ho
  unfold someR
  rw [h1]
  simp only [if_neg (show ¬ (0 < rs.length ∧ rs.length < rs.length - 0) by omega)]
  rw [parse_back f t b z rs hw ho]
  rfl
theorem some_first (f t b z : Nat) (rs : List Rc) (hw : wellHead f t b z = true) (ho : recsOk b z (-1) rs = true) (m : Nat) (hm : m < rs.length) (bh : List UInt8) :
    18 + (recsB (rs.take m)).length ≤ (serB f t b z rs).length ∧ someR ((serB f t b z rs).take (18 + (recsB (rs.take m)).length) ++ bh) 0 m = .inr (rs.take m) := by
  obtain ⟨h1, hd, hsl, _⟩ := ser_parts f t b z rs hw ho
  have hb : b ≤ 100 := by
    obtain ⟨_, _, _, _, _, _, h, _⟩ : (0 : Int) ≤ f ∧ (f : Int) ≤ 2147483647 ∧ (1 : Int) ≤ t ∧ (t : Int) ≤ 2147483647 ∧ (f : Int) ≠ t ∧ (1 : Int) ≤ b ∧ (b : Int) ≤ 100 ∧ (1 : Int) ≤ z ∧ (z : Int) ≤ 64 := of_decide_eq_true hw
    omega
  have hsplit : recsB rs = recsB (rs.take m) ++ recsB (rs.drop m) := by rw [← recsB_app, List.take_append_drop]
  have hlen := congrArg List.length hsplit
  rw [List.length_append] at hlen
  have he : 18 + (recsB (rs.take m)).length ≤ (serB f t b z rs).length := by omega
  refine ⟨he, ?_⟩
  have hok : recsOk b z (-1) (rs.take m) = true := by
    have h := recsOk_append b z (rs.take m) (-1) (rs.drop m)
    rw [List.take_append_drop, ho] at h
    exact (Bool.and_eq_true _ _ ▸ h.symm).1
  have htl : ((serB f t b z rs).take (18 + (recsB (rs.take m)).length)).length = 18 + (recsB (rs.take m)).length := by rw [List.length_take]; omega
  have ho1 : openR ((serB f t b z rs).take (18 + (recsB (rs.take m)).length) ++ bh) = .inr (f, t, b, z, rs.length) := by
    rw [← h1, ← openR_take ((serB f t b z rs).take (18 + (recsB (rs.take m)).length) ++ bh) (18 + (recsB (rs.take m)).length) (by omega) (by rw [List.length_append]; omega), List.take_left' htl, openR_take _ _ (by omega) (by omega)]
  have hd1 : ((serB f t b z rs).take (18 + (recsB (rs.take m)).length) ++ bh).drop 18 = recsB (rs.take m) ++ bh := by
    rw [List.drop_append_of_le_length (by omega), List.drop_take, hd, hsplit, List.append_assoc, Nat.add_sub_cancel_left, List.take_left' rfl]
  have hml : (rs.take m).length = m := by rw [List.length_take]; omega
  have hwk := walk_recs b z hb (rs.take m) (-1) bh (by omega) hok
  rw [hml] at hwk
  unfold someR
  rw [ho1]
  simp only [if_pos (show 0 < rs.length ∧ m < rs.length - 0 by omega), Nat.zero_add]
  rw [hd1, hwk]
  rfl
theorem recB_len (b z last : Int) (r : Rc) (h : recOk b z last r = true) : (recB r).length = 3 + r.data.size := by
  obtain ⟨_, _, h3⟩ := of_decide_eq_true h
  unfold recB
  split
  · rename_i hf
    rw [if_pos hf] at h3
    rw [List.length_cons, lowB_length]
    omega
  · have hs : r.data.data.toList.length = r.data.size := by simp
    rw [List.length_cons, List.length_append, lowB_length]
    omega
theorem recsB_next (b z : Int) (rs : List Rc) (h : recsOk b z (-1) rs = true) (k : Nat) (hk : k < rs.length) : (recsB (rs.take (k + 1))).length = (recsB (rs.take k)).length + 3 + rs[k].data.size := by
  rw [List.take_succ_eq_append_getElem hk, recsB_snoc, List.length_append]
  have h2 := recsOk_append b z (rs.take k) (-1) (rs.drop k)
  rw [List.take_append_drop, h] at h2
  have h3 := (Bool.and_eq_true _ _ ▸ h2.symm).2
  rw [List.drop_eq_getElem_cons hk, recsOk] at h3
  have h4 := (Bool.and_eq_true _ _ ▸ h3).1
  rw [recB_len b z _ _ h4]
  omega
end Go.Proofs.Ytdjmhagclcfnfab
