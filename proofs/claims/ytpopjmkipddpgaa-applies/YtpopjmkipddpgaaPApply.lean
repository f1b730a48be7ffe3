/- The program's Apply. -/
import Derived.Test.YtpopjmkipddpgaaPChg
namespace Go.Proofs.Ytpopjmkipddpgaa
open Go.RowKit Go.Shelf

theorem saidR_none (n z : Int) : ∀ (rs : List Rc) (last : Int) (i : Int), recsOk n z last rs = true → i ≤ last → saidR rs i = none
  | [], _, _, _, _ => rfl
  | r :: rs, last, i, h, hi => by
    rw [recsOk, Bool.and_eq_true] at h
    obtain ⟨a1, a2, a3⟩ := of_decide_eq_true h.1
    have ih := saidR_none n z rs r.block i h.2 (by omega)
    unfold saidR at *
    rw [List.find?_cons_of_neg (by simp; omega)]
    exact ih
theorem setAll_at (n z : Int) : ∀ (rs : List Rc) (last : Int) (cs : List Cl) (i : Nat) (h : i < cs.length), -1 ≤ last → recsOk n z last rs = true → (setAll cs rs)[i]? = some (chg rs i cs[i])
  | [], last, cs, i, h, _, _ => by
    show cs[i]? = _
    rw [List.getElem?_eq_getElem h]
    rfl
  | r :: rs, last, cs, i, h, hl, hok => by
    rw [recsOk, Bool.and_eq_true] at hok
    obtain ⟨a1, a2, a3⟩ := of_decide_eq_true hok.1
    have ih := setAll_at n z rs r.block (cs.set r.block.toNat ⟨!r.free, r.data⟩) i (by rw [List.length_set]; exact h) (by omega) hok.2
    show (setAll (cs.set r.block.toNat ⟨!r.free, r.data⟩) rs)[i]? = _
    rw [ih]
    congr 1
    by_cases hi : (i : Int) = r.block
    · have e1 : saidR rs i = none := saidR_none n z rs r.block i hok.2 (by omega)
      have e2 : saidR (r :: rs) i = some r := by
        unfold saidR
        rw [List.find?_cons_of_pos (by simp; omega)]
      have hn : r.block.toNat = i := by omega
      unfold chg
      rw [e1, e2]
      simp only [hn, List.getElem_set_self]
      cases hf : r.free with
      | true =>
        rw [hf, if_pos rfl] at a3
        rw [empty_of_size r.data (by omega)]
        rfl
      | false => rfl
    · have e2 : saidR (r :: rs) i = saidR rs i := by
        unfold saidR
        rw [List.find?_cons_of_neg (by simp; omega)]
      unfold chg
      rw [e2, List.getElem_set_ne (by omega)]
theorem setAll_out (n z : Int) (rs : List Rc) (cs : List Cl) (h : recsOk n z (-1) rs = true) : setAll cs rs = outR rs cs := by
  apply List.ext_getElem?
  intro i
  by_cases hi : i < cs.length
  · rw [setAll_at n z rs (-1) cs i hi (by omega) h]
    simp [outR, hi]
  · rw [List.getElem?_eq_none (by rw [setAll_length]; omega), List.getElem?_eq_none (by simp [outR]; omega)]

set_option maxRecDepth 100000 in
set_option maxHeartbeats 2000000 in
theorem papply (l : List UInt8) (sv : Value) (cs : List Cl) (w : World) (hl : l.length ≤ 4611686018427387904) (hc : Cls w.heap.size w sv cs) (hcl : cs.length ≤ 4611686018427387904) :
    Calls Try.prog 19 #[.string ⟨l.toArray⟩, sv] w (ToldA l cs w) := by
  obtain ⟨a, cp, rfl⟩ := hc.slice
  have HC : Hid (∀ W, w.grownBy W none → _) := fun W h => Cls.moved hc (below_of_grown h)
  have HP : Hid (∀ W, _) := fun W => pparse l W hl
  clear hc
  go_enter Try.func19, Try.ntmps19
  go_wp2_with fail
  refine (HP.out _).mono ?_
  rintro e w1 ⟨hg1, (⟨k, hk, rfl⟩ | ⟨f, t, b, z, rs, v, hk, rfl, hown⟩)⟩
  · have hke := parse_err l k hk
    have e1 : (k != 0) = true := by simp; omega
    have HA : Hid (applyR l cs = .inl k) := by
      show _ = _
      unfold applyR
      rw [hk]
    have G1 : Hid _ := hg1
    clear hk hg1 hke
    go_wp2
    refine bodyPost_ret (results_tmp2 rfl _ _ _) rfl ?_
    exact ⟨gallocR G1.out _, .inl ⟨k, HA.out, rfl⟩⟩
  obtain ⟨-, hw, ho⟩ := parse_exact l f t b z rs hk
  obtain ⟨h1, h2, h3, h4, h5, h6, h7, h8, h9⟩ : (0 : Int) ≤ f ∧ (f : Int) ≤ 2147483647 ∧ (1 : Int) ≤ t ∧ (t : Int) ≤ 2147483647 ∧ (f : Int) ≠ t ∧ (1 : Int) ≤ b ∧ (b : Int) ≤ 100 ∧ (1 : Int) ≤ z ∧ (z : Int) ≤ 64 := of_decide_eq_true hw
  obtain ⟨av, lv, cv, rfl⟩ := hown.slice
  obtain ⟨W1, hW1⟩ : ∃ W1, W1 = w1.alloc (.cells #[.int .i64 f, .int .i64 t, .int .i64 b, .int .i64 z, .slice av lv cv] 24) := ⟨_, rfl⟩
  have s1 : Hid (W1.heap[w1.heap.size]? = some (.cells #[.int .i64 f, .int .i64 t, .int .i64 b, .int .i64 z, .slice av lv cv] 24 (0, 0))) := by rw [hW1]; exact World.alloc_heap_new _ _
  have g1 : Hid (w.grownBy W1 none) := by rw [hW1]; exact gallocR hg1 _
  have R1 : Hid (Recs W1.heap.size W1 (.slice av lv cv) rs) := by rw [hW1]; exact (OwnsR.alloc hown _).recs
  have HK : Hid _ := hk
  have HOK : Hid _ := ho
  clear hg1 hown hk hw h1 h2 h3 h4 h5 h6 h8 ho
  go_wp2_with fail
  rw [← hW1]
  clear hW1
  refine (isVolume_any _ cs b z W1 (HC.out _ g1.out) (by omega) (by omega)).mono ?_
  rintro e w2 ⟨rfl, g2⟩
  have G2 : Hid (w.grownBy w2 none) := gtrans g1.out g2
  obtain ⟨c0, c1, c2, c3, c4, -⟩ := box5 (box_kept s1.out g2).1
  have R2 : Hid (Recs w2.heap.size w2 (.slice av lv cv) rs) := Recs.moved R1.out (below_of_grown g2)
  clear g2
  cases hv : volOk cs b z with
  | false =>
    have HA : Hid (applyR l cs = .inl 1) := by
      show _ = _
      unfold applyR
      rw [HK.out]
      simp only [hv]
      rfl
    clear hv
    go_wp2
    refine bodyPost_ret (results_tmp2 rfl _ _ _) rfl ?_
    exact ⟨G2.out, .inl ⟨1, HA.out, rfl⟩⟩
  | true =>
    have hv' := hv
    simp only [volOk, Bool.and_eq_true, decide_eq_true_eq, List.all_eq_true] at hv'
    obtain ⟨hcb, hcd⟩ := hv'
    have hd : ∀ c ∈ cs, c.data.size ≤ 100000 := fun c hc => by
      have := hcd c hc
      split at this <;> omega
    have HA : Hid (applyR l cs = .inr (outR rs cs)) := by
      show _ = _
      unfold applyR
      rw [HK.out]
      simp only [hv]
      rfl
    subst hcb
    clear hv HK hcd
    go_wp2_with fail
    refine (values_any av lv cv w2).mono ?_
    rintro e W3 ⟨rfl, hW3⟩
    have b3 : W3.heap[w2.heap.size]? = some (.cells #[.slice av lv cv] 22 (0, 0)) := by rw [hW3]; exact World.alloc_heap_new _ _
    have g3 : w2.grownBy W3 none := by rw [hW3]; exact galloc _ _ _
    have HCH : Hid (∀ u : Unit, _) := fun _ => changed_any (.slice a cs.length cp) cs w2.heap.size (.slice av lv cv) rs W3 (HC.out _ (gtrans G2.out g3)) (by omega) hd b3 (Recs.moved R2.out (below_of_grown g3)) z HOK.out
    have HSO : Hid _ := setAll_out cs.length z rs cs HOK.out
    have G3 : Hid (w.grownBy W3 none) := gtrans G2.out g3
    clear hW3 b3 g3 hd
    go_wp2_with fail
    refine (HCH.out ()).mono ?_
    rintro e w4 ⟨v4, rfl, o4, g4⟩
    rw [HSO.out] at o4
    obtain ⟨a4, l4, c4', rfl⟩ := OwnsC.slice3 o4
    have O4 : Hid _ := o4
    have G4 : Hid _ := g4
    clear o4 g4
    go_wp2
    refine bodyPost_ret (results_tmp2 rfl _ _ _) rfl ?_
    refine ⟨gtrans G3.out G4.out, .inr ⟨_, _, HA.out, rfl, ?_⟩⟩
    exact OwnsC.base O4.out G3.out.size
end Go.Proofs.Ytpopjmkipddpgaa
