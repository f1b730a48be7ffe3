/- The walk of Exact. -/
import Derived.Test.YtdjmhagclcfnfaaPFace
import Derived.Test.YtdjmhagclcfnfaaParseM
import Derived.Test.YtdjmhagclcfnfaaKSame
namespace Go.Proofs.Ytdjmhagclcfnfaa
open Go.RowKit Go.Shelf

theorem recVals_at : ∀ (rs : List Rc) (j : Nat) (h : j < rs.length), (recVals rs)[j * 3]? = some (.bool rs[j].free) ∧ (recVals rs)[j * 3 + 1]? = some (.int .i64 rs[j].block) ∧ (recVals rs)[j * 3 + 2]? = some (.string rs[j].data)
  | r :: rs, 0, _ => ⟨rfl, rfl, rfl⟩
  | r :: rs, j + 1, h => by
    have := recVals_at rs j (by simpa using h)
    have e : recVals (r :: rs) = .bool r.free :: .int .i64 r.block :: .string r.data :: recVals rs := rfl
    rw [e, show (j + 1) * 3 = j * 3 + 1 + 1 + 1 from by omega, show j * 3 + 1 + 1 + 1 + 1 = (j * 3 + 1) + 1 + 1 + 1 from rfl, show j * 3 + 1 + 1 + 1 + 2 = (j * 3 + 2) + 1 + 1 + 1 from rfl]
    simpa only [List.getElem?_cons_succ, List.getElem_cons_succ] using this

theorem OwnsR.recs {B : Nat} {W : World} {v : Value} {rs : List Rc} (h : OwnsR B W v rs) : Recs W.heap.size W v rs := by
  have h0 : W.ownsRow B 34 3 v rs.length (recVals rs) := h
  rcases h0.2 with ⟨rfl, hn⟩ | ⟨g, cap, cur, rfl, _, hg, _⟩
  · exact .inl ⟨List.eq_nil_of_length_eq_zero hn, none, 0, rfl⟩
  · refine .inr ⟨g, 0, cap, rfl, (Array.getElem?_eq_some_iff.1 hg).1, fun j hj => ?_⟩
    obtain ⟨e0, e1, e2⟩ := recVals_at rs j hj
    have c0 := h0.cells (g := g) rfl _ _ e0
    have c1 := h0.cells (g := g) rfl _ _ e1
    have c2 := h0.cells (g := g) rfl _ _ e2
    simp only [Addr.add_lit, Nat.zero_add] at c0 c1 c2 ⊢
    exact ⟨c0, c1, c2⟩

set_option maxRecDepth 100000 in
set_option maxHeartbeats 1000000 in
theorem lives_any (w : World) : Calls Try.prog 44 #[] w fun e w' => e = .returned (.bool true) ∧ w.grownBy w' none := by
  have hp := parse_back 0 1 1 1 [] (by decide) (by decide)
  have HL : Hid ((serB 0 1 1 1 []).length = 22 ∧ (serB 0 1 1 1 []).take 4 = [83, 84, 82, 68]) := by
    refine ⟨?_, rfl⟩
    simp [serB, aheadB, headB_length, lowB_length, recsB]
  have HS : Hid (∀ u : Unit, _) := fun _ => pser_good 0 1 1 1 (.slice none 0 0) [] w (.inl ⟨rfl, none, 0, rfl⟩) (by decide) (by decide)
  generalize serB 0 1 1 1 [] = L at *
  have HT : Hid (∀ W, _) := fun W => pparse L W (by have := HL.out.1; omega)
  have HP : Hid _ := hp
  clear hp
  go_enter Try.func44, Try.ntmps44
  go_wp2_with fail
  refine (HS.out ()).mono ?_
  rintro e w1 ⟨rfl, hb1⟩
  have HB1 : Hid _ := hb1
  clear hb1
  go_wp2_with fail
  refine (HT.out _).mono ?_
  rintro e w2 ⟨hg2, (⟨k, hk, rfl⟩ | ⟨f, t, b, z, rs, v, hk, rfl, hown⟩)⟩
  · rw [HP.out] at hk
    cases hk
  rw [HP.out] at hk
  simp only [Sum.inr.injEq, Prod.mk.injEq] at hk
  obtain ⟨rfl, rfl, rfl, rfl, rfl⟩ := hk
  obtain ⟨a, ln, cp, rfl⟩ : ∃ a ln cp, v = .slice a ln cp := by
    rcases hown.2 with ⟨rfl, _⟩ | ⟨g, cap, cur, rfl, _⟩
    · exact ⟨_, _, _, rfl⟩
    · exact ⟨_, _, _, rfl⟩
  have G2 : Hid (w.grownBy w2 none) := gtrans (gbelow HB1.out) hg2
  obtain ⟨hl22, hl4⟩ := HL.out
  have e22 : ((L.length : Int) == 22) = true := by simp [hl22]
  have e0 : (⟨L.toArray⟩ : ByteArray).extract 0 4 = ⟨#[83, 84, 82, 68]⟩ := by
    apply ByteArray.ext
    rw [← Array.toList_inj, Lib.extract_data]
    simpa using hl4
  have e4 : (((⟨L.toArray⟩ : ByteArray).extract 0 4).toList == [83, 84, 82, 68]) = true := by
    rw [e0]
    simp
  clear hg2 hown e0
  go_wp2
  go_ret
  exact ⟨rfl, gallocR G2.out _⟩

set_option maxRecDepth 100000 in
set_option maxHeartbeats 1000000 in
theorem exact_walk (l : List UInt8) (w : World) (hl : l.length ≤ 4611686018427387904) : Calls Try.prog 11 #[.string ⟨l.toArray⟩] w fun e w' => e = .returned (.bool true) ∧ w.grownBy w' none := by
  have HT : Hid (∀ W, _) := fun W => pparse l W hl
  have HV : Hid (∀ W, _) := fun W => lives_any W
  have HK : Hid (∀ W, _) := fun W => ksame_eq 0 0 0 0 (.slice none 0 0) (.slice none 0 0) [] W (.inl ⟨rfl, none, 0, rfl⟩) (.inl ⟨rfl, none, 0, rfl⟩) (by simp)
  go_enter Try.func11, Try.ntmps11
  go_wp2_with fail
  refine (HV.out _).mono ?_
  rintro e w1 ⟨rfl, hg1⟩
  have G1 : Hid _ := hg1
  clear hg1
  go_wp2_with fail
  refine (HT.out _).mono ?_
  rintro e w2 ⟨hg2, (⟨k, hk, rfl⟩ | ⟨f, t, b, z, rs, v, hk, rfl, hown⟩)⟩
  · have G2 : Hid (w.grownBy w2 none) := gtrans G1.out hg2
    have hke := parse_err l k hk
    have e1 : (k != 0) = true := by simp; omega
    clear hg2 hk hke
    go_wp2_with fail
    refine (HK.out _).mono ?_
    rintro e w3 ⟨rfl, hg3⟩
    have G3 : Hid _ := hg3
    clear hg3
    go_wp2
    go_ret
    exact ⟨rfl, gtrans (gallocR G2.out _) G3.out⟩
  · obtain ⟨rfl, hw, ho⟩ := parse_exact l f t b z rs hk
    have HR : Hid (Recs w2.heap.size w2 v rs) := hown.recs
    obtain ⟨a, c, rfl⟩ := HR.out.slice
    have G2 : Hid (w.grownBy w2 none) := gtrans G1.out hg2
    have HS : Hid (∀ W, Below w2.heap.size w2 W → _) := fun W hb => pser_good f t b z (.slice a rs.length c) rs W (HR.out.moved hb) hw ho
    clear hg2 hk hown hw ho
    generalize serB f t b z rs = L at *
    go_wp2_with fail
    refine (HS.out _ ((Below.refl _ _).alloc (Nat.le_refl _) _)).mono ?_
    rintro e w3 ⟨rfl, hb3⟩
    have G3 : Hid _ := hb3
    clear hb3
    go_wp2
    go_ret
    exact ⟨rfl, gtrans (gallocR G2.out _) (gbelow G3.out)⟩
end Go.Proofs.Ytdjmhagclcfnfaa
