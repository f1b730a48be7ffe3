/- The walk of Applies: on. -/
import Derived.Test.YtpopjmkipddpgaaLApplies
namespace Go.Proofs.Ytpopjmkipddpgaa
open Go.RowKit Go.Shelf

theorem below_drewN {N : Nat} {A W : World} (h : Below N A W) (n : Nat) : Below N A (W.drewN n) := ⟨h.os, h.tape, h.output, h.size, h.block⟩

set_option maxRecDepth 100000 in
set_option maxHeartbeats 4000000 in
theorem applies_walk (l : List UInt8) (sv : Value) (cs : List Cl) (w : World) (hl : l.length ≤ 4611686018427387904) (hR : Cls w.heap.size w sv cs) (hlen : cs.length * 24 ≤ 140737488355328) :
    Calls Try.prog 5 #[.string ⟨l.toArray⟩, sv] w fun e w' => e = .returned (.bool true) ∧ w.grownBy w' none := by
  obtain ⟨i0, hi, hz0, hz1, hz2⟩ := info_parts Try.infoCl
  obtain ⟨a, cap, rfl⟩ := hR.slice
  have hmk : ∀ W : World, (Instr.makeSlice 39 (.int .i64 (cs.length + 2)) (.int .i64 (cs.length + 2))).run Try.prog W = .ok (.slice (some ⟨W.heap.size, 0, none⟩) (cs.length + 2) (cs.length + 2)) (W.alloc (.cells (madeCells (Value.agg #[.bool false, .string ⟨#[]⟩]).cells ((cs.length + 2) * 2)) 41)) := by
    intro W
    have := run_make (P := Try.prog) W 39 41 i0 _ Try.underlying39 hi hz0 .i64 .i64 ((cs.length : Int) + 2) ((cs.length : Int) + 2) (by omega) (Int.le_refl _) (by rw [hz2]; omega) (by omega)
    rw [hz1, show ((cs.length : Int) + 2).toNat = cs.length + 2 from by omega] at this
    exact this
  obtain ⟨M, hM⟩ : ∃ M, M = madeCells (Value.agg #[.bool false, .string ⟨#[]⟩]).cells ((cs.length + 2) * 2) := ⟨_, rfl⟩
  have hMs : M.size = (cs.length + 2) * 2 := by rw [hM]; exact size_madeCells _ _
  have hB1 : Below w.heap.size w (w.alloc (.cells M 41)) := (Below.refl _ _).alloc (Nat.le_refl _) _
  have hG1 : (w.alloc (.cells M 41)).heap[w.heap.size]? = some (.cells M 41 (0, 0)) := World.alloc_heap_new _ _
  have hcp := run_copy_cls (w.alloc (.cells M 41)) 3 w.heap.size (cs.length + 2) (cs.length + 2) (.slice a cs.length cap) cs M hG1 (hR.moved hB1) (by omega) (by omega)
  obtain ⟨W2, hW2⟩ : ∃ W2, W2 = (w.alloc (.cells M 41)).setRow w.heap.size (clVals cs ++ M.toList.drop (cs.length * 2)).toArray := ⟨_, rfl⟩
  have hG2 : W2.heap[w.heap.size]? = some (.cells (clVals cs ++ M.toList.drop (cs.length * 2)).toArray 41 (0, 0)) := by
    rw [hW2]; exact setRow_heap _ _ _ _ _ _ hG1
  have hB2 : Below w.heap.size w W2 := by
    rw [hW2]; exact hB1.trans ⟨rfl, rfl, rfl, by simp [World.setRow], fun k hk => setRow_other _ _ _ _ (by omega)⟩
  have hs2 : W2.heap.size = w.heap.size + 1 := by rw [hW2]; simp [World.setRow]
  rw [← hW2] at hcp
  rw [← hM] at hmk
  have HM : Hid _ := hM
  clear hW2 hG1 hB1 hM
  have harr : (clVals cs ++ M.toList.drop (cs.length * 2)).toArray.size = (cs.length + 2) * 2 := by
    simp [clVals_length, hMs]; omega
  generalize hA : (clVals cs ++ M.toList.drop (cs.length * 2)).toArray = A at *
  have HA : Hid _ := hA
  clear hA
  obtain ⟨x1, u1⟩ : ∃ v, W2.cell? ⟨w.heap.size, cs.length * 2 + 1, none⟩ = some v := ⟨_, boxed_cell hG2 (Array.getElem?_eq_getElem (by omega))⟩
  obtain ⟨x2, u2⟩ : ∃ v, W2.cell? ⟨w.heap.size, (cs.length + 1) * 2 + 1, none⟩ = some v := ⟨_, boxed_cell hG2 (Array.getElem?_eq_getElem (by omega))⟩
  have hfr : ∀ o, W2.frozen? ⟨w.heap.size, o, none⟩ = false := fun o => boxed_frozen hG2
  have hne : ¬ cs.length * 2 + 1 = (cs.length + 1) * 2 + 1 := by omega
  have HG2 : Hid _ := hG2
  clear hG2
  have hnil := fun (x : Option Addr) (l c : Nat) (W : World) => Lib.run_eql_slice_nil (P := Try.prog) W 39 41 x l c 0 0 Try.underlying39
  obtain ⟨W3, hW3⟩ : ∃ W3, W3 = (W2.setCell ⟨w.heap.size, cs.length * 2 + 1, none⟩ (.string ⟨#[98, 101, 121, 111, 110, 100]⟩)).setCell ⟨w.heap.size, (cs.length + 1) * 2 + 1, none⟩ (.string ⟨#[98, 101, 121, 111, 110, 100]⟩) := ⟨_, rfl⟩
  have hG3 : W3.heap[w.heap.size]? = some (.cells ((A.setIfInBounds (cs.length * 2 + 1) (.string ⟨#[98, 101, 121, 111, 110, 100]⟩)).setIfInBounds ((cs.length + 1) * 2 + 1) (.string ⟨#[98, 101, 121, 111, 110, 100]⟩)) 41 (0, 0)) := by
    rw [hW3]; exact block_set (block_set HG2.out _) _
  have hB3 : Below w.heap.size w W3 := by
    rw [hW3]; exact (hB2.setCell (p := ⟨w.heap.size, cs.length * 2 + 1, none⟩) (by simp) _).setCell (p := ⟨w.heap.size, (cs.length + 1) * 2 + 1, none⟩) (by simp) _
  have hs3 : W3.heap.size = w.heap.size + 1 := by
    rw [hW3]
    simp only [World.size_setCell]
    exact hs2
  have hRG : Cls W3.heap.size W3 (.slice (some ⟨w.heap.size, 0, none⟩) cs.length (cs.length + 2)) cs := by
    refine Cls.of_block hG3 (fun j hj => ?_) _
    rw [Array.getElem?_setIfInBounds_ne (by omega), Array.getElem?_setIfInBounds_ne (by omega), ← HA.out]
    rw [List.getElem?_toArray, List.getElem?_append_left (by rw [clVals_length]; exact hj)]
  have hz1' : ((A.setIfInBounds (cs.length * 2 + 1) (.string ⟨#[98, 101, 121, 111, 110, 100]⟩)).setIfInBounds ((cs.length + 1) * 2 + 1) (.string ⟨#[98, 101, 121, 111, 110, 100]⟩))[cs.length * 2 + 1]? = some (.string ⟨#[98, 101, 121, 111, 110, 100]⟩) := by
    rw [Array.getElem?_setIfInBounds_ne (by omega), Array.getElem?_setIfInBounds, if_pos rfl, if_pos (by omega)]
  have hz2' : ((A.setIfInBounds (cs.length * 2 + 1) (.string ⟨#[98, 101, 121, 111, 110, 100]⟩)).setIfInBounds ((cs.length + 1) * 2 + 1) (.string ⟨#[98, 101, 121, 111, 110, 100]⟩))[(cs.length + 1) * 2 + 1]? = some (.string ⟨#[98, 101, 121, 111, 110, 100]⟩) := by
    rw [Array.getElem?_setIfInBounds, if_pos rfl, if_pos (by rw [Array.size_setIfInBounds]; omega)]
  have hRs : Cls W3.heap.size W3 (.slice a cs.length cap) cs := hR.moved hB3
  have HG3 : Hid _ := hG3
  have HRG : Hid (∀ W, Below W3.heap.size W3 W → Cls W.heap.size W (.slice (some ⟨w.heap.size, 0, none⟩) cs.length (cs.length + 2)) cs) := fun W h => hRG.moved h
  have HRs : Hid (∀ W, Below W3.heap.size W3 W → Cls W.heap.size W (.slice a cs.length cap) cs) := fun W h => hRs.moved h
  have HE : Hid (∀ W, Below W3.heap.size W3 W → W.cell? ⟨w.heap.size, cs.length * 2 + 1, none⟩ = some (.string ⟨#[98, 101, 121, 111, 110, 100]⟩) ∧ W.cell? ⟨w.heap.size, (cs.length + 1) * 2 + 1, none⟩ = some (.string ⟨#[98, 101, 121, 111, 110, 100]⟩)) := fun W h => ⟨boxed_cell ((h.block _ (by omega)).trans HG3.out) hz1', boxed_cell ((h.block _ (by omega)).trans HG3.out) hz2'⟩
  have HB3 : Hid _ := hB3
  have HRA : Hid (∀ W sv, Cls W.heap.size W sv cs → _) := fun W sv h => rapply l sv cs W hl h (by omega)
  have HPA : Hid (∀ W sv, Cls W.heap.size W sv cs → _) := fun W sv h => papply l sv cs W hl h (by omega)
  have HN := resA_len l cs
  have HT : Hid (∀ w e w', ToldA l cs w e w' → _) := fun w e w' h => toldA_shape h
  clear hG3 hRG hRs hB3 HG2 HA HM hB2 harr hMs hz1' hz2' HG3
  generalize resA l cs = R at *
  obtain ⟨os, k⟩ := R
  simp only at HN HT
  go_enter Try.func5, Try.ntmps5
  go_wp2_with fail
  rw [← hW3]
  clear hmk hcp u1 u2 hfr hW3 hs2 hi hz0 hz1 hz2
  refine (HRA.out W3 _ (HRs.out _ (Below.refl _ _))).mono ?_
  rintro e w4 h4
  obtain ⟨aw, cw, rfl, ow, g4⟩ := HT.out _ _ _ h4
  have OW : Hid (∀ W, Below w4.heap.size w4 W → Cls W.heap.size W (.slice aw os.length cw) os) := fun W h => (OwnsC.cls ow).moved h
  have B4 : Hid (Below W3.heap.size W3 w4) := below_of_grown g4
  have z4 : W3.heap.size ≤ w4.heap.size := g4.size
  clear h4 ow g4
  cases a with
  | none =>
    have hcs : cs = [] := by
      rcases hR with ⟨h0, _⟩ | ⟨b', off', cap', e, _⟩
      · exact h0
      · simp only [Value.slice.injEq] at e; cases e.1
    have HARG : Hid (∀ W, Below W3.heap.size W3 W → Cls W.heap.size W (.slice none 0 0) cs) := fun W _ => .inl ⟨hcs, none, 0, rfl⟩
    clear hR hcs
    go_wp2_with fail
    refine (HPA.out w4 _ (HARG.out w4 B4.out)).mono ?_
    rintro e w5 h5
    obtain ⟨ax, cx, rfl, ox, g5⟩ := HT.out _ _ _ h5
    have B5 : Hid (Below w4.heap.size w4 w5) := below_of_grown g5
    have z5 : w4.heap.size ≤ w5.heap.size := g5.size
    have OX : Hid _ := ox
    clear h5 ox g5
    go_wp2_with fail
    refine (sameC_any _ _ os w5 (OwnsC.cls OX.out) (OW.out w5 B5.out) (by omega)).mono ?_
    rintro e w5' ⟨rfl, n5, h5'⟩
    have O5 : Hid (OwnsC w4.heap.size w5' (.slice ax os.length cx) os) := by rw [h5']; exact OX.out
    have B5' : Hid (Below w4.heap.size w4 w5') := by rw [h5']; exact below_drewN B5.out n5
    have z5' : w4.heap.size ≤ w5'.heap.size := B5'.out.size
    clear h5' OX B5
    go_wp2_with fail
    refine (ownCells_any _ os _ w4.heap.size w5' O5.out (by omega) (by omega)).mono ?_
    rintro e w6 ⟨one, rfl, m6, g6⟩
    have M6 : Hid _ := m6
    have B6 : Hid (Below w4.heap.size w4 w6) := B5'.out.grown g6 (by omega) (OwnsC.own_ge O5.out)
    have z6 : w5'.heap.size ≤ w6.heap.size := g6.size
    have A6 : Hid (Below W3.heap.size W3 w6) := B4.out.trans (B6.out.mono z4)
    clear m6 g6 O5
    go_wp2_with fail
    refine (HPA.out w6 _ (HARG.out w6 A6.out)).mono ?_
    rintro e w7 h7
    obtain ⟨ay, cy, rfl, oy, g7⟩ := HT.out _ _ _ h7
    have B7 : Hid (Below w6.heap.size w6 w7) := below_of_grown g7
    have z7 : w6.heap.size ≤ w7.heap.size := g7.size
    have OY : Hid _ := oy
    clear h7 oy g7
    go_wp2_with fail
    refine (sameC_any _ _ os w7 (OwnsC.cls OY.out) (OW.out w7 (B6.out.trans (B7.out.mono (by omega)))) (by omega)).mono ?_
    rintro e w7' ⟨rfl, n7, h7'⟩
    have O7 : Hid (OwnsC w6.heap.size w7' (.slice ay os.length cy) os) := by rw [h7']; exact OY.out
    have B7' : Hid (Below w6.heap.size w6 w7') := by rw [h7']; exact below_drewN B7.out n7
    have z7' : w6.heap.size ≤ w7'.heap.size := B7'.out.size
    clear h7' OY B7
    go_wp2_with fail
    refine (ownCells_any _ os _ w6.heap.size w7' O7.out (by omega) (by omega)).mono ?_
    rintro e w8 ⟨two, rfl, m8, g8⟩
    have M8 : Hid _ := m8
    have B8 : Hid (Below w6.heap.size w6 w8) := B7'.out.grown g8 (by omega) (OwnsC.own_ge O7.out)
    have z8 : w7'.heap.size ≤ w8.heap.size := g8.size
    clear m8 g8 O7
    go_wp2_with fail
    refine (keptCells_any one _ os.length w6.heap.size w8 (MarkedC.below M6.out B8.out) (by omega)).mono ?_
    rintro e w9 ⟨rfl, g9⟩
    have G9 : Hid _ := g9
    have z9 : w8.heap.size ≤ w9.heap.size := g9.size
    clear g9
    go_wp2_with fail
    refine (keptCells_any two _ os.length w8.heap.size w9 (MarkedC.below M8.out (below_of_grown G9.out)) (by omega)).mono ?_
    rintro e w10 ⟨rfl, g10⟩
    have A10 : Hid (Below W3.heap.size W3 w10) := (A6.out.trans (B8.out.mono (by omega))).grown (gtrans G9.out g10) (by omega) (by simp)
    clear g10
    go_wp2_with fail
    refine (sameC_any _ _ cs w10 (HRG.out _ A10.out) (HRs.out _ A10.out) (by omega)).mono ?_
    rintro e w11 ⟨rfl, n11, h11⟩
    have A11 : Hid (Below W3.heap.size W3 w11) := by rw [h11]; exact below_drewN A10.out n11
    obtain ⟨e1, e2⟩ := HE.out w11 A11.out
    clear h11
    go_wp2
    go_ret
    exact ⟨rfl, gtrans (gbelow HB3.out) (gbelow A11.out)⟩
  | some ad =>
    have HARG : Hid (∀ W, Below W3.heap.size W3 W → Cls W.heap.size W (.slice (some ⟨w.heap.size, 0, none⟩) cs.length (cs.length + 2)) cs) := HRG.out
    clear hR
    go_wp2_with fail
    refine (HPA.out w4 _ (HARG.out w4 B4.out)).mono ?_
    rintro e w5 h5
    obtain ⟨ax, cx, rfl, ox, g5⟩ := HT.out _ _ _ h5
    have B5 : Hid (Below w4.heap.size w4 w5) := below_of_grown g5
    have z5 : w4.heap.size ≤ w5.heap.size := g5.size
    have OX : Hid _ := ox
    clear h5 ox g5
    go_wp2_with fail
    refine (sameC_any _ _ os w5 (OwnsC.cls OX.out) (OW.out w5 B5.out) (by omega)).mono ?_
    rintro e w5' ⟨rfl, n5, h5'⟩
    have O5 : Hid (OwnsC w4.heap.size w5' (.slice ax os.length cx) os) := by rw [h5']; exact OX.out
    have B5' : Hid (Below w4.heap.size w4 w5') := by rw [h5']; exact below_drewN B5.out n5
    have z5' : w4.heap.size ≤ w5'.heap.size := B5'.out.size
    clear h5' OX B5
    go_wp2_with fail
    refine (ownCells_any _ os _ w4.heap.size w5' O5.out (by omega) (by omega)).mono ?_
    rintro e w6 ⟨one, rfl, m6, g6⟩
    have M6 : Hid _ := m6
    have B6 : Hid (Below w4.heap.size w4 w6) := B5'.out.grown g6 (by omega) (OwnsC.own_ge O5.out)
    have z6 : w5'.heap.size ≤ w6.heap.size := g6.size
    have A6 : Hid (Below W3.heap.size W3 w6) := B4.out.trans (B6.out.mono z4)
    clear m6 g6 O5
    go_wp2_with fail
    refine (HPA.out w6 _ (HARG.out w6 A6.out)).mono ?_
    rintro e w7 h7
    obtain ⟨ay, cy, rfl, oy, g7⟩ := HT.out _ _ _ h7
    have B7 : Hid (Below w6.heap.size w6 w7) := below_of_grown g7
    have z7 : w6.heap.size ≤ w7.heap.size := g7.size
    have OY : Hid _ := oy
    clear h7 oy g7
    go_wp2_with fail
    refine (sameC_any _ _ os w7 (OwnsC.cls OY.out) (OW.out w7 (B6.out.trans (B7.out.mono (by omega)))) (by omega)).mono ?_
    rintro e w7' ⟨rfl, n7, h7'⟩
    have O7 : Hid (OwnsC w6.heap.size w7' (.slice ay os.length cy) os) := by rw [h7']; exact OY.out
    have B7' : Hid (Below w6.heap.size w6 w7') := by rw [h7']; exact below_drewN B7.out n7
    have z7' : w6.heap.size ≤ w7'.heap.size := B7'.out.size
    clear h7' OY B7
    go_wp2_with fail
    refine (ownCells_any _ os _ w6.heap.size w7' O7.out (by omega) (by omega)).mono ?_
    rintro e w8 ⟨two, rfl, m8, g8⟩
    have M8 : Hid _ := m8
    have B8 : Hid (Below w6.heap.size w6 w8) := B7'.out.grown g8 (by omega) (OwnsC.own_ge O7.out)
    have z8 : w7'.heap.size ≤ w8.heap.size := g8.size
    clear m8 g8 O7
    go_wp2_with fail
    refine (keptCells_any one _ os.length w6.heap.size w8 (MarkedC.below M6.out B8.out) (by omega)).mono ?_
    rintro e w9 ⟨rfl, g9⟩
    have G9 : Hid _ := g9
    have z9 : w8.heap.size ≤ w9.heap.size := g9.size
    clear g9
    go_wp2_with fail
    refine (keptCells_any two _ os.length w8.heap.size w9 (MarkedC.below M8.out (below_of_grown G9.out)) (by omega)).mono ?_
    rintro e w10 ⟨rfl, g10⟩
    have A10 : Hid (Below W3.heap.size W3 w10) := (A6.out.trans (B8.out.mono (by omega))).grown (gtrans G9.out g10) (by omega) (by simp)
    clear g10
    go_wp2_with fail
    refine (sameC_any _ _ cs w10 (HRG.out _ A10.out) (HRs.out _ A10.out) (by omega)).mono ?_
    rintro e w11 ⟨rfl, n11, h11⟩
    have A11 : Hid (Below W3.heap.size W3 w11) := by rw [h11]; exact below_drewN A10.out n11
    obtain ⟨e1, e2⟩ := HE.out w11 A11.out
    clear h11
    go_wp2
    go_ret
    exact ⟨rfl, gtrans (gbelow HB3.out) (gbelow A11.out)⟩
end Go.Proofs.Ytpopjmkipddpgaa
