/- PApply, LApplies, LApplies2, LApplies3 -/
import Derived.Test.YtkmeingnhaomaaaPChg
/- The program's Apply. -/
namespace Go.Proofs.Ytkmeingnhaomaaa
open Go.RowKit Go.Shelf

theorem saidR_none (n z : Int) : ∀ (rs : List Rc) (last : Int) (i : Int), recsOk n z last rs = true → i ≤ last → saidR rs i = none
  | [], _, _, _, _ => rfl
  | r :: rs, last, i, h, hi => by
    rw [recsOk, Bool.and_eq_true] at h
    obtain ⟨a1, a2, a3⟩ := of_decide_eq_true h.1
    have ih := saidR_none n z rs r.block i h.2 (by omega)
    unfold saidR at *
    rw [List.find?_cons_of_neg (by simp; omega)]
    exact ih
theorem setAll_at (n z : Int) : ∀ (rs : List Rc) (last : Int) (cs : List Cl) (i : Nat) (h : i < cs.length), -1 ≤ last → recsOk n z last rs = true → (setAll cs rs)[i]? = some (chg rs i cs[i])
  | [], last, cs, i, h, _, _ => by
    show cs[i]? = _
    rw [List.getElem?_eq_getElem h]
    rfl
  | r :: rs, last, cs, i, h, hl, hok => by
    rw [recsOk, Bool.and_eq_true] at hok
    obtain ⟨a1, a2, a3⟩ := of_decide_eq_true hok.1
    have ih := setAll_at n z rs r.block (cs.set r.block.toNat ⟨!r.free, r.data⟩) i (by rw [List.length_set]; exact h) (by omega) hok.2
    show (setAll (cs.set r.block.toNat ⟨!r.free, r.data⟩) rs)[i]? = _
    rw [ih]
    congr 1
    by_cases hi : (i : Int) = r.block
    · have e1 : saidR rs i = none := saidR_none n z rs r.block i hok.2 (by omega)
      have e2 : saidR (r :: rs) i = some r := by
        unfold saidR
        rw [List.find?_cons_of_pos (by simp; omega)]
      have hn : r.block.toNat = i := by omega
      unfold chg
      rw [e1, e2]
      simp only [hn, List.getElem_set_self]
      cases hf : r.free with
      | true =>
        rw [hf, if_pos rfl] at a3
        rw [empty_of_size r.data (by omega)]
        rfl
      | false => rfl
    · have e2 : saidR (r :: rs) i = saidR rs i := by
        unfold saidR
        rw [List.find?_cons_of_neg (by simp; omega)]
      unfold chg
      rw [e2, List.getElem_set_ne (by omega)]
theorem setAll_out (n z : Int) (rs : List Rc) (cs : List Cl) (h : recsOk n z (-1) rs = true) : setAll cs rs = outR rs cs := by
  apply List.ext_getElem?
  intro i
  by_cases hi : i < cs.length
  · rw [setAll_at n z rs (-1) cs i hi (by omega) h]
    simp [outR, hi]
  · rw [List.getElem?_eq_none (by rw [setAll_length]; omega), List.getElem?_eq_none (by simp [outR]; omega)]

set_option maxRecDepth 100000 in
set_option maxHeartbeats 2000000 in
theorem papply (l : List UInt8) (sv : Value) (cs : List Cl) (w : World) (hl : l.length ≤ 4611686018427387904) (hc : Cls w.heap.size w sv cs) (hcl : cs.length ≤ 4611686018427387904) :
    Calls Try.prog 22 #[.string ⟨l.toArray⟩, sv] w (ToldA l cs w) := by
  obtain ⟨a, cp, rfl⟩ := hc.slice
  have HC : Hid (∀ W, w.grownBy W none → _) := fun W h => Cls.moved hc (below_of_grown h)
  have HP : Hid (∀ W, _) := fun W => pparse l W hl
  clear hc
  go_enter Try.func22, Try.ntmps22
  go_wp2_with fail
  refine (HP.out _).mono ?_
  rintro e w1 ⟨hg1, (⟨k, hk, rfl⟩ | ⟨f, t, b, z, rs, v, hk, rfl, hown⟩)⟩
  · have hke := parse_err l k hk
    have e1 : (k != 0) = true := by simp; omega
    have HA : Hid (applyR l cs = .inl k) := by
      show _ = _
      unfold applyR
      rw [hk]
    have G1 : Hid _ := hg1
    clear hk hg1 hke
    go_wp2
    refine bodyPost_ret (results_tmp2 rfl _ _ _) rfl ?_
    exact ⟨gallocR G1.out _, .inl ⟨k, HA.out, rfl⟩⟩
  obtain ⟨-, hw, ho⟩ := parse_exact l f t b z rs hk
  obtain ⟨h1, h2, h3, h4, h5, h6, h7, h8, h9⟩ : (0 : Int) ≤ f ∧ (f : Int) ≤ 2147483647 ∧ (1 : Int) ≤ t ∧ (t : Int) ≤ 2147483647 ∧ (f : Int) ≠ t ∧ (1 : Int) ≤ b ∧ (b : Int) ≤ 100 ∧ (1 : Int) ≤ z ∧ (z : Int) ≤ 64 := of_decide_eq_true hw
  obtain ⟨av, lv, cv, rfl⟩ := hown.slice
  obtain ⟨W1, hW1⟩ : ∃ W1, W1 = w1.alloc (.cells #[.int .i64 f, .int .i64 t, .int .i64 b, .int .i64 z, .slice av lv cv] 24) := ⟨_, rfl⟩
  have s1 : Hid (W1.heap[w1.heap.size]? = some (.cells #[.int .i64 f, .int .i64 t, .int .i64 b, .int .i64 z, .slice av lv cv] 24 (0, 0))) := by rw [hW1]; exact World.alloc_heap_new _ _
  have g1 : Hid (w.grownBy W1 none) := by rw [hW1]; exact gallocR hg1 _
  have R1 : Hid (Recs W1.heap.size W1 (.slice av lv cv) rs) := by rw [hW1]; exact (OwnsR.alloc hown _).recs
  have HK : Hid _ := hk
  have HOK : Hid _ := ho
  clear hg1 hown hk hw h1 h2 h3 h4 h5 h6 h8 ho
  go_wp2_with fail
  rw [← hW1]
  clear hW1
  refine (isVolume_any _ cs b z W1 (HC.out _ g1.out) (by omega) (by omega)).mono ?_
  rintro e w2 ⟨rfl, g2⟩
  have G2 : Hid (w.grownBy w2 none) := gtrans g1.out g2
  obtain ⟨c0, c1, c2, c3, c4, -⟩ := box5 (box_kept s1.out g2).1
  have R2 : Hid (Recs w2.heap.size w2 (.slice av lv cv) rs) := Recs.moved R1.out (below_of_grown g2)
  clear g2
  cases hv : volOk cs b z with
  | false =>
    have HA : Hid (applyR l cs = .inl 1) := by
      show _ = _
      unfold applyR
      rw [HK.out]
      simp only [hv]
      rfl
    clear hv
    go_wp2
    refine bodyPost_ret (results_tmp2 rfl _ _ _) rfl ?_
    exact ⟨G2.out, .inl ⟨1, HA.out, rfl⟩⟩
  | true =>
    have hv' := hv
    simp only [volOk, Bool.and_eq_true, decide_eq_true_eq, List.all_eq_true] at hv'
    obtain ⟨hcb, hcd⟩ := hv'
    have hd : ∀ c ∈ cs, c.data.size ≤ 100000 := fun c hc => by
      have := hcd c hc
      split at this <;> omega
    have HA : Hid (applyR l cs = .inr (outR rs cs)) := by
      show _ = _
      unfold applyR
      rw [HK.out]
      simp only [hv]
      rfl
    subst hcb
    clear hv HK hcd
    go_wp2_with fail
    refine (values_any av lv cv w2).mono ?_
    rintro e W3 ⟨rfl, hW3⟩
    have b3 : W3.heap[w2.heap.size]? = some (.cells #[.slice av lv cv] 22 (0, 0)) := by rw [hW3]; exact World.alloc_heap_new _ _
    have g3 : w2.grownBy W3 none := by rw [hW3]; exact galloc _ _ _
    have HCH : Hid (∀ u : Unit, _) := fun _ => changed_any (.slice a cs.length cp) cs w2.heap.size (.slice av lv cv) rs W3 (HC.out _ (gtrans G2.out g3)) (by omega) hd b3 (Recs.moved R2.out (below_of_grown g3)) z HOK.out
    have HSO : Hid _ := setAll_out cs.length z rs cs HOK.out
    have G3 : Hid (w.grownBy W3 none) := gtrans G2.out g3
    clear hW3 b3 g3 hd
    go_wp2_with fail
    refine (HCH.out ()).mono ?_
    rintro e w4 ⟨v4, rfl, o4, g4⟩
    rw [HSO.out] at o4
    obtain ⟨a4, l4, c4', rfl⟩ := OwnsC.slice3 o4
    have O4 : Hid _ := o4
    have G4 : Hid _ := g4
    clear o4 g4
    go_wp2
    refine bodyPost_ret (results_tmp2 rfl _ _ _) rfl ?_
    refine ⟨gtrans G3.out G4.out, .inr ⟨_, _, HA.out, rfl, ?_⟩⟩
    exact OwnsC.base O4.out G3.out.size
end Go.Proofs.Ytkmeingnhaomaaa
/- The walk of Applies. -/
namespace Go.Proofs.Ytkmeingnhaomaaa
open Go.RowKit Go.Shelf

/-- All cells of a slice of blocks. -/
theorem Cls.cells {B : Nat} {W : World} {b off l cap : Nat} {cs : List Cl} (h : Cls B W (.slice (some ⟨b, off, none⟩) l cap) cs) : ∀ j v, (clVals cs)[j]? = some v → W.cell? ⟨b, off + j, none⟩ = some v := by
  intro j v hj
  have hlt : j < cs.length * 2 := by rw [← clVals_length]; exact (List.getElem?_eq_some_iff.1 hj).1
  obtain ⟨b', off', e, _, q0, q1⟩ := h.at (k := j / 2) (by omega)
  simp only [Option.some.injEq, Addr.mk.injEq] at e
  obtain ⟨rfl, rfl, _⟩ := e
  obtain ⟨p0, p1⟩ := clVals_at cs (j / 2) (by omega)
  have hm : j % 2 = 0 ∨ j % 2 = 1 := by omega
  rcases hm with hm | hm
  · have e : j = j / 2 * 2 := by omega
    rw [e] at hj ⊢
    rw [p0] at hj; cases hj; exact q0
  · have e : j = j / 2 * 2 + 1 := by omega
    rw [e] at hj ⊢
    rw [p1] at hj; cases hj; exact q1
theorem run_copy_cls (w : World) (ty : TypeId) (g dLen dCap : Nat) (sv : Value) (cs : List Cl) (cur : Array Value) (hg : w.heap[g]? = some (.cells cur 41 (0, 0))) (hR : Cls w.heap.size w sv cs) (hd : cs.length ≤ dLen) (hfit : cs.length * 2 ≤ cur.size) :
    (Builtin.copy_ #[39, 39] ty #[.slice (some ⟨g, 0, none⟩) dLen dCap, sv]).run Try.prog w = .ok (goInt cs.length) (w.setRow g (clVals cs ++ cur.toList.drop (cs.length * 2)).toArray) := by
  obtain ⟨i0, hi, hz0, hz1, hz2⟩ := info_parts Try.infoCl
  obtain ⟨a, cap, rfl⟩ := hR.slice
  have hst := run_storeCells_at Try.prog g 0 41 (clVals cs) 0 cur w hg (by rw [clVals_length]; omega) (clVals_one cs)
  have hl : (Builtin.firstCells 2 cs.length (.slice a cs.length cap)).run Try.prog w = .ok (clVals cs).toArray w := by
    cases cs with
    | nil =>
      cases a with
      | none => simp [Builtin.firstCells, clVals]
      | some ad => simp [Builtin.firstCells, clVals, loadCells, loadCellsFrom]
    | cons r cs' =>
      obtain ⟨b, off, e, _⟩ := hR.at (k := 0) (by simp)
      subst e
      have := run_loadCells_list (P := Try.prog) w ⟨b, off, none⟩ (clVals (r :: cs')) (fun j v hj => by
        rw [Addr.add_lit]; exact hR.cells j v hj)
      rw [clVals_length] at this
      simpa [Builtin.firstCells] using this
  have hm : min cs.length dLen = cs.length := Nat.min_eq_left hd
  simp only [Nat.add_zero, Nat.zero_add, List.take_zero, List.nil_append, clVals_length] at hst
  simp [Builtin.copy_, run_underlying Try.underlying39, Builtin.lenOf, sizeOf, typeInfo, hi, hz1, hm, hl, hst]
theorem Cls.of_block {W : World} {g : Nat} {cur : Array Value} {t : TypeId} {cs : List Cl} (h : W.heap[g]? = some (.cells cur t (0, 0))) (hc : ∀ j, j < cs.length * 2 → cur[j]? = (clVals cs)[j]?) (cap : Nat) : Cls W.heap.size W (.slice (some ⟨g, 0, none⟩) cs.length cap) cs := by
  refine .inr ⟨g, 0, cap, rfl, (Array.getElem?_eq_some_iff.1 h).1, fun j hj => ?_⟩
  obtain ⟨p0, p1⟩ := clVals_at cs j hj
  refine ⟨boxed_cell h ?_, boxed_cell h ?_⟩
  · rw [hc _ (by omega), Nat.zero_add]; exact p0
  · rw [hc _ (by omega), Nat.zero_add]; exact p1

/-- What Apply tells, in one shape. -/
def resA (l : List UInt8) (cs : List Cl) : List Cl × Int :=
  match applyR l cs with
  | .inl k => ([], k)
  | .inr os => (os, 0)
theorem resA_len (l : List UInt8) (cs : List Cl) : (resA l cs).1.length ≤ 100 := by
  unfold resA applyR
  cases h : parseR l with
  | inl k => simp
  | inr v =>
    obtain ⟨f, t, b, z, rs⟩ := v
    obtain ⟨_, hw, ho⟩ := parse_exact l f t b z rs h
    obtain ⟨h1, h2, h3, h4, h5, h6, h7, h8, h9⟩ : (0 : Int) ≤ f ∧ (f : Int) ≤ 2147483647 ∧ (1 : Int) ≤ t ∧ (t : Int) ≤ 2147483647 ∧ (f : Int) ≠ t ∧ (1 : Int) ≤ b ∧ (b : Int) ≤ 100 ∧ (1 : Int) ≤ z ∧ (z : Int) ≤ 64 := of_decide_eq_true hw
    simp only
    cases hv : volOk cs b z with
    | false => simp
    | true =>
      simp only [volOk, Bool.and_eq_true, decide_eq_true_eq] at hv
      simp [outR]
      omega
theorem toldA_shape {l : List UInt8} {cs : List Cl} {w w' : World} {e : Ending} (h : ToldA l cs w e w') :
    ∃ a c, e = .returned (.tuple #[.slice a (resA l cs).1.length c, .int .i64 (resA l cs).2]) ∧ OwnsC w.heap.size w' (.slice a (resA l cs).1.length c) (resA l cs).1 ∧ w.grownBy w' none := by
  obtain ⟨hg, (⟨k, hk, rfl⟩ | ⟨os, v, hk, rfl, ho⟩)⟩ := h
  · have : resA l cs = ([], k) := by unfold resA; rw [hk]
    rw [this]
    exact ⟨none, 0, rfl, World.ownsRow_nil _ _ _ _, hg⟩
  · have : resA l cs = (os, 0) := by unfold resA; rw [hk]
    rw [this]
    obtain ⟨a, c, rfl⟩ := ho.slice
    exact ⟨a, c, rfl, ho, hg⟩
end Go.Proofs.Ytkmeingnhaomaaa
/- The walk of Applies: on. -/
namespace Go.Proofs.Ytkmeingnhaomaaa
open Go.RowKit Go.Shelf

theorem below_drewN {N : Nat} {A W : World} (h : Below N A W) (n : Nat) : Below N A (W.drewN n) := ⟨h.os, h.tape, h.output, h.size, h.block⟩

set_option maxRecDepth 100000 in
set_option maxHeartbeats 4000000 in
theorem applies_walk (l : List UInt8) (sv : Value) (cs : List Cl) (w : World) (hl : l.length ≤ 4611686018427387904) (hR : Cls w.heap.size w sv cs) (hlen : cs.length * 24 ≤ 140737488355328) :
    Calls Try.prog 5 #[.string ⟨l.toArray⟩, sv] w fun e w' => e = .returned (.bool true) ∧ w.grownBy w' none := by
  obtain ⟨i0, hi, hz0, hz1, hz2⟩ := info_parts Try.infoCl
  obtain ⟨a, cap, rfl⟩ := hR.slice
  have hmk : ∀ W : World, (Instr.makeSlice 39 (.int .i64 (cs.length + 2)) (.int .i64 (cs.length + 2))).run Try.prog W = .ok (.slice (some ⟨W.heap.size, 0, none⟩) (cs.length + 2) (cs.length + 2)) (W.alloc (.cells (madeCells (Value.agg #[.bool false, .string ⟨#[]⟩]).cells ((cs.length + 2) * 2)) 41)) := by
    intro W
    have := run_make (P := Try.prog) W 39 41 i0 _ Try.underlying39 hi hz0 .i64 .i64 ((cs.length : Int) + 2) ((cs.length : Int) + 2) (by omega) (Int.le_refl _) (by rw [hz2]; omega) (by omega)
    rw [hz1, show ((cs.length : Int) + 2).toNat = cs.length + 2 from by omega] at this
    exact this
  obtain ⟨M, hM⟩ : ∃ M, M = madeCells (Value.agg #[.bool false, .string ⟨#[]⟩]).cells ((cs.length + 2) * 2) := ⟨_, rfl⟩
  have hMs : M.size = (cs.length + 2) * 2 := by rw [hM]; exact size_madeCells _ _
  have hB1 : Below w.heap.size w (w.alloc (.cells M 41)) := (Below.refl _ _).alloc (Nat.le_refl _) _
  have hG1 : (w.alloc (.cells M 41)).heap[w.heap.size]? = some (.cells M 41 (0, 0)) := World.alloc_heap_new _ _
  have hcp := run_copy_cls (w.alloc (.cells M 41)) 3 w.heap.size (cs.length + 2) (cs.length + 2) (.slice a cs.length cap) cs M hG1 (hR.moved hB1) (by omega) (by omega)
  obtain ⟨W2, hW2⟩ : ∃ W2, W2 = (w.alloc (.cells M 41)).setRow w.heap.size (clVals cs ++ M.toList.drop (cs.length * 2)).toArray := ⟨_, rfl⟩
  have hG2 : W2.heap[w.heap.size]? = some (.cells (clVals cs ++ M.toList.drop (cs.length * 2)).toArray 41 (0, 0)) := by
    rw [hW2]; exact setRow_heap _ _ _ _ _ _ hG1
  have hB2 : Below w.heap.size w W2 := by
    rw [hW2]; exact hB1.trans ⟨rfl, rfl, rfl, by simp [World.setRow], fun k hk => setRow_other _ _ _ _ (by omega)⟩
  have hs2 : W2.heap.size = w.heap.size + 1 := by rw [hW2]; simp [World.setRow]
  rw [← hW2] at hcp
  rw [← hM] at hmk
  have HM : Hid _ := hM
  clear hW2 hG1 hB1 hM
  have harr : (clVals cs ++ M.toList.drop (cs.length * 2)).toArray.size = (cs.length + 2) * 2 := by
    simp [clVals_length, hMs]; omega
  generalize hA : (clVals cs ++ M.toList.drop (cs.length * 2)).toArray = A at *
  have HA : Hid _ := hA
  clear hA
  obtain ⟨x1, u1⟩ : ∃ v, W2.cell? ⟨w.heap.size, cs.length * 2 + 1, none⟩ = some v := ⟨_, boxed_cell hG2 (Array.getElem?_eq_getElem (by omega))⟩
  obtain ⟨x2, u2⟩ : ∃ v, W2.cell? ⟨w.heap.size, (cs.length + 1) * 2 + 1, none⟩ = some v := ⟨_, boxed_cell hG2 (Array.getElem?_eq_getElem (by omega))⟩
  have hfr : ∀ o, W2.frozen? ⟨w.heap.size, o, none⟩ = false := fun o => boxed_frozen hG2
  have hne : ¬ cs.length * 2 + 1 = (cs.length + 1) * 2 + 1 := by omega
  have HG2 : Hid _ := hG2
  clear hG2
  have hnil := fun (x : Option Addr) (l c : Nat) (W : World) => Lib.run_eql_slice_nil (P := Try.prog) W 39 41 x l c 0 0 Try.underlying39
  obtain ⟨W3, hW3⟩ : ∃ W3, W3 = (W2.setCell ⟨w.heap.size, cs.length * 2 + 1, none⟩ (.string ⟨#[98, 101, 121, 111, 110, 100]⟩)).setCell ⟨w.heap.size, (cs.length + 1) * 2 + 1, none⟩ (.string ⟨#[98, 101, 121, 111, 110, 100]⟩) := ⟨_, rfl⟩
  have hG3 : W3.heap[w.heap.size]? = some (.cells ((A.setIfInBounds (cs.length * 2 + 1) (.string ⟨#[98, 101, 121, 111, 110, 100]⟩)).setIfInBounds ((cs.length + 1) * 2 + 1) (.string ⟨#[98, 101, 121, 111, 110, 100]⟩)) 41 (0, 0)) := by
    rw [hW3]; exact block_set (block_set HG2.out _) _
  have hB3 : Below w.heap.size w W3 := by
    rw [hW3]; exact (hB2.setCell (p := ⟨w.heap.size, cs.length * 2 + 1, none⟩) (by simp) _).setCell (p := ⟨w.heap.size, (cs.length + 1) * 2 + 1, none⟩) (by simp) _
  have hs3 : W3.heap.size = w.heap.size + 1 := by
    rw [hW3]
    simp only [World.size_setCell]
    exact hs2
  have hRG : Cls W3.heap.size W3 (.slice (some ⟨w.heap.size, 0, none⟩) cs.length (cs.length + 2)) cs := by
    refine Cls.of_block hG3 (fun j hj => ?_) _
    rw [Array.getElem?_setIfInBounds_ne (by omega), Array.getElem?_setIfInBounds_ne (by omega), ← HA.out]
    rw [List.getElem?_toArray, List.getElem?_append_left (by rw [clVals_length]; exact hj)]
  have hz1' : ((A.setIfInBounds (cs.length * 2 + 1) (.string ⟨#[98, 101, 121, 111, 110, 100]⟩)).setIfInBounds ((cs.length + 1) * 2 + 1) (.string ⟨#[98, 101, 121, 111, 110, 100]⟩))[cs.length * 2 + 1]? = some (.string ⟨#[98, 101, 121, 111, 110, 100]⟩) := by
    rw [Array.getElem?_setIfInBounds_ne (by omega), Array.getElem?_setIfInBounds, if_pos rfl, if_pos (by omega)]
  have hz2' : ((A.setIfInBounds (cs.length * 2 + 1) (.string ⟨#[98, 101, 121, 111, 110, 100]⟩)).setIfInBounds ((cs.length + 1) * 2 + 1) (.string ⟨#[98, 101, 121, 111, 110, 100]⟩))[(cs.length + 1) * 2 + 1]? = some (.string ⟨#[98, 101, 121, 111, 110, 100]⟩) := by
    rw [Array.getElem?_setIfInBounds, if_pos rfl, if_pos (by rw [Array.size_setIfInBounds]; omega)]
  have hRs : Cls W3.heap.size W3 (.slice a cs.length cap) cs := hR.moved hB3
  have HG3 : Hid _ := hG3
  have HRG : Hid (∀ W, Below W3.heap.size W3 W → Cls W.heap.size W (.slice (some ⟨w.heap.size, 0, none⟩) cs.length (cs.length + 2)) cs) := fun W h => hRG.moved h
  have HRs : Hid (∀ W, Below W3.heap.size W3 W → Cls W.heap.size W (.slice a cs.length cap) cs) := fun W h => hRs.moved h
  have HE : Hid (∀ W, Below W3.heap.size W3 W → W.cell? ⟨w.heap.size, cs.length * 2 + 1, none⟩ = some (.string ⟨#[98, 101, 121, 111, 110, 100]⟩) ∧ W.cell? ⟨w.heap.size, (cs.length + 1) * 2 + 1, none⟩ = some (.string ⟨#[98, 101, 121, 111, 110, 100]⟩)) := fun W h => ⟨boxed_cell ((h.block _ (by omega)).trans HG3.out) hz1', boxed_cell ((h.block _ (by omega)).trans HG3.out) hz2'⟩
  have HB3 : Hid _ := hB3
  have HRA : Hid (∀ W sv, Cls W.heap.size W sv cs → _) := fun W sv h => rapply l sv cs W hl h (by omega)
  have HPA : Hid (∀ W sv, Cls W.heap.size W sv cs → _) := fun W sv h => papply l sv cs W hl h (by omega)
  have HN := resA_len l cs
  have HT : Hid (∀ w e w', ToldA l cs w e w' → _) := fun w e w' h => toldA_shape h
  clear hG3 hRG hRs hB3 HG2 HA HM hB2 harr hMs hz1' hz2' HG3
  generalize resA l cs = R at *
  obtain ⟨os, k⟩ := R
  simp only at HN HT
  go_enter Try.func5, Try.ntmps5
  go_wp2_with fail
  rw [← hW3]
  clear hmk hcp u1 u2 hfr hW3 hs2 hi hz0 hz1 hz2
  refine (HRA.out W3 _ (HRs.out _ (Below.refl _ _))).mono ?_
  rintro e w4 h4
  obtain ⟨aw, cw, rfl, ow, g4⟩ := HT.out _ _ _ h4
  have OW : Hid (∀ W, Below w4.heap.size w4 W → Cls W.heap.size W (.slice aw os.length cw) os) := fun W h => (OwnsC.cls ow).moved h
  have B4 : Hid (Below W3.heap.size W3 w4) := below_of_grown g4
  have z4 : W3.heap.size ≤ w4.heap.size := g4.size
  clear h4 ow g4
  cases a with
  | none =>
    have hcs : cs = [] := by
      rcases hR with ⟨h0, _⟩ | ⟨b', off', cap', e, _⟩
      · exact h0
      · simp only [Value.slice.injEq] at e; cases e.1
    have HARG : Hid (∀ W, Below W3.heap.size W3 W → Cls W.heap.size W (.slice none 0 0) cs) := fun W _ => .inl ⟨hcs, none, 0, rfl⟩
    clear hR hcs
    go_wp2_with fail
    refine (HPA.out w4 _ (HARG.out w4 B4.out)).mono ?_
    rintro e w5 h5
    obtain ⟨ax, cx, rfl, ox, g5⟩ := HT.out _ _ _ h5
    have B5 : Hid (Below w4.heap.size w4 w5) := below_of_grown g5
    have z5 : w4.heap.size ≤ w5.heap.size := g5.size
    have OX : Hid _ := ox
    clear h5 ox g5
    go_wp2_with fail
    refine (sameC_any _ _ os w5 (OwnsC.cls OX.out) (OW.out w5 B5.out) (by omega)).mono ?_
    rintro e w5' ⟨rfl, n5, h5'⟩
    have O5 : Hid (OwnsC w4.heap.size w5' (.slice ax os.length cx) os) := by rw [h5']; exact OX.out
    have B5' : Hid (Below w4.heap.size w4 w5') := by rw [h5']; exact below_drewN B5.out n5
    have z5' : w4.heap.size ≤ w5'.heap.size := B5'.out.size
    clear h5' OX B5
    go_wp2_with fail
    refine (ownCells_any _ os _ w4.heap.size w5' O5.out (by omega) (by omega)).mono ?_
    rintro e w6 ⟨one, rfl, m6, g6⟩
    have M6 : Hid _ := m6
    have B6 : Hid (Below w4.heap.size w4 w6) := B5'.out.grown g6 (by omega) (OwnsC.own_ge O5.out)
    have z6 : w5'.heap.size ≤ w6.heap.size := g6.size
    have A6 : Hid (Below W3.heap.size W3 w6) := B4.out.trans (B6.out.mono z4)
    clear m6 g6 O5
    go_wp2_with fail
    refine (HPA.out w6 _ (HARG.out w6 A6.out)).mono ?_
    rintro e w7 h7
    obtain ⟨ay, cy, rfl, oy, g7⟩ := HT.out _ _ _ h7
    have B7 : Hid (Below w6.heap.size w6 w7) := below_of_grown g7
    have z7 : w6.heap.size ≤ w7.heap.size := g7.size
    have OY : Hid _ := oy
    clear h7 oy g7
    go_wp2_with fail
    refine (sameC_any _ _ os w7 (OwnsC.cls OY.out) (OW.out w7 (B6.out.trans (B7.out.mono (by omega)))) (by omega)).mono ?_
    rintro e w7' ⟨rfl, n7, h7'⟩
    have O7 : Hid (OwnsC w6.heap.size w7' (.slice ay os.length cy) os) := by rw [h7']; exact OY.out
    have B7' : Hid (Below w6.heap.size w6 w7') := by rw [h7']; exact below_drewN B7.out n7
    have z7' : w6.heap.size ≤ w7'.heap.size := B7'.out.size
    clear h7' OY B7
    go_wp2_with fail
    refine (ownCells_any _ os _ w6.heap.size w7' O7.out (by omega) (by omega)).mono ?_
    rintro e w8 ⟨two, rfl, m8, g8⟩
    have M8 : Hid _ := m8
    have B8 : Hid (Below w6.heap.size w6 w8) := B7'.out.grown g8 (by omega) (OwnsC.own_ge O7.out)
    have z8 : w7'.heap.size ≤ w8.heap.size := g8.size
    clear m8 g8 O7
    go_wp2_with fail
    refine (keptCells_any one _ os.length w6.heap.size w8 (MarkedC.below M6.out B8.out) (by omega)).mono ?_
    rintro e w9 ⟨rfl, g9⟩
    have G9 : Hid _ := g9
    have z9 : w8.heap.size ≤ w9.heap.size := g9.size
    clear g9
    go_wp2_with fail
    refine (keptCells_any two _ os.length w8.heap.size w9 (MarkedC.below M8.out (below_of_grown G9.out)) (by omega)).mono ?_
    rintro e w10 ⟨rfl, g10⟩
    have A10 : Hid (Below W3.heap.size W3 w10) := (A6.out.trans (B8.out.mono (by omega))).grown (gtrans G9.out g10) (by omega) (by simp)
    clear g10
    go_wp2_with fail
    refine (sameC_any _ _ cs w10 (HRG.out _ A10.out) (HRs.out _ A10.out) (by omega)).mono ?_
    rintro e w11 ⟨rfl, n11, h11⟩
    have A11 : Hid (Below W3.heap.size W3 w11) := by rw [h11]; exact below_drewN A10.out n11
    obtain ⟨e1, e2⟩ := HE.out w11 A11.out
    clear h11
    go_wp2
    go_ret
    exact ⟨rfl, gtrans (gbelow HB3.out) (gbelow A11.out)⟩
  | some ad =>
    have HARG : Hid (∀ W, Below W3.heap.size W3 W → Cls W.heap.size W (.slice (some ⟨w.heap.size, 0, none⟩) cs.length (cs.length + 2)) cs) := HRG.out
    clear hR
    go_wp2_with fail
    refine (HPA.out w4 _ (HARG.out w4 B4.out)).mono ?_
    rintro e w5 h5
    obtain ⟨ax, cx, rfl, ox, g5⟩ := HT.out _ _ _ h5
    have B5 : Hid (Below w4.heap.size w4 w5) := below_of_grown g5
    have z5 : w4.heap.size ≤ w5.heap.size := g5.size
    have OX : Hid _ := ox
    clear h5 ox g5
    go_wp2_with fail
    refine (sameC_any _ _ os w5 (OwnsC.cls OX.out) (OW.out w5 B5.out) (by omega)).mono ?_
    rintro e w5' ⟨rfl, n5, h5'⟩
    have O5 : Hid (OwnsC w4.heap.size w5' (.slice ax os.length cx) os) := by rw [h5']; exact OX.out
    have B5' : Hid (Below w4.heap.size w4 w5') := by rw [h5']; exact below_drewN B5.out n5
    have z5' : w4.heap.size ≤ w5'.heap.size := B5'.out.size
    clear h5' OX B5
    go_wp2_with fail
    refine (ownCells_any _ os _ w4.heap.size w5' O5.out (by omega) (by omega)).mono ?_
    rintro e w6 ⟨one, rfl, m6, g6⟩
    have M6 : Hid _ := m6
    have B6 : Hid (Below w4.heap.size w4 w6) := B5'.out.grown g6 (by omega) (OwnsC.own_ge O5.out)
    have z6 : w5'.heap.size ≤ w6.heap.size := g6.size
    have A6 : Hid (Below W3.heap.size W3 w6) := B4.out.trans (B6.out.mono z4)
    clear m6 g6 O5
    go_wp2_with fail
    refine (HPA.out w6 _ (HARG.out w6 A6.out)).mono ?_
    rintro e w7 h7
    obtain ⟨ay, cy, rfl, oy, g7⟩ := HT.out _ _ _ h7
    have B7 : Hid (Below w6.heap.size w6 w7) := below_of_grown g7
    have z7 : w6.heap.size ≤ w7.heap.size := g7.size
    have OY : Hid _ := oy
    clear h7 oy g7
    go_wp2_with fail
    refine (sameC_any _ _ os w7 (OwnsC.cls OY.out) (OW.out w7 (B6.out.trans (B7.out.mono (by omega)))) (by omega)).mono ?_
    rintro e w7' ⟨rfl, n7, h7'⟩
    have O7 : Hid (OwnsC w6.heap.size w7' (.slice ay os.length cy) os) := by rw [h7']; exact OY.out
    have B7' : Hid (Below w6.heap.size w6 w7') := by rw [h7']; exact below_drewN B7.out n7
    have z7' : w6.heap.size ≤ w7'.heap.size := B7'.out.size
    clear h7' OY B7
    go_wp2_with fail
    refine (ownCells_any _ os _ w6.heap.size w7' O7.out (by omega) (by omega)).mono ?_
    rintro e w8 ⟨two, rfl, m8, g8⟩
    have M8 : Hid _ := m8
    have B8 : Hid (Below w6.heap.size w6 w8) := B7'.out.grown g8 (by omega) (OwnsC.own_ge O7.out)
    have z8 : w7'.heap.size ≤ w8.heap.size := g8.size
    clear m8 g8 O7
    go_wp2_with fail
    refine (keptCells_any one _ os.length w6.heap.size w8 (MarkedC.below M6.out B8.out) (by omega)).mono ?_
    rintro e w9 ⟨rfl, g9⟩
    have G9 : Hid _ := g9
    have z9 : w8.heap.size ≤ w9.heap.size := g9.size
    clear g9
    go_wp2_with fail
    refine (keptCells_any two _ os.length w8.heap.size w9 (MarkedC.below M8.out (below_of_grown G9.out)) (by omega)).mono ?_
    rintro e w10 ⟨rfl, g10⟩
    have A10 : Hid (Below W3.heap.size W3 w10) := (A6.out.trans (B8.out.mono (by omega))).grown (gtrans G9.out g10) (by omega) (by simp)
    clear g10
    go_wp2_with fail
    refine (sameC_any _ _ cs w10 (HRG.out _ A10.out) (HRs.out _ A10.out) (by omega)).mono ?_
    rintro e w11 ⟨rfl, n11, h11⟩
    have A11 : Hid (Below W3.heap.size W3 w11) := by rw [h11]; exact below_drewN A10.out n11
    obtain ⟨e1, e2⟩ := HE.out w11 A11.out
    clear h11
    go_wp2
    go_ret
    exact ⟨rfl, gtrans (gbelow HB3.out) (gbelow A11.out)⟩
end Go.Proofs.Ytkmeingnhaomaaa
/- The statement on Applies. -/
namespace Go.Proofs.Ytkmeingnhaomaaa
open Go.ChangeShapes Go.WideShapes Go.ChangeAt Go.RowKit
open Go.ChangeMaps (open_string shut_string)

theorem Try.cellsCell : Try.prog.cellsOf 41 = 2 := by kernel_rfl
theorem Try.bytesCell : Try.prog.bytesOf 41 = 24 := by kernel_rfl
theorem list2 {α : Type} : ∀ {l : List α}, l.length = 2 → ∃ a b, l = [a, b]
  | [a, b], _ => ⟨a, b, rfl⟩

set_option maxRecDepth 100000 in
/-- A slice of blocks, opened. -/
theorem open_cls {H : Type} {enc : TypeId × Value → H} {W : World} {base : Nat} {v : Value} {d : DataW H} {p : List MemPlace} (hv : Value.okWide Try.prog W .any base 39 v) (h : DataW.Trod enc Try.prog W 0 (fun _ => true) true 39 v d p) :
    ∃ cs : List Cl, Cls W.heap.size W v cs ∧ (cs = [] ∨ ∃ el sp, d = .slice el sp ∧ el.length = cs.length) := by
  obtain ⟨a0, len0, cap0, rfl⟩ := okWide_slice Try.underlying39 hv
  obtain ⟨fuel, hf⟩ := h
  rcases Deep.open_slice Try.underlying39 hf with ⟨e, hx⟩ | ⟨a, len, cap, m, n, D, Pl, e, hb, hl, hm, hmm, hd, hx⟩
  · simp [Value.cells] at e
    obtain ⟨rfl, rfl, rfl⟩ := e
    exact ⟨[], .inl ⟨rfl, none, 0, rfl⟩, .inl rfl⟩
  · simp [Value.cells] at e
    obtain ⟨rfl, rfl, rfl⟩ := e
    simp only [if_true] at hmm
    subst hmm
    have each : ∀ i, i < len0 → ∃ r : Cl, W.cell? (a.add (i * 2)) = some (.bool r.held) ∧ W.cell? (a.add (i * 2 + 1)) = some (.string r.data) := by
      intro i hi
      obtain ⟨cs', h1, h2⟩ := hx i (by omega)
      rw [Try.cellsCell] at h1
      obtain ⟨_, hlen, hcell⟩ := World.cells?_some h1
      obtain ⟨xs2, k, _, _, _, hl2, hf2⟩ := DataW.trod_struct Try.underlying41 h2
      obtain ⟨y0, y1, rfl⟩ := list2 hl2
      obtain ⟨v0, v1, rfl⟩ := list2 hlen
      have g0 : DataW.trod enc Try.prog W 0 (fun _ => true) true k 4 [v0] = some y0 := by
        have h : DataW.trod enc Try.prog W 0 (fun _ => true) true k 4 (([v0, v1].drop 0).take (Try.prog.cellsOf 4)) = some y0 := hf2 0 _ rfl
        rw [Try.cellsBool] at h
        exact h
      have g1 : DataW.trod enc Try.prog W 0 (fun _ => true) true k 9 [v1] = some y1 := by
        have h : DataW.trod enc Try.prog W 0 (fun _ => true) true k 9 (([v0, v1].drop 1).take (Try.prog.cellsOf 9)) = some y1 := hf2 1 _ rfl
        rw [Try.cellsString] at h
        exact h
      obtain ⟨b0, e0, _⟩ := DataW.trod_bool Try.underlying4 g0
      obtain ⟨s1, e1, _⟩ := DataW.trod_string Try.underlying9 g1
      simp at e0 e1
      subst e0 e1
      have c0 := hcell 0 (by omega)
      have c1 := hcell 1 (by omega)
      rw [Deep.add_add] at c0 c1
      exact ⟨⟨b0, s1⟩, by simpa using c0, by simpa using c1⟩
    obtain ⟨cs, hrl, hrs⟩ : ∃ cs : List Cl, cs.length = len0 ∧ ∀ i (h : i < cs.length), W.cell? (a.add (i * 2)) = some (.bool cs[i].held) ∧ W.cell? (a.add (i * 2 + 1)) = some (.string cs[i].data) := by
      obtain ⟨f, hf⟩ : ∃ f : Nat → Cl, ∀ i, i < len0 → W.cell? (a.add (i * 2)) = some (.bool (f i).held) ∧ W.cell? (a.add (i * 2 + 1)) = some (.string (f i).data) :=
        ⟨fun i => if h : i < len0 then Classical.choose (each i h) else ⟨false, ByteArray.empty⟩, fun i hi => by simp only [dif_pos hi]; exact Classical.choose_spec (each i hi)⟩
      exact ⟨(List.range len0).map f, by simp, fun i hi => by simpa using hf i (by simpa using hi)⟩
    subst hrl
    refine ⟨cs, ?_, .inr ⟨_, _, congrArg Prod.fst hd, by simp⟩⟩
    cases hr0 : cs with
    | nil => exact .inl ⟨rfl, some a, _, rfl⟩
    | cons r cs' =>
      rw [← hr0]
      have hpos : 0 < cs.length := by rw [hr0]; simp
      obtain ⟨b, off, spot⟩ := a
      have hspot : spot = none := by
        have := World.cell?_spot (hrs 0 hpos).1
        simpa [Addr.add] using this
      subst hspot
      refine .inr ⟨b, off, _, rfl, ?_, fun j hj => ?_⟩
      · exact World.block_lt_of_cell? W _ (hrs 0 hpos).1
      · have := hrs j hj
        simpa only [Addr.add_lit, Nat.add_assoc] using this

set_option maxRecDepth 100000 in
theorem applies_lifted (os : Os) (started : os.Started) (H : Type) (enc : TypeId × Value → H) :
    ReturnsInHanded {} Try.checked os 5 .any (Rows.appliesSpec.pre6 enc Try.prog Try.f5 Rows.appliesRow.domain false) (Rows.appliesSpec.post enc Try.prog Try.f5 false true false false) := by
  refine returnsInHanded_of_change_sized (C := Try.checked) Try.own started (by kernel_rfl) Try.func5
    (ChangeSpec.witness6 (enc := enc) (C := Try.checked) false ⟨#[], #[.string ByteArray.empty, .slice none 0 0], []⟩ 8 (by kernel_rfl) (by kernel_rfl) (by kernel_rfl) (by kernel_rfl)) ?_
  intro W base args ds gs before hval0 hW _ hsz0 _
  have hsz : (DataW.weightsEach Try.prog (Try.f5.params.toList ++ Rows.appliesSpec.plain.varTypes Try.prog) (ds ++ gs)).all (· ≤ reachBytes) = true := hsz0
  clear hsz0
  have hval : ∀ (j : Nat) t v, Try.f5.params[j]? = some t → args[j]? = some v → Value.okWide Try.prog W .any base t v := hval0
  have hW' := hW
  obtain ⟨p, q, hA0, hV, rfl, _, _⟩ := hW
  have hA : DataW.TrodAll enc Try.prog W 0 (fun _ => true) true Try.f5.params.toList args.toList ds p := hA0
  rw [Try.params5] at hA hval hsz
  obtain ⟨v0, vs0, d0, ds0, p0, q0, hargs, rfl, rfl, h0, r0⟩ := trodAll_cons hA
  obtain ⟨v1, vs1, d1, ds1, p1, q1, rfl, rfl, rfl, h1, r1⟩ := trodAll_cons r0
  obtain ⟨rfl, rfl, rfl⟩ := trodAll_nil r1
  obtain rfl : args = #[v0, v1] := by cases args; simp_all
  obtain ⟨rfl, rfl⟩ := trodVars_none hV
  obtain ⟨a0, rfl, rfl, rfl, w0⟩ := open_string Try.underlying9 (hval 0 9 v0 rfl rfl) h0
  obtain ⟨cs, hcs, hsh⟩ := open_cls (hval 1 39 v1 rfl rfl) h1
  clear hA0 hval0
  simp only [List.append_nil] at hW'
  have hlt : ∀ x ∈ p1, x.block < W.heap.size := fun x hx => by simpa using hW'.lt x (by simp [hx])
  have hlen : a0.data.toList.length ≤ 4611686018427387904 := by
    have h4 := DataW.weights_mem_each (H := H) (P := Try.prog) (j := 0) (ts := [9, 39] ++ Rows.appliesSpec.plain.varTypes Try.prog) (ds := [.lit (.string a0.data.toList), d1] ++ []) rfl rfl a0.data.toList.length (by simp [DataW.weights])
    have h5 := of_decide_eq_true (List.all_eq_true.1 hsz _ h4)
    simp only [reachBytes] at h5
    omega
  have hlen2 : cs.length * 24 ≤ 140737488355328 := by
    rcases hsh with rfl | ⟨el, sp, rfl, hel⟩
    · simp
    · have hm1 : (el.length + sp.length) * Try.prog.bytesOf 41 ∈ (DataW.slice el sp).weights Try.prog 39 := by simp [DataW.weights, Try.underlying39]
      have h4 := DataW.weights_mem_each (H := H) (P := Try.prog) (j := 1) (ts := [9, 39] ++ Rows.appliesSpec.plain.varTypes Try.prog) (ds := [.lit (.string a0.data.toList), .slice el sp] ++ []) rfl rfl _ hm1
      have h5 := of_decide_eq_true (List.all_eq_true.1 hsz _ h4)
      rw [Try.bytesCell] at h5
      simp only [reachBytes] at h5
      omega
  have hwalk := applies_walk a0.data.toList v1 cs W hlen hcs hlen2
  rw [show (⟨a0.data.toList.toArray⟩ : ByteArray) = a0 from rfl] at hwalk
  refine hwalk.mono fun e W' ⟨he, hg⟩ => ?_
  subst he
  have hb := below_of_grown hg
  refine ⟨_, rfl, _, _, _, [], [] ++ (p1 ++ []), [], hW', ?_, ?_, rfl, hb.frame _, fun h => by cases h⟩
  · exact trodAll_cons_mk (shut_bool Try.underlying4 _) trodAll_mk0
  · exact trodAll_cons_mk (shut_string Try.underlying9 w0) (trodAll_cons_mk (Below.trod Try.laidOut (by kernel_rfl) (of_decide_eq_true (by kernel_rfl)) h1 hb hlt) trodAll_mk0)

theorem applies_holds : Rows.AppliesSaid :=
  OpenClaim.holds_of_wide 5 Try.f5 rfl rfl rfl rfl rfl rfl rfl ⟨rfl, rfl, rfl, rfl, rfl⟩ rfl rfl rfl rfl rfl (by kernel_rfl) Try.func5 (by kernel_rfl)
    (of_decide_eq_true (by kernel_rfl)) (by unfold Func.isWrapper; first | (rw [if_pos (by decide +kernel)]; kernel_rfl) | (rw [if_neg (by decide +kernel)]; exact ⟨rfl, rfl⟩))
    (fun os started H enc _ => applies_lifted os started H enc)
end Go.Proofs.Ytkmeingnhaomaaa
