/- RApply2, PVol, PChg, PApply, LApplies, LApplies2, LApplies3 -/
import Derived.Test.YtdjmhagclcfnfaaRApply
import Derived.Test.YtdjmhagclcfnfaaLExact2
/- The reference's Apply. -/
namespace Go.Proofs.Ytdjmhagclcfnfaa
open Go.RowKit Go.Shelf

/-- A block behind records. -/
def chg (rs : List Rc) (i : Nat) (c : Cl) : Cl := match saidR rs i with | none => c | some r => if r.free then ⟨false, ⟨#[]⟩⟩ else ⟨true, r.data⟩
def outR (rs : List Rc) (cs : List Cl) : List Cl := cs.mapIdx (fun i c => chg rs i c)
def applyR (l : List UInt8) (cs : List Cl) : Int ⊕ List Cl :=
  match parseR l with
  | .inl k => .inl k
  | .inr (_, _, b, z, rs) => if volOk cs b z then .inr (outR rs cs) else .inl 1
/-- How Apply ends. -/
def ToldA (l : List UInt8) (cs : List Cl) (w : World) (e : Ending) (w' : World) : Prop :=
  w.grownBy w' none ∧ ((∃ k, applyR l cs = .inl k ∧ e = .returned (.tuple #[.slice none 0 0, .int .i64 k])) ∨ (∃ os v, applyR l cs = .inr os ∧ e = .returned (.tuple #[v, .int .i64 0]) ∧ OwnsC w.heap.size w' v os))

theorem outR_next (rs : List Rc) (cs : List Cl) (k : Nat) (h : k < cs.length) : (outR rs cs).take (k + 1) = (outR rs cs).take k ++ [chg rs k cs[k]] := by
  have hl : k < (outR rs cs).length := by simpa [outR] using h
  rw [List.take_succ_eq_append_getElem hl]
  simp [outR]

set_option maxRecDepth 100000 in
set_option maxHeartbeats 2000000 in
theorem rapply (l : List UInt8) (sv : Value) (cs : List Cl) (w : World) (hl : l.length ≤ 4611686018427387904) (hc : Cls w.heap.size w sv cs) (hcl : cs.length ≤ 4611686018427387904) :
    Calls Try.prog 21 #[.string ⟨l.toArray⟩, sv] w (ToldA l cs w) := by
  obtain ⟨a, cp, rfl⟩ := hc.slice
  have HC : Hid (∀ W, w.grownBy W none → _) := fun W h => Cls.moved hc ⟨h.os, h.tape, h.output, h.size, fun k hk => h.block k hk (by simp)⟩
  have HP : Hid (∀ W, _) := fun W => rparse l W hl
  clear hc
  go_enter Try.func21, Try.ntmps21
  go_wp2_with fail
  refine (HP.out _).mono ?_
  rintro e w1 ⟨hg1, (⟨k, hk, rfl⟩ | ⟨f, t, b, z, rs, v, hk, rfl, hown⟩)⟩
  · have hke := parse_err l k hk
    have e1 : (k != 0) = true := by simp; omega
    have HA : Hid (applyR l cs = .inl k) := by
      show _ = _
      unfold applyR
      rw [hk]
    have G1 : Hid _ := hg1
    clear hk hg1 hke
    go_wp2
    refine bodyPost_ret (results_tmp2 rfl _ _ _) rfl ?_
    exact ⟨gallocR G1.out _, .inl ⟨k, HA.out, rfl⟩⟩
  obtain ⟨-, hw, ho⟩ := parse_exact l f t b z rs hk
  obtain ⟨h1, h2, h3, h4, h5, h6, h7, h8, h9⟩ : (0 : Int) ≤ f ∧ (f : Int) ≤ 2147483647 ∧ (1 : Int) ≤ t ∧ (t : Int) ≤ 2147483647 ∧ (f : Int) ≠ t ∧ (1 : Int) ≤ b ∧ (b : Int) ≤ 100 ∧ (1 : Int) ≤ z ∧ (z : Int) ≤ 64 := of_decide_eq_true hw
  have hrl := recsOk_length b z rs ho (by omega)
  obtain ⟨av, lv, cv, rfl⟩ := hown.slice
  obtain ⟨W1, hW1⟩ : ∃ W1, W1 = w1.alloc (.cells #[.int .i64 f, .int .i64 t, .int .i64 b, .int .i64 z, .slice av lv cv] 24) := ⟨_, rfl⟩
  have s1 : Hid (W1.heap[w1.heap.size]? = some (.cells #[.int .i64 f, .int .i64 t, .int .i64 b, .int .i64 z, .slice av lv cv] 24 (0, 0))) := by rw [hW1]; exact World.alloc_heap_new _ _
  have g1 : Hid (w.grownBy W1 none) := by rw [hW1]; exact gallocR hg1 _
  have R1 : Hid (Recs W1.heap.size W1 (.slice av lv cv) rs) := by rw [hW1]; exact (OwnsR.alloc hown _).recs
  have HK : Hid _ := hk
  clear hg1 hown hk hw h1 h2 h3 h4 h5 h6 h8 ho
  go_wp2_with fail
  rw [← hW1]
  clear hW1
  refine (volume_any _ cs b z W1 (HC.out _ g1.out) (by omega) (by omega) (by omega)).mono ?_
  rintro e W2 ⟨rfl, rfl⟩
  cases hv : volOk cs b z with
  | false =>
    have HA : Hid (applyR l cs = .inl 1) := by
      show _ = _
      unfold applyR
      rw [HK.out]
      simp only [hv]
      rfl
    clear hv
    go_wp2
    refine bodyPost_ret (results_tmp2 rfl _ _ _) rfl ?_
    exact ⟨g1.out, .inl ⟨1, HA.out, rfl⟩⟩
  | true =>
    have hcb : cs.length ≤ 100 := by
      simp only [volOk, Bool.and_eq_true, decide_eq_true_eq] at hv
      omega
    have HA : Hid (applyR l cs = .inr (outR rs cs)) := by
      show _ = _
      unfold applyR
      rw [HK.out]
      simp only [hv]
      rfl
    clear hv HK
    go_wp2
    go_loopw [9, 10] (fun o i wr => ∃ k : Nat, k ≤ cs.length ∧ i = .int .i64 k ∧ OwnsC W2.heap.size wr o ((outR rs cs).take k) ∧ W2.grownBy wr none) (fun _ i _ => cs.length - (intOf i).toNat)
    case atStart => exact ⟨0, Nat.zero_le _, rfl, World.ownsRow_nil _ _ _ _, drew_grown _ 0 _⟩
    case round =>
      obtain ⟨k, hk, rfl, hO, hG⟩ := hrel
      by_cases hlt : k < cs.length
      · have hox := outR_next rs cs k hlt
        have HOX : Hid _ := hox
        have hq : ((outR rs cs).take k).length ≤ 2000 := by rw [List.length_take]; omega
        obtain ⟨c0, c1, c2, c3, c4, -⟩ := box5 (box_kept s1.out hG).1
        have y1 : w1.heap.size < wr.heap.size := (box_kept s1.out hG).2
        have HS : Hid (∀ u : Unit, _) := fun _ => said_any (.slice av lv cv) rs k wr (Recs.moved R1.out (below_of_grown hG)) (by omega)
        have HO : Hid _ := hO
        have HG : Hid _ := hG
        have HCK : Hid (∀ W, wr.grownBy W none → _) := fun W h => Cls.at (HC.out W (gtrans g1.out (gtrans hG h))) hlt
        have HCH : Hid (chg rs k cs[k] = match saidR rs k with | none => cs[k] | some r => if r.free then ⟨false, ⟨#[]⟩⟩ else ⟨true, r.data⟩) := rfl
        clear hox hO hG
        generalize cs[k] = ck at *
        go_wp2_with fail
        refine (HS.out ()).mono ?_
        rintro e w3 ⟨hg3, (⟨r, hsa, rfl⟩ | ⟨hsa, rfl⟩)⟩
        · rw [hsa] at HCH
          simp only [] at HCH
          have G3 : Hid _ := hg3
          clear hg3 hsa HS
          cases hf : r.free with
          | true =>
            rw [hf, if_pos rfl] at HCH
            go_wp2_with (at_builtin; refine wpList_append_cl _ rfl _ _ rfl W2.heap.size _ ((outR rs cs).take k) rfl (OwnsC.alloc (OwnsC.alloc (OwnsC.kept HO.out G3.out) _) _) ⟨_, 0, none⟩ ⟨false, ⟨#[]⟩⟩ rfl (cells_new2 _ _ _ _ (by simp)) hq (by have h1 := HG.out.size; have h2 := G3.out.size; simp; omega) ?_; intro v' w4 hO4 hg4 _ _)
            refine ⟨⟨k + 1, by omega, by go_num, ?_, ?_⟩, by simp [intOf]; omega⟩
            · rw [HOX.out, HCH.out]
              exact hO4
            · exact grow_own (gallocR (gallocR (gtrans HG.out G3.out) _) _) hg4 (.inr (OwnsC.own_ge HO.out))
          | false =>
            rw [hf, if_neg (by simp)] at HCH
            go_wp2_with (at_builtin; refine wpList_append_cl _ rfl _ _ rfl W2.heap.size _ ((outR rs cs).take k) rfl (OwnsC.alloc (OwnsC.alloc (OwnsC.kept HO.out G3.out) _) _) ⟨_, 0, none⟩ ⟨true, r.data⟩ rfl (cells_new2 _ _ _ _ (by simp)) hq (by have h1 := HG.out.size; have h2 := G3.out.size; simp; omega) ?_; intro v' w4 hO4 hg4 _ _)
            refine ⟨⟨k + 1, by omega, by go_num, ?_, ?_⟩, by simp [intOf]; omega⟩
            · rw [HOX.out, HCH.out]
              exact hO4
            · exact grow_own (gallocR (gallocR (gtrans HG.out G3.out) _) _) hg4 (.inr (OwnsC.own_ge HO.out))
        · rw [hsa] at HCH
          simp only [] at HCH
          have G3 : Hid _ := hg3
          obtain ⟨bb, off, rfl, hbb, q0, q1⟩ := HCK.out w3 hg3
          clear hg3 hsa HS
          go_wp2_with (at_builtin; refine wpList_append_cl _ rfl _ _ rfl W2.heap.size _ ((outR rs cs).take k) rfl (OwnsC.alloc (OwnsC.alloc (OwnsC.kept HO.out G3.out) _) _) ⟨_, 0, none⟩ ck rfl (cells_new2 _ _ _ _ (by simp)) hq (by have h1 := HG.out.size; have h2 := G3.out.size; simp; omega) ?_; intro v' w4 hO4 hg4 _ _)
          refine ⟨⟨k + 1, by omega, by go_num, ?_, ?_⟩, by simp [intOf]; omega⟩
          · rw [HOX.out, HCH.out]
            exact hO4
          · exact grow_own (gallocR (gallocR (gtrans HG.out G3.out) _) _) hg4 (.inr (OwnsC.own_ge HO.out))
      · obtain rfl : k = cs.length := by omega
        have HO : Hid _ := hO
        have HG : Hid _ := hG
        clear hO hG
        go_wp2
        refine bodyPost_ret (results_tmp2 rfl _ _ _) rfl ?_
        refine ⟨gtrans g1.out HG.out, .inr ⟨_, _, HA.out, rfl, ?_⟩⟩
        have h := HO.out
        rw [List.take_of_length_le (by simp [outR])] at h
        exact OwnsC.base h g1.out.size
end Go.Proofs.Ytdjmhagclcfnfaa
/- The program's isVolume, and changed. -/
namespace Go.Proofs.Ytdjmhagclcfnfaa
open Go.RowKit Go.Shelf

set_option maxRecDepth 100000 in
set_option maxHeartbeats 1000000 in
theorem isVolume_any (sv : Value) (cs : List Cl) (b z : Nat) (w : World) (hR : Cls w.heap.size w sv cs) (hlen : cs.length ≤ 4611686018427387904) (hb : b ≤ 1000) :
    Calls Try.prog 59 #[sv, .int .i64 b, .int .i64 z] w fun e w' => e = .returned (.bool (volOk cs b z)) ∧ w.grownBy w' none := by
  obtain ⟨a, c, rfl⟩ := hR.slice
  have HR : Hid (∀ W, w.grownBy W none → _) := fun W h => Cls.moved hR (below_of_grown h)
  clear hR
  go_enter Try.func59, Try.ntmps59
  by_cases hl : cs.length = b
  · subst hl
    go_wp2
    go_loopw [15] (fun v wr => ∃ k : Nat, k ≤ cs.length ∧ v = .int .i64 k ∧ (cs.take k).all (fun c => decide (c.data.size = if c.held then z else 0)) = true ∧ w.grownBy wr none) (fun v _ => cs.length - (intOf v).toNat)
    case atStart => exact ⟨0, Nat.zero_le _, rfl, rfl, drew_grown _ 0 _⟩
    case round =>
      obtain ⟨k, hk, rfl, ha, hg⟩ := hrel
      by_cases hlt : k < cs.length
      · obtain ⟨b, off, e, hb', q0, q1⟩ := Cls.at (HR.out _ hg) hlt
        subst e
        have HN : Hid (decide (cs[k].data.size = if cs[k].held then z else 0) = true → (cs.take (k + 1)).all (fun c => decide (c.data.size = if c.held then z else 0)) = true) := fun h => by
          rw [List.take_succ_eq_append_getElem hlt, List.all_append, ha, Bool.true_and, List.all_cons, h]
          rfl
        have HF : Hid (decide (cs[k].data.size = if cs[k].held then z else 0) = false → volOk cs cs.length z = false) := fun h => by
          unfold volOk
          rw [Bool.and_eq_false_iff]
          right
          rw [List.all_eq_false]
          exact ⟨cs[k], List.getElem_mem hlt, by rw [h]; simp⟩
        have HG : Hid _ := hg
        clear ha hg
        generalize cs[k] = r at *
        go_wp2_with fail
        refine (filled_any _ _ _ _).mono ?_
        rintro e w1 ⟨rfl, rfl⟩
        have hx : (decide ((r.data.size : Int) = if r.held then (z : Int) else 0)) = decide (r.data.size = if r.held then z else 0) := by
          cases r.held <;> simp
          exact Int.ofNat_inj
        rw [hx]
        cases hgood : decide (r.data.size = if r.held then z else 0) with
        | true =>
          have H2 : Hid _ := HN.out hgood
          clear HN HF hgood hx
          go_wp2
          go_roundw
          case rel => exact ⟨k + 1, by omega, by go_num, H2.out, gallocR HG.out _⟩
          case measure => simp [intOf]; omega
        | false =>
          have H2 : Hid _ := HF.out hgood
          clear HN HF hgood hx
          go_wp2
          go_ret
          exact ⟨by rw [H2.out]; rfl, gallocR HG.out _⟩
      · rw [List.take_of_length_le (by omega)] at ha
        have H2 : Hid (volOk cs cs.length z = true) := by
          show _ = _
          unfold volOk
          rw [ha]
          simp
        have HG : Hid _ := hg
        clear ha hg
        go_wp2
        go_ret
        exact ⟨by rw [H2.out]; rfl, HG.out⟩
  · have hv : volOk cs b z = false := by simp [volOk, hl]
    rw [hv]
    have hne : ((cs.length : Int) != (b : Int)) = true := by simp; omega
    go_wp2
    go_ret
    exact ⟨rfl, drew_grown _ 0 _⟩

end Go.Proofs.Ytdjmhagclcfnfaa
/- The program's changed. -/
namespace Go.Proofs.Ytdjmhagclcfnfaa
open Go.RowKit Go.Shelf

attribute [local go_sem] Oper.semAt_some

theorem made_zero (n : Nat) : (madeCells #[.bool false, .string ⟨#[]⟩] (n * 2)).toList = clVals (List.replicate n ⟨false, ⟨#[]⟩⟩) := by
  apply List.ext_getElem?
  intro i
  by_cases hi : i < n * 2
  · have h1 : (madeCells #[.bool false, .string ⟨#[]⟩] (n * 2)).toList[i]? = some (#[Value.bool false, .string ⟨#[]⟩][i % 2]!) := by
      rw [Array.getElem?_toList]
      simp [madeCells, hi]
    rw [h1]
    obtain ⟨e0, e1⟩ := clVals_at (List.replicate n ⟨false, ⟨#[]⟩⟩) (i / 2) (by simp; omega)
    rcases (show i % 2 = 0 ∨ i % 2 = 1 by omega) with h | h
    · rw [h, show i = i / 2 * 2 from by omega, e0]
      simp
    · rw [h, show i = i / 2 * 2 + 1 from by omega, e1]
      simp
  · rw [List.getElem?_eq_none (by simp [size_madeCells]; omega), List.getElem?_eq_none (by rw [clVals_length]; simp; omega)]

theorem copied_set (cs : List Cl) (k : Nat) (zr : Cl) (h : k < cs.length) : (cs.take k ++ List.replicate (cs.length - k) zr).set k cs[k] = cs.take (k + 1) ++ List.replicate (cs.length - (k + 1)) zr := by
  rw [List.set_append_right _ _ (by rw [List.length_take]; omega), List.length_take, Nat.min_eq_left (by omega), Nat.sub_self, show cs.length - k = (cs.length - (k + 1)) + 1 from by omega, List.replicate_succ, List.set_cons_zero, List.take_succ_eq_append_getElem h, List.append_assoc]
  rfl

theorem farS {W : World} {g a b o o' : Nat} {x y v1 v2 v3 : Value} (h : W.cell? ⟨a, 0, none⟩ = some v1 ∧ W.cell? ⟨b, 0, none⟩ = some v2 ∧ W.cell? ⟨b, 1, none⟩ = some v3) (ha : g ≠ a) (hb : g ≠ b) :
    ((W.setCell ⟨g, o, none⟩ x).setCell ⟨g, o', none⟩ y).cell? ⟨a, 0, none⟩ = some v1 ∧ ((W.setCell ⟨g, o, none⟩ x).setCell ⟨g, o', none⟩ y).cell? ⟨b, 0, none⟩ = some v2 ∧ ((W.setCell ⟨g, o, none⟩ x).setCell ⟨g, o', none⟩ y).cell? ⟨b, 1, none⟩ = some v3 := by
  refine ⟨?_, ?_, ?_⟩
  · rw [World.cell?_setCell_far _ _ _ _ ha, World.cell?_setCell_far _ _ _ _ ha]
    exact h.1
  · rw [World.cell?_setCell_far _ _ _ _ hb, World.cell?_setCell_far _ _ _ _ hb]
    exact h.2.1
  · rw [World.cell?_setCell_far _ _ _ _ hb, World.cell?_setCell_far _ _ _ _ hb]
    exact h.2.2

/-- A volume behind records, one by one. -/
def setAll (cs : List Cl) (pre : List Rc) : List Cl := pre.foldl (fun o r => o.set r.block.toNat ⟨!r.free, r.data⟩) cs
theorem setAll_snoc (cs : List Cl) (pre : List Rc) (x : Rc) : setAll cs (pre ++ [x]) = (setAll cs pre).set x.block.toNat ⟨!x.free, x.data⟩ := by simp [setAll]
theorem setAll_length (cs : List Cl) : ∀ pre : List Rc, (setAll cs pre).length = cs.length := by
  intro pre
  induction pre generalizing cs with
  | nil => rfl
  | cons x pre ih =>
    show (setAll (cs.set _ _) pre).length = _
    rw [ih, List.length_set]
theorem ownIt_owns {β : Type} (bb : Option Nat) (B B' : Nat) (v : Value) (f : β → List Cl) (hbb : bb = none) : OwnIt bb B' (fun s W => OwnsC B W v (f s)) := by
  subst hbb
  rintro s W W' row ho hg hr
  refine World.ownsRow.kept ho hg ?_
  rcases ho.2 with ⟨rfl, _⟩ | ⟨g, cap, cur, rfl, hb, hgb, _⟩
  · exact .inl rfl
  · refine .inr fun e => ?_
    rcases hr g (by simpa [Value.ownBlock] using e.symm) with e2 | ⟨_, o, ho', hc⟩
    · cases e2
    · rw [hgb] at ho'; cases ho'; cases hc

set_option maxRecDepth 100000 in
set_option maxHeartbeats 2000000 in
theorem changed_any (sv : Value) (cs : List Cl) (Bs : Nat) (vv : Value) (rs : List Rc) (w : World) (hR : Cls w.heap.size w sv cs) (hlen : cs.length ≤ 100) (hd : ∀ c ∈ cs, c.data.size ≤ 100000)
    (hBs : w.heap[Bs]? = some (.cells #[vv] 22 (0, 0))) (hv : Recs w.heap.size w vv rs) (z : Nat) (hok : recsOk cs.length z (-1) rs = true) :
    Calls Try.prog 60 #[sv, .func (.func 93) #[] #[.pointer (some ⟨Bs, 0, none⟩)]] w fun e w' => ∃ v, e = .returned v ∧ OwnsC w.heap.size w' v (setAll cs rs) ∧ w.grownBy w' none := by
  obtain ⟨a, c, rfl⟩ := hR.slice
  obtain ⟨i0, hi, hz0, hz1, hz2⟩ := info_parts Try.infoCl
  have hmk : ∀ W : World, (Instr.makeSlice 39 (.int .i64 cs.length) (.int .i64 cs.length)).run Try.prog W = .ok (.slice (some ⟨W.heap.size, 0, none⟩) cs.length cs.length) (W.alloc (.cells (madeCells (Value.agg #[.bool false, .string ⟨#[]⟩]).cells (cs.length * 2)) 41)) := by
    intro W
    have := run_make (P := Try.prog) W 39 41 i0 _ Try.underlying39 hi hz0 .i64 .i64 (cs.length : Int) (cs.length : Int) (by omega) (Int.le_refl _) (by rw [hz2]; omega) (by omega)
    rw [hz1, show ((cs.length : Int)).toNat = cs.length from by omega] at this
    exact this
  refine (callsIn_wide (n := 9)).1 ?_
  refine callsIn_of_wp_marks Try.func60 rfl trivial ?_ rfl
  simp only [Try.ntmps60, List.size_toArray, List.length_cons, List.length_nil, Nat.reduceAdd, Nat.reduceSub, Array.replicate_succ, Array.replicate_zero, List.push_toArray, List.append_toArray, List.nil_append, List.cons_append]
  gi_wp2
  obtain ⟨M, hM⟩ : ∃ M, M = madeCells #[.bool false, .string ⟨#[]⟩] (cs.length * 2) := ⟨_, rfl⟩
  obtain ⟨W1, hW1⟩ : ∃ W1, W1 = (w.alloc (.cells (madeCells #[.bool false, .string ⟨#[]⟩] (cs.length * 2)) 41)).alloc (.cells #[.slice (some ⟨w.heap.size, 0, none⟩) cs.length cs.length] 39) := ⟨_, rfl⟩
  have hO1 : OwnsC w.heap.size W1 (.slice (some ⟨w.heap.size, 0, none⟩) cs.length cs.length) (List.replicate cs.length ⟨false, ⟨#[]⟩⟩) := by
    refine ⟨clVals_length _, .inr ⟨w.heap.size, cs.length, M, by simp, Nat.le_refl _, ?_, by simp, ?_, ?_, ?_⟩⟩
    · rw [hW1, hM]
      exact (Below.heap_alloc _ _ _ (by simp)).trans (World.alloc_heap_new _ _)
    · exact Nat.le_trans hlen (by decide)
    · rw [hM, size_madeCells]
    · rw [hM, made_zero, List.take_of_length_le (by rw [clVals_length]; exact Nat.le_refl _)]
  have hb1 : W1.heap[w.heap.size + 1]? = some (.cells #[.slice (some ⟨w.heap.size, 0, none⟩) cs.length cs.length] 39 (0, 0)) := by
    rw [hW1]
    have h := World.alloc_heap_new (w.alloc (.cells (madeCells #[.bool false, .string ⟨#[]⟩] (cs.length * 2)) 41)) (.cells #[.slice (some ⟨w.heap.size, 0, none⟩) cs.length cs.length] 39)
    rwa [World.size_alloc] at h
  have hg1 : w.grownBy W1 none := by rw [hW1]; exact gallocR (galloc _ _ _) _
  rw [← hW1]
  have HR : Hid (∀ W, w.grownBy W none → _) := fun W h => Cls.moved hR (below_of_grown h)
  have HD : Hid _ := hd
  have HMK : Hid _ := hok
  have HBS : Hid _ := hBs
  have HVV : Hid _ := hv
  clear hM hW1 hR hd hok hBs hv hmk hz0 hz1 hz2 hi
  gi_loopw [14] (fun i wr => ∃ k : Nat, k ≤ cs.length ∧ i = .int .i64 k ∧ OwnsC w.heap.size wr (.slice (some ⟨w.heap.size, 0, none⟩) cs.length cs.length) (cs.take k ++ List.replicate (cs.length - k) ⟨false, ⟨#[]⟩⟩) ∧ wr.heap[w.heap.size + 1]? = some (.cells #[.slice (some ⟨w.heap.size, 0, none⟩) cs.length cs.length] 39 (0, 0)) ∧ w.grownBy wr none) (fun i _ => cs.length - (intOf i).toNat)
  case atStart => exact ⟨0, Nat.zero_le _, rfl, hO1, hb1, hg1⟩
  case round =>
    obtain ⟨k, hk, rfl, hO, hb, hg⟩ := hrel
    by_cases hlt : k < cs.length
    · obtain ⟨b, off, e, hb', q0, q1⟩ := Cls.at (HR.out _ hg) hlt
      subst e
      have hdk := HD.out cs[k] (List.getElem_mem hlt)
      have hset := copied_set cs k ⟨false, ⟨#[]⟩⟩ hlt
      have HSET : Hid _ := hset
      have HO : Hid _ := hO
      have HB : Hid _ := hb
      have HG : Hid _ := hg
      clear hset hO hb hg hO1 hb1 hg1
      generalize cs[k] = r at *
      gi_wp2_with fail
      obtain ⟨Wc, hWc⟩ : ∃ Wc, Wc = wr.alloc (.cells #[.bool r.held, .string r.data] 41) := ⟨_, rfl⟩
      have hx : Wc.heap[wr.heap.size]? = some (.cells #[.bool r.held, .string r.data] 41 (0, 0)) := by rw [hWc]; exact World.alloc_heap_new _ _
      have hbx : Wc.heap[w.heap.size + 1]? = some (.cells #[.slice (some ⟨w.heap.size, 0, none⟩) cs.length cs.length] 39 (0, 0)) := by rw [hWc]; exact (Below.heap_alloc _ _ _ (Array.getElem?_eq_some_iff.1 HB.out).1).trans HB.out
      have HOC : Hid (OwnsC w.heap.size Wc (.slice (some ⟨w.heap.size, 0, none⟩) cs.length cs.length) (cs.take k ++ List.replicate (cs.length - k) ⟨false, ⟨#[]⟩⟩)) := by rw [hWc]; exact OwnsC.alloc HO.out _
      have HGC : Hid (w.grownBy Wc none) := by rw [hWc]; exact gallocR HG.out _
      have hlc : (cs.take k ++ List.replicate (cs.length - k) (⟨false, ⟨#[]⟩⟩ : Cl)).length = cs.length := by simp; omega
      rw [← hWc]
      have s0 := boxed_cell (i := 0) (v := .slice (some ⟨w.heap.size, 0, none⟩) cs.length cs.length) hbx rfl
      have s1 := boxed_cell (i := 0) (v := .bool r.held) hx rfl
      have s2 := boxed_cell (i := 1) (v := .string r.data) hx rfl
      have hwr : w.heap.size + 1 < wr.heap.size := (Array.getElem?_eq_some_iff.1 HB.out).1
      have HX : Hid _ := hx
      have HBX : Hid _ := hbx
      have HFACT : Hid (∀ W2, Below Wc.drew.heap.size Wc.drew W2 → (W2.cell? ⟨w.heap.size + 1, 0, none⟩ = some (.slice (some ⟨w.heap.size, 0, none⟩) cs.length cs.length) ∧ W2.cell? ⟨wr.heap.size, 0, none⟩ = some (.bool r.held) ∧ W2.cell? ⟨wr.heap.size, 1, none⟩ = some (.string r.data)) ∧ OwnsC w.heap.size W2 (.slice (some ⟨w.heap.size, 0, none⟩) cs.length cs.length) (cs.take k ++ List.replicate (cs.length - k) ⟨false, ⟨#[]⟩⟩) ∧ (∃ u0 u1, W2.cell? ⟨w.heap.size, k * 2, none⟩ = some u0 ∧ W2.cell? ⟨w.heap.size, k * 2 + 1, none⟩ = some u1) ∧ (∀ o, W2.frozen? ⟨w.heap.size, o, none⟩ = false)) := by
        intro W2 hb0
        have hb2 : Below Wc.heap.size Wc W2 := ⟨hb0.os, hb0.tape, hb0.output, hb0.size, hb0.block⟩
        have o2 := OwnsC.kept HOC.out (gbelow hb2)
        obtain ⟨r0, r1⟩ := o2.row k (by rw [hlc]; exact hlt)
        obtain ⟨cur, hcur⟩ := o2.block
        have l1 := (Array.getElem?_eq_some_iff.1 HBX.out).1
        have l2 := (Array.getElem?_eq_some_iff.1 HX.out).1
        exact ⟨⟨(World.cell?_of_block (hb2.block _ l1)).trans s0, (World.cell?_of_block (hb2.block _ l2)).trans s1, (World.cell?_of_block (hb2.block _ l2)).trans s2⟩, o2, ⟨_, _, r0, r1⟩, fun o => boxed_frozen hcur⟩
      clear hWc hx hbx q0 q1
      refine wpIn_wide.2 ?_
      go_region_held3 (fun w' => w'.cell? ⟨w.heap.size + 1, 0, none⟩ = some (.slice (some ⟨w.heap.size, 0, none⟩) cs.length cs.length) ∧ w'.cell? ⟨wr.heap.size, 0, none⟩ = some (.bool r.held) ∧ w'.cell? ⟨wr.heap.size, 1, none⟩ = some (.string r.data))
        (first | exact ⟨s0, s1, s2⟩ | exact K2.out | exact farS K2.out (by omega) (by omega))
        (first | (go_at_call 92; refine (clone_any _ _ hdk).mono ?_; rintro e w2 ⟨rfl, hb2⟩; obtain ⟨k2, o2, ⟨u0, u1, r0, r1⟩, z2⟩ := HFACT.out w2 hb2; have K2 : Hid _ := k2; have O2 : Hid _ := o2; have B2 : Hid _ := hb2; have z20 := z2 (k * 2); have z21 := z2 (k * 2 + 1); clear k2 o2 hb2 z2))
      have HF2 : Hid _ := OwnsC.store O2.out k r
      gi_wp2
      go_roundw
      case rel =>
        have hh := HF2.out
        rw [HSET.out] at hh
        refine ⟨k + 1, by omega, by go_num, hh, ?_, ?_⟩
        · refine (Below.heap_setCell _ _ _ _ (by show w.heap.size + 1 ≠ w.heap.size; omega)).trans ((Below.heap_setCell _ _ _ _ (by show w.heap.size + 1 ≠ w.heap.size; omega)).trans ?_)
          exact (B2.out.block _ (Array.getElem?_eq_some_iff.1 HBX.out).1).trans HBX.out
        · have g2 : w.grownBy w2 none := gtrans HGC.out (gbelow ⟨B2.out.os, B2.out.tape, B2.out.output, B2.out.size, B2.out.block⟩)
          exact gfresh (gfresh g2 (Nat.le_refl _)) (Nat.le_refl _)
      case measure => simp [intOf]; omega
    · obtain rfl : k = cs.length := by omega
      have hlist : cs.take cs.length ++ List.replicate (cs.length - cs.length) (⟨false, ⟨#[]⟩⟩ : Cl) = cs := by simp
      rw [hlist] at hO
      have HO : Hid _ := hO
      have HB : Hid _ := hb
      have HG : Hid _ := hg
      clear hlist hO hb hg hO1 hb1 hg1
      gi_wp2
      have hRw : Recs wr.heap.size wr vv rs := Recs.moved HVV.out (below_of_grown HG.out)
      have hBw : wr.heap[Bs]? = some (.cells #[vv] 22 (0, 0)) := (HG.out.block Bs (Array.getElem?_eq_some_iff.1 HBS.out).1 (by simp)).trans HBS.out
      have hKW : ∀ k, (rs ≠ [] ∧ ∃ off l cap, vv = .slice (some ⟨k, off, none⟩) l cap) → k < w.heap.size := by
        rintro k ⟨hne, off, l, cap, rfl⟩
        exact Recs.block_lt HVV.out hne rfl
      have hgs : w.heap.size ≤ wr.heap.size := HG.out.size
      have hrl := recsOk_length cs.length z rs HMK.out (by omega)
      refine range_law (n := 9) rfl (by decide) (gf := 93) (lb := #[.pointer (some ⟨Bs, 0, none⟩)]) rfl trivial (enters_of Try.func93 (by kernel_rfl) rfl)
        (values_seq 8 (by decide) Bs vv rs (by omega) wr (Array.getElem?_eq_some_iff.1 hBw).1 (boxed_cell hBw rfl) hRw (fun k => rs ≠ [] ∧ ∃ off l cap, vv = .slice (some ⟨k, off, none⟩) l cap) (fun k hk => Nat.lt_of_lt_of_le (hKW k hk) hgs) (fun hne b off l cap e => ⟨hne, off, l, cap, e⟩))
        (Below.refl _ _) (fun k hk => Nat.lt_of_lt_of_le (hKW k hk) hgs) (fun b e => by cases e) (fun _ => rfl)
        (fun pre W => OwnsC w.heap.size W (.slice (some ⟨w.heap.size, 0, none⟩) cs.length cs.length) (setAll cs pre) ∧ W.heap[w.heap.size + 1]? = some (.cells #[.slice (some ⟨w.heap.size, 0, none⟩) cs.length cs.length] 39 (0, 0)) ∧ w.grownBy W none)
        (fun _ _ _ => False)
        (OwnIt.and (ownIt_owns _ _ _ _ _ rfl) (OwnIt.and (ownIt_block _ _ (fun _ => _) (fun _ => rfl)) (ownIt_grown hgs)))
        (fun cd => OwnIt.pure _ _ _)
        ⟨HO.out, HB.out, HG.out⟩
        (fun x a' W => ∃ Bx, W.heap[Bx]? = some (.cells #[.bool x.free, .int .i64 x.block, .string x.data] 34 (0, 0)) ∧ a' = { tmps := #[.slice a cs.length c, .func (.func 93) #[] #[.pointer (some ⟨Bs, 0, none⟩)], undef, undef, .slice none 0 0, .pointer (some ⟨w.heap.size + 1, 0, none⟩), u6, u7, .pointer (some ⟨Bx, 0, none⟩), .slice a cs.length c, .int .i64 cs.length, .slice (some ⟨w.heap.size, 0, none⟩) cs.length cs.length, .slice a cs.length c, .int .i64 cs.length, .int .i64 cs.length, .bool false, u16, u17, u18, u19, u20, u21, u22, u23, u24, u25, u26, u27, u28, .func (.func 93) #[] #[.pointer (some ⟨Bs, 0, none⟩)], .agg #[.bool x.free, .int .i64 x.block, .string x.data], undef, undef, undef, undef, undef, undef, undef, undef, undef, undef, undef], defers := [] })
        (fun x a' => ownIt_some _ fun Bx => OwnIt.and (ownIt_block _ _ (fun _ => _) (fun _ => rfl)) (OwnIt.pure _ _ _))
        ?assign ?body ?done ?stop ?panic
      case assign =>
        rintro l pre x W K ⟨h1, h2, h3⟩ hK
        have lt := fun {k : Nat} {o : Obj} (e : W.heap[k]? = some o) => (Array.getElem?_eq_some_iff.1 e).1
        gi_wp2
        refine hK _ _ ((KeepsOthers.alloc _ _).from _) ?_ ⟨OwnsC.alloc h1 _, (Below.heap_alloc _ _ _ (lt h2)).trans h2, gallocR h3 _⟩ ⟨W.heap.size, World.alloc_heap_new _ _, rfl⟩
        exact (KeptOn.refl _ _).alloc (fun k hk => Nat.lt_of_lt_of_le (hKW k hk) h3.size) _
      case body =>
        rintro l pre x a' W ⟨h1, h2, h3⟩ ⟨Bx, hx, rfl⟩ ⟨ys, hys⟩
        have hpl : pre.length < rs.length := by rw [← hys]; simp
        have hpx : rs[pre.length] = x := by simp [← hys]
        obtain ⟨hb0, hb1, _⟩ := recsOk_at cs.length z rs (-1) HMK.out pre.length hpl
        rw [hpx] at hb0 hb1
        obtain ⟨fr, bl, da⟩ := x
        simp only at hb0 hb1
        obtain ⟨bk, rfl⟩ := Int.eq_ofNat_of_zero_le (show 0 ≤ bl by omega)
        have r0 := boxed_cell (i := 0) (v := .bool fr) hx rfl
        have r1 := boxed_cell (i := 1) (v := .int .i64 bk) hx rfl
        have r2 := boxed_cell (i := 2) (v := .string da) hx rfl
        have o0 := boxed_cell (i := 0) (v := .slice (some ⟨w.heap.size, 0, none⟩) cs.length cs.length) h2 rfl
        obtain ⟨v0, v1, p0, p1⟩ : ∃ v0 v1, W.cell? ⟨w.heap.size, bk * 2, none⟩ = some v0 ∧ W.cell? ⟨w.heap.size, bk * 2 + 1, none⟩ = some v1 := ⟨_, _, OwnsC.row h1 bk (by rw [setAll_length]; omega)⟩
        obtain ⟨cur, hcur⟩ := OwnsC.block h1
        have z0 : W.frozen? ⟨w.heap.size, bk * 2, none⟩ = false := boxed_frozen hcur
        have z1 : W.frozen? ⟨w.heap.size, bk * 2 + 1, none⟩ = false := boxed_frozen hcur
        have hbk : bk < cs.length := by omega
        have HN : Hid (OwnsC w.heap.size ((W.setCell ⟨w.heap.size, bk * 2, none⟩ (.bool (!fr))).setCell ⟨w.heap.size, bk * 2 + 1, none⟩ (.string da)) (.slice (some ⟨w.heap.size, 0, none⟩) cs.length cs.length) (setAll cs (pre ++ [⟨fr, bk, da⟩]))) := by
          have h := OwnsC.store h1 bk ⟨!fr, da⟩
          rw [setAll_snoc]
          exact h
        have H2 : Hid _ := h2
        have H3 : Hid _ := h3
        clear h1 h2 h3 hx hcur hys hpx hb0 hb1
        gi_wp2
        refine ⟨?_, ?_, HN.out, ?_, ?_⟩
        · exact ((KeepsOthers.setCell _ _ _).trans (KeepsOthers.setCell _ _ _)).from _
        · intro k hk
          have := hKW k hk
          exact (Below.heap_setCell _ _ _ _ (by show k ≠ w.heap.size; omega)).trans (Below.heap_setCell _ _ _ _ (by show k ≠ w.heap.size; omega))
        · exact (Below.heap_setCell _ _ _ _ (by show w.heap.size + 1 ≠ w.heap.size; omega)).trans ((Below.heap_setCell _ _ _ _ (by show w.heap.size + 1 ≠ w.heap.size; omega)).trans H2.out)
        · exact gfresh (gfresh H3.out (Nat.le_refl _)) (Nat.le_refl _)
      case done =>
        rintro D ys W hD rfl ⟨h1, h2, h3⟩ hK
        have o0 := boxed_cell (i := 0) (v := .slice (some ⟨w.heap.size, 0, none⟩) cs.length cs.length) h2 rfl
        have hgp : w.grownBy (W.putObj D (.deferred none)) none := ⟨h3.os, h3.tape, h3.output, by simpa using h3.size, fun j hj hne => (World.putObj_heap_other (by omega)).trans (h3.block j hj hne)⟩
        have HH1 : Hid _ := h1
        clear h1 h2 h3
        gi_wp2
        refine ⟨by simp, .inl ⟨_, _, rfl, run_takeDeferred hK, ?_⟩⟩
        exact ⟨_, results_tmp rfl _ _ _, .slice (some ⟨w.heap.size, 0, none⟩) cs.length cs.length, rfl, ownsRow_putObj HH1.out _ hK rfl, hgp⟩
      case stop =>
        rintro D cd pre W _ _ h
        exact h.elim
      case panic =>
        rintro D ch xs W _ hp
        exact hp.elim
end Go.Proofs.Ytdjmhagclcfnfaa
/- The program's Apply. -/
namespace Go.Proofs.Ytdjmhagclcfnfaa
open Go.RowKit Go.Shelf

theorem saidR_none (n z : Int) : ∀ (rs : List Rc) (last : Int) (i : Int), recsOk n z last rs = true → i ≤ last → saidR rs i = none
  | [], _, _, _, _ => rfl
  | r :: rs, last, i, h, hi => by
    rw [recsOk, Bool.and_eq_true] at h
    obtain ⟨a1, a2, a3⟩ := of_decide_eq_true h.1
    have ih := saidR_none n z rs r.block i h.2 (by omega)
    unfold saidR at *
    rw [List.find?_cons_of_neg (by simp; omega)]
    exact ih
theorem setAll_at (n z : Int) : ∀ (rs : List Rc) (last : Int) (cs : List Cl) (i : Nat) (h : i < cs.length), -1 ≤ last → recsOk n z last rs = true → (setAll cs rs)[i]? = some (chg rs i cs[i])
  | [], last, cs, i, h, _, _ => by
    show cs[i]? = _
    rw [List.getElem?_eq_getElem h]
    rfl
  | r :: rs, last, cs, i, h, hl, hok => by
    rw [recsOk, Bool.and_eq_true] at hok
    obtain ⟨a1, a2, a3⟩ := of_decide_eq_true hok.1
    have ih := setAll_at n z rs r.block (cs.set r.block.toNat ⟨!r.free, r.data⟩) i (by rw [List.length_set]; exact h) (by omega) hok.2
    show (setAll (cs.set r.block.toNat ⟨!r.free, r.data⟩) rs)[i]? = _
    rw [ih]
    congr 1
    by_cases hi : (i : Int) = r.block
    · have e1 : saidR rs i = none := saidR_none n z rs r.block i hok.2 (by omega)
      have e2 : saidR (r :: rs) i = some r := by
        unfold saidR
        rw [List.find?_cons_of_pos (by simp; omega)]
      have hn : r.block.toNat = i := by omega
      unfold chg
      rw [e1, e2]
      simp only [hn, List.getElem_set_self]
      cases hf : r.free with
      | true =>
        rw [hf, if_pos rfl] at a3
        rw [empty_of_size r.data (by omega)]
        rfl
      | false => rfl
    · have e2 : saidR (r :: rs) i = saidR rs i := by
        unfold saidR
        rw [List.find?_cons_of_neg (by simp; omega)]
      unfold chg
      rw [e2, List.getElem_set_ne (by omega)]
theorem setAll_out (n z : Int) (rs : List Rc) (cs : List Cl) (h : recsOk n z (-1) rs = true) : setAll cs rs = outR rs cs := by
  apply List.ext_getElem?
  intro i
  by_cases hi : i < cs.length
  · rw [setAll_at n z rs (-1) cs i hi (by omega) h]
    simp [outR, hi]
  · rw [List.getElem?_eq_none (by rw [setAll_length]; omega), List.getElem?_eq_none (by simp [outR]; omega)]

set_option maxRecDepth 100000 in
set_option maxHeartbeats 2000000 in
theorem papply (l : List UInt8) (sv : Value) (cs : List Cl) (w : World) (hl : l.length ≤ 4611686018427387904) (hc : Cls w.heap.size w sv cs) (hcl : cs.length ≤ 4611686018427387904) :
    Calls Try.prog 22 #[.string ⟨l.toArray⟩, sv] w (ToldA l cs w) := by
  obtain ⟨a, cp, rfl⟩ := hc.slice
  have HC : Hid (∀ W, w.grownBy W none → _) := fun W h => Cls.moved hc (below_of_grown h)
  have HP : Hid (∀ W, _) := fun W => pparse l W hl
  clear hc
  go_enter Try.func22, Try.ntmps22
  go_wp2_with fail
  refine (HP.out _).mono ?_
  rintro e w1 ⟨hg1, (⟨k, hk, rfl⟩ | ⟨f, t, b, z, rs, v, hk, rfl, hown⟩)⟩
  · have hke := parse_err l k hk
    have e1 : (k != 0) = true := by simp; omega
    have HA : Hid (applyR l cs = .inl k) := by
      show _ = _
      unfold applyR
      rw [hk]
    have G1 : Hid _ := hg1
    clear hk hg1 hke
    go_wp2
    refine bodyPost_ret (results_tmp2 rfl _ _ _) rfl ?_
    exact ⟨gallocR G1.out _, .inl ⟨k, HA.out, rfl⟩⟩
  obtain ⟨-, hw, ho⟩ := parse_exact l f t b z rs hk
  obtain ⟨h1, h2, h3, h4, h5, h6, h7, h8, h9⟩ : (0 : Int) ≤ f ∧ (f : Int) ≤ 2147483647 ∧ (1 : Int) ≤ t ∧ (t : Int) ≤ 2147483647 ∧ (f : Int) ≠ t ∧ (1 : Int) ≤ b ∧ (b : Int) ≤ 100 ∧ (1 : Int) ≤ z ∧ (z : Int) ≤ 64 := of_decide_eq_true hw
  obtain ⟨av, lv, cv, rfl⟩ := hown.slice
  obtain ⟨W1, hW1⟩ : ∃ W1, W1 = w1.alloc (.cells #[.int .i64 f, .int .i64 t, .int .i64 b, .int .i64 z, .slice av lv cv] 24) := ⟨_, rfl⟩
  have s1 : Hid (W1.heap[w1.heap.size]? = some (.cells #[.int .i64 f, .int .i64 t, .int .i64 b, .int .i64 z, .slice av lv cv] 24 (0, 0))) := by rw [hW1]; exact World.alloc_heap_new _ _
  have g1 : Hid (w.grownBy W1 none) := by rw [hW1]; exact gallocR hg1 _
  have R1 : Hid (Recs W1.heap.size W1 (.slice av lv cv) rs) := by rw [hW1]; exact (OwnsR.alloc hown _).recs
  have HK : Hid _ := hk
  have HOK : Hid _ := ho
  clear hg1 hown hk hw h1 h2 h3 h4 h5 h6 h8 ho
  go_wp2_with fail
  rw [← hW1]
  clear hW1
  refine (isVolume_any _ cs b z W1 (HC.out _ g1.out) (by omega) (by omega)).mono ?_
  rintro e w2 ⟨rfl, g2⟩
  have G2 : Hid (w.grownBy w2 none) := gtrans g1.out g2
  obtain ⟨c0, c1, c2, c3, c4, -⟩ := box5 (box_kept s1.out g2).1
  have R2 : Hid (Recs w2.heap.size w2 (.slice av lv cv) rs) := Recs.moved R1.out (below_of_grown g2)
  clear g2
  cases hv : volOk cs b z with
  | false =>
    have HA : Hid (applyR l cs = .inl 1) := by
      show _ = _
      unfold applyR
      rw [HK.out]
      simp only [hv]
      rfl
    clear hv
    go_wp2
    refine bodyPost_ret (results_tmp2 rfl _ _ _) rfl ?_
    exact ⟨G2.out, .inl ⟨1, HA.out, rfl⟩⟩
  | true =>
    have hv' := hv
    simp only [volOk, Bool.and_eq_true, decide_eq_true_eq, List.all_eq_true] at hv'
    obtain ⟨hcb, hcd⟩ := hv'
    have hd : ∀ c ∈ cs, c.data.size ≤ 100000 := fun c hc => by
      have := hcd c hc
      split at this <;> omega
    have HA : Hid (applyR l cs = .inr (outR rs cs)) := by
      show _ = _
      unfold applyR
      rw [HK.out]
      simp only [hv]
      rfl
    subst hcb
    clear hv HK hcd
    go_wp2_with fail
    refine (values_any av lv cv w2).mono ?_
    rintro e W3 ⟨rfl, hW3⟩
    have b3 : W3.heap[w2.heap.size]? = some (.cells #[.slice av lv cv] 22 (0, 0)) := by rw [hW3]; exact World.alloc_heap_new _ _
    have g3 : w2.grownBy W3 none := by rw [hW3]; exact galloc _ _ _
    have HCH : Hid (∀ u : Unit, _) := fun _ => changed_any (.slice a cs.length cp) cs w2.heap.size (.slice av lv cv) rs W3 (HC.out _ (gtrans G2.out g3)) (by omega) hd b3 (Recs.moved R2.out (below_of_grown g3)) z HOK.out
    have HSO : Hid _ := setAll_out cs.length z rs cs HOK.out
    have G3 : Hid (w.grownBy W3 none) := gtrans G2.out g3
    clear hW3 b3 g3 hd
    go_wp2_with fail
    refine (HCH.out ()).mono ?_
    rintro e w4 ⟨v4, rfl, o4, g4⟩
    rw [HSO.out] at o4
    obtain ⟨a4, l4, c4', rfl⟩ := OwnsC.slice3 o4
    have O4 : Hid _ := o4
    have G4 : Hid _ := g4
    clear o4 g4
    go_wp2
    refine bodyPost_ret (results_tmp2 rfl _ _ _) rfl ?_
    refine ⟨gtrans G3.out G4.out, .inr ⟨_, _, HA.out, rfl, ?_⟩⟩
    exact OwnsC.base O4.out G3.out.size
end Go.Proofs.Ytdjmhagclcfnfaa
/- The walk of Applies. -/
namespace Go.Proofs.Ytdjmhagclcfnfaa
open Go.RowKit Go.Shelf

/-- All cells of a slice of blocks. -/
theorem Cls.cells {B : Nat} {W : World} {b off l cap : Nat} {cs : List Cl} (h : Cls B W (.slice (some ⟨b, off, none⟩) l cap) cs) : ∀ j v, (clVals cs)[j]? = some v → W.cell? ⟨b, off + j, none⟩ = some v := by
  intro j v hj
  have hlt : j < cs.length * 2 := by rw [← clVals_length]; exact (List.getElem?_eq_some_iff.1 hj).1
  obtain ⟨b', off', e, _, q0, q1⟩ := h.at (k := j / 2) (by omega)
  simp only [Option.some.injEq, Addr.mk.injEq] at e
  obtain ⟨rfl, rfl, _⟩ := e
  obtain ⟨p0, p1⟩ := clVals_at cs (j / 2) (by omega)
  have hm : j % 2 = 0 ∨ j % 2 = 1 := by omega
  rcases hm with hm | hm
  · have e : j = j / 2 * 2 := by omega
    rw [e] at hj ⊢
    rw [p0] at hj; cases hj; exact q0
  · have e : j = j / 2 * 2 + 1 := by omega
    rw [e] at hj ⊢
    rw [p1] at hj; cases hj; exact q1
theorem run_copy_cls (w : World) (ty : TypeId) (g dLen dCap : Nat) (sv : Value) (cs : List Cl) (cur : Array Value) (hg : w.heap[g]? = some (.cells cur 41 (0, 0))) (hR : Cls w.heap.size w sv cs) (hd : cs.length ≤ dLen) (hfit : cs.length * 2 ≤ cur.size) :
    (Builtin.copy_ #[39, 39] ty #[.slice (some ⟨g, 0, none⟩) dLen dCap, sv]).run Try.prog w = .ok (goInt cs.length) (w.setRow g (clVals cs ++ cur.toList.drop (cs.length * 2)).toArray) := by
  obtain ⟨i0, hi, hz0, hz1, hz2⟩ := info_parts Try.infoCl
  obtain ⟨a, cap, rfl⟩ := hR.slice
  have hst := run_storeCells_at Try.prog g 0 41 (clVals cs) 0 cur w hg (by rw [clVals_length]; omega) (clVals_one cs)
  have hl : (Builtin.firstCells 2 cs.length (.slice a cs.length cap)).run Try.prog w = .ok (clVals cs).toArray w := by
    cases cs with
    | nil =>
      cases a with
      | none => simp [Builtin.firstCells, clVals]
      | some ad => simp [Builtin.firstCells, clVals, loadCells, loadCellsFrom]
    | cons r cs' =>
      obtain ⟨b, off, e, _⟩ := hR.at (k := 0) (by simp)
      subst e
      have := run_loadCells_list (P := Try.prog) w ⟨b, off, none⟩ (clVals (r :: cs')) (fun j v hj => by
        rw [Addr.add_lit]; exact hR.cells j v hj)
      rw [clVals_length] at this
      simpa [Builtin.firstCells] using this
  have hm : min cs.length dLen = cs.length := Nat.min_eq_left hd
  simp only [Nat.add_zero, Nat.zero_add, List.take_zero, List.nil_append, clVals_length] at hst
  simp [Builtin.copy_, run_underlying Try.underlying39, Builtin.lenOf, sizeOf, typeInfo, hi, hz1, hm, hl, hst]
theorem Cls.of_block {W : World} {g : Nat} {cur : Array Value} {t : TypeId} {cs : List Cl} (h : W.heap[g]? = some (.cells cur t (0, 0))) (hc : ∀ j, j < cs.length * 2 → cur[j]? = (clVals cs)[j]?) (cap : Nat) : Cls W.heap.size W (.slice (some ⟨g, 0, none⟩) cs.length cap) cs := by
  refine .inr ⟨g, 0, cap, rfl, (Array.getElem?_eq_some_iff.1 h).1, fun j hj => ?_⟩
  obtain ⟨p0, p1⟩ := clVals_at cs j hj
  refine ⟨boxed_cell h ?_, boxed_cell h ?_⟩
  · rw [hc _ (by omega), Nat.zero_add]; exact p0
  · rw [hc _ (by omega), Nat.zero_add]; exact p1

/-- What Apply tells, in one shape. -/
def resA (l : List UInt8) (cs : List Cl) : List Cl × Int :=
  match applyR l cs with
  | .inl k => ([], k)
  | .inr os => (os, 0)
theorem resA_len (l : List UInt8) (cs : List Cl) : (resA l cs).1.length ≤ 100 := by
  unfold resA applyR
  cases h : parseR l with
  | inl k => simp
  | inr v =>
    obtain ⟨f, t, b, z, rs⟩ := v
    obtain ⟨_, hw, ho⟩ := parse_exact l f t b z rs h
    obtain ⟨h1, h2, h3, h4, h5, h6, h7, h8, h9⟩ : (0 : Int) ≤ f ∧ (f : Int) ≤ 2147483647 ∧ (1 : Int) ≤ t ∧ (t : Int) ≤ 2147483647 ∧ (f : Int) ≠ t ∧ (1 : Int) ≤ b ∧ (b : Int) ≤ 100 ∧ (1 : Int) ≤ z ∧ (z : Int) ≤ 64 := of_decide_eq_true hw
    simp only
    cases hv : volOk cs b z with
    | false => simp
    | true =>
      simp only [volOk, Bool.and_eq_true, decide_eq_true_eq] at hv
      simp [outR]
      omega
theorem toldA_shape {l : List UInt8} {cs : List Cl} {w w' : World} {e : Ending} (h : ToldA l cs w e w') :
    ∃ a c, e = .returned (.tuple #[.slice a (resA l cs).1.length c, .int .i64 (resA l cs).2]) ∧ OwnsC w.heap.size w' (.slice a (resA l cs).1.length c) (resA l cs).1 ∧ w.grownBy w' none := by
  obtain ⟨hg, (⟨k, hk, rfl⟩ | ⟨os, v, hk, rfl, ho⟩)⟩ := h
  · have : resA l cs = ([], k) := by unfold resA; rw [hk]
    rw [this]
    exact ⟨none, 0, rfl, World.ownsRow_nil _ _ _ _, hg⟩
  · have : resA l cs = (os, 0) := by unfold resA; rw [hk]
    rw [this]
    obtain ⟨a, c, rfl⟩ := ho.slice
    exact ⟨a, c, rfl, ho, hg⟩
end Go.Proofs.Ytdjmhagclcfnfaa
/- The walk of Applies: on. -/
namespace Go.Proofs.Ytdjmhagclcfnfaa
open Go.RowKit Go.Shelf

theorem below_drewN {N : Nat} {A W : World} (h : Below N A W) (n : Nat) : Below N A (W.drewN n) := ⟨h.os, h.tape, h.output, h.size, h.block⟩

set_option maxRecDepth 100000 in
set_option maxHeartbeats 4000000 in
theorem applies_walk (l : List UInt8) (sv : Value) (cs : List Cl) (w : World) (hl : l.length ≤ 4611686018427387904) (hR : Cls w.heap.size w sv cs) (hlen : cs.length * 24 ≤ 140737488355328) :
    Calls Try.prog 5 #[.string ⟨l.toArray⟩, sv] w fun e w' => e = .returned (.bool true) ∧ w.grownBy w' none := by
  obtain ⟨i0, hi, hz0, hz1, hz2⟩ := info_parts Try.infoCl
  obtain ⟨a, cap, rfl⟩ := hR.slice
  have hmk : ∀ W : World, (Instr.makeSlice 39 (.int .i64 (cs.length + 2)) (.int .i64 (cs.length + 2))).run Try.prog W = .ok (.slice (some ⟨W.heap.size, 0, none⟩) (cs.length + 2) (cs.length + 2)) (W.alloc (.cells (madeCells (Value.agg #[.bool false, .string ⟨#[]⟩]).cells ((cs.length + 2) * 2)) 41)) := by
    intro W
    have := run_make (P := Try.prog) W 39 41 i0 _ Try.underlying39 hi hz0 .i64 .i64 ((cs.length : Int) + 2) ((cs.length : Int) + 2) (by omega) (Int.le_refl _) (by rw [hz2]; omega) (by omega)
    rw [hz1, show ((cs.length : Int) + 2).toNat = cs.length + 2 from by omega] at this
    exact this
  obtain ⟨M, hM⟩ : ∃ M, M = madeCells (Value.agg #[.bool false, .string ⟨#[]⟩]).cells ((cs.length + 2) * 2) := ⟨_, rfl⟩
  have hMs : M.size = (cs.length + 2) * 2 := by rw [hM]; exact size_madeCells _ _
  have hB1 : Below w.heap.size w (w.alloc (.cells M 41)) := (Below.refl _ _).alloc (Nat.le_refl _) _
  have hG1 : (w.alloc (.cells M 41)).heap[w.heap.size]? = some (.cells M 41 (0, 0)) := World.alloc_heap_new _ _
  have hcp := run_copy_cls (w.alloc (.cells M 41)) 3 w.heap.size (cs.length + 2) (cs.length + 2) (.slice a cs.length cap) cs M hG1 (hR.moved hB1) (by omega) (by omega)
  obtain ⟨W2, hW2⟩ : ∃ W2, W2 = (w.alloc (.cells M 41)).setRow w.heap.size (clVals cs ++ M.toList.drop (cs.length * 2)).toArray := ⟨_, rfl⟩
  have hG2 : W2.heap[w.heap.size]? = some (.cells (clVals cs ++ M.toList.drop (cs.length * 2)).toArray 41 (0, 0)) := by
    rw [hW2]; exact setRow_heap _ _ _ _ _ _ hG1
  have hB2 : Below w.heap.size w W2 := by
    rw [hW2]; exact hB1.trans ⟨rfl, rfl, rfl, by simp [World.setRow], fun k hk => setRow_other _ _ _ _ (by omega)⟩
  have hs2 : W2.heap.size = w.heap.size + 1 := by rw [hW2]; simp [World.setRow]
  rw [← hW2] at hcp
  rw [← hM] at hmk
  have HM : Hid _ := hM
  clear hW2 hG1 hB1 hM
  have harr : (clVals cs ++ M.toList.drop (cs.length * 2)).toArray.size = (cs.length + 2) * 2 := by
    simp [clVals_length, hMs]; omega
  generalize hA : (clVals cs ++ M.toList.drop (cs.length * 2)).toArray = A at *
  have HA : Hid _ := hA
  clear hA
  obtain ⟨x1, u1⟩ : ∃ v, W2.cell? ⟨w.heap.size, cs.length * 2 + 1, none⟩ = some v := ⟨_, boxed_cell hG2 (Array.getElem?_eq_getElem (by omega))⟩
  obtain ⟨x2, u2⟩ : ∃ v, W2.cell? ⟨w.heap.size, (cs.length + 1) * 2 + 1, none⟩ = some v := ⟨_, boxed_cell hG2 (Array.getElem?_eq_getElem (by omega))⟩
  have hfr : ∀ o, W2.frozen? ⟨w.heap.size, o, none⟩ = false := fun o => boxed_frozen hG2
  have hne : ¬ cs.length * 2 + 1 = (cs.length + 1) * 2 + 1 := by omega
  have HG2 : Hid _ := hG2
  clear hG2
  have hnil := fun (x : Option Addr) (l c : Nat) (W : World) => Lib.run_eql_slice_nil (P := Try.prog) W 39 41 x l c 0 0 Try.underlying39
  obtain ⟨W3, hW3⟩ : ∃ W3, W3 = (W2.setCell ⟨w.heap.size, cs.length * 2 + 1, none⟩ (.string ⟨#[98, 101, 121, 111, 110, 100]⟩)).setCell ⟨w.heap.size, (cs.length + 1) * 2 + 1, none⟩ (.string ⟨#[98, 101, 121, 111, 110, 100]⟩) := ⟨_, rfl⟩
  have hG3 : W3.heap[w.heap.size]? = some (.cells ((A.setIfInBounds (cs.length * 2 + 1) (.string ⟨#[98, 101, 121, 111, 110, 100]⟩)).setIfInBounds ((cs.length + 1) * 2 + 1) (.string ⟨#[98, 101, 121, 111, 110, 100]⟩)) 41 (0, 0)) := by
    rw [hW3]; exact block_set (block_set HG2.out _) _
  have hB3 : Below w.heap.size w W3 := by
    rw [hW3]; exact (hB2.setCell (p := ⟨w.heap.size, cs.length * 2 + 1, none⟩) (by simp) _).setCell (p := ⟨w.heap.size, (cs.length + 1) * 2 + 1, none⟩) (by simp) _
  have hs3 : W3.heap.size = w.heap.size + 1 := by
    rw [hW3]
    simp only [World.size_setCell]
    exact hs2
  have hRG : Cls W3.heap.size W3 (.slice (some ⟨w.heap.size, 0, none⟩) cs.length (cs.length + 2)) cs := by
    refine Cls.of_block hG3 (fun j hj => ?_) _
    rw [Array.getElem?_setIfInBounds_ne (by omega), Array.getElem?_setIfInBounds_ne (by omega), ← HA.out]
    rw [List.getElem?_toArray, List.getElem?_append_left (by rw [clVals_length]; exact hj)]
  have hz1' : ((A.setIfInBounds (cs.length * 2 + 1) (.string ⟨#[98, 101, 121, 111, 110, 100]⟩)).setIfInBounds ((cs.length + 1) * 2 + 1) (.string ⟨#[98, 101, 121, 111, 110, 100]⟩))[cs.length * 2 + 1]? = some (.string ⟨#[98, 101, 121, 111, 110, 100]⟩) := by
    rw [Array.getElem?_setIfInBounds_ne (by omega), Array.getElem?_setIfInBounds, if_pos rfl, if_pos (by omega)]
  have hz2' : ((A.setIfInBounds (cs.length * 2 + 1) (.string ⟨#[98, 101, 121, 111, 110, 100]⟩)).setIfInBounds ((cs.length + 1) * 2 + 1) (.string ⟨#[98, 101, 121, 111, 110, 100]⟩))[(cs.length + 1) * 2 + 1]? = some (.string ⟨#[98, 101, 121, 111, 110, 100]⟩) := by
    rw [Array.getElem?_setIfInBounds, if_pos rfl, if_pos (by rw [Array.size_setIfInBounds]; omega)]
  have hRs : Cls W3.heap.size W3 (.slice a cs.length cap) cs := hR.moved hB3
  have HG3 : Hid _ := hG3
  have HRG : Hid (∀ W, Below W3.heap.size W3 W → Cls W.heap.size W (.slice (some ⟨w.heap.size, 0, none⟩) cs.length (cs.length + 2)) cs) := fun W h => hRG.moved h
  have HRs : Hid (∀ W, Below W3.heap.size W3 W → Cls W.heap.size W (.slice a cs.length cap) cs) := fun W h => hRs.moved h
  have HE : Hid (∀ W, Below W3.heap.size W3 W → W.cell? ⟨w.heap.size, cs.length * 2 + 1, none⟩ = some (.string ⟨#[98, 101, 121, 111, 110, 100]⟩) ∧ W.cell? ⟨w.heap.size, (cs.length + 1) * 2 + 1, none⟩ = some (.string ⟨#[98, 101, 121, 111, 110, 100]⟩)) := fun W h => ⟨boxed_cell ((h.block _ (by omega)).trans HG3.out) hz1', boxed_cell ((h.block _ (by omega)).trans HG3.out) hz2'⟩
  have HB3 : Hid _ := hB3
  have HRA : Hid (∀ W sv, Cls W.heap.size W sv cs → _) := fun W sv h => rapply l sv cs W hl h (by omega)
  have HPA : Hid (∀ W sv, Cls W.heap.size W sv cs → _) := fun W sv h => papply l sv cs W hl h (by omega)
  have HN := resA_len l cs
  have HT : Hid (∀ w e w', ToldA l cs w e w' → _) := fun w e w' h => toldA_shape h
  clear hG3 hRG hRs hB3 HG2 HA HM hB2 harr hMs hz1' hz2' HG3
  generalize resA l cs = R at *
  obtain ⟨os, k⟩ := R
  simp only at HN HT
  go_enter Try.func5, Try.ntmps5
  go_wp2_with fail
  rw [← hW3]
  clear hmk hcp u1 u2 hfr hW3 hs2 hi hz0 hz1 hz2
  refine (HRA.out W3 _ (HRs.out _ (Below.refl _ _))).mono ?_
  rintro e w4 h4
  obtain ⟨aw, cw, rfl, ow, g4⟩ := HT.out _ _ _ h4
  have OW : Hid (∀ W, Below w4.heap.size w4 W → Cls W.heap.size W (.slice aw os.length cw) os) := fun W h => (OwnsC.cls ow).moved h
  have B4 : Hid (Below W3.heap.size W3 w4) := below_of_grown g4
  have z4 : W3.heap.size ≤ w4.heap.size := g4.size
  clear h4 ow g4
  cases a with
  | none =>
    have hcs : cs = [] := by
      rcases hR with ⟨h0, _⟩ | ⟨b', off', cap', e, _⟩
      · exact h0
      · simp only [Value.slice.injEq] at e; cases e.1
    have HARG : Hid (∀ W, Below W3.heap.size W3 W → Cls W.heap.size W (.slice none 0 0) cs) := fun W _ => .inl ⟨hcs, none, 0, rfl⟩
    clear hR hcs
    go_wp2_with fail
    refine (HPA.out w4 _ (HARG.out w4 B4.out)).mono ?_
    rintro e w5 h5
    obtain ⟨ax, cx, rfl, ox, g5⟩ := HT.out _ _ _ h5
    have B5 : Hid (Below w4.heap.size w4 w5) := below_of_grown g5
    have z5 : w4.heap.size ≤ w5.heap.size := g5.size
    have OX : Hid _ := ox
    clear h5 ox g5
    go_wp2_with fail
    refine (sameC_any _ _ os w5 (OwnsC.cls OX.out) (OW.out w5 B5.out) (by omega)).mono ?_
    rintro e w5' ⟨rfl, n5, h5'⟩
    have O5 : Hid (OwnsC w4.heap.size w5' (.slice ax os.length cx) os) := by rw [h5']; exact OX.out
    have B5' : Hid (Below w4.heap.size w4 w5') := by rw [h5']; exact below_drewN B5.out n5
    have z5' : w4.heap.size ≤ w5'.heap.size := B5'.out.size
    clear h5' OX B5
    go_wp2_with fail
    refine (ownCells_any _ os _ w4.heap.size w5' O5.out (by omega) (by omega)).mono ?_
    rintro e w6 ⟨one, rfl, m6, g6⟩
    have M6 : Hid _ := m6
    have B6 : Hid (Below w4.heap.size w4 w6) := B5'.out.grown g6 (by omega) (OwnsC.own_ge O5.out)
    have z6 : w5'.heap.size ≤ w6.heap.size := g6.size
    have A6 : Hid (Below W3.heap.size W3 w6) := B4.out.trans (B6.out.mono z4)
    clear m6 g6 O5
    go_wp2_with fail
    refine (HPA.out w6 _ (HARG.out w6 A6.out)).mono ?_
    rintro e w7 h7
    obtain ⟨ay, cy, rfl, oy, g7⟩ := HT.out _ _ _ h7
    have B7 : Hid (Below w6.heap.size w6 w7) := below_of_grown g7
    have z7 : w6.heap.size ≤ w7.heap.size := g7.size
    have OY : Hid _ := oy
    clear h7 oy g7
    go_wp2_with fail
    refine (sameC_any _ _ os w7 (OwnsC.cls OY.out) (OW.out w7 (B6.out.trans (B7.out.mono (by omega)))) (by omega)).mono ?_
    rintro e w7' ⟨rfl, n7, h7'⟩
    have O7 : Hid (OwnsC w6.heap.size w7' (.slice ay os.length cy) os) := by rw [h7']; exact OY.out
    have B7' : Hid (Below w6.heap.size w6 w7') := by rw [h7']; exact below_drewN B7.out n7
    have z7' : w6.heap.size ≤ w7'.heap.size := B7'.out.size
    clear h7' OY B7
    go_wp2_with fail
    refine (ownCells_any _ os _ w6.heap.size w7' O7.out (by omega) (by omega)).mono ?_
    rintro e w8 ⟨two, rfl, m8, g8⟩
    have M8 : Hid _ := m8
    have B8 : Hid (Below w6.heap.size w6 w8) := B7'.out.grown g8 (by omega) (OwnsC.own_ge O7.out)
    have z8 : w7'.heap.size ≤ w8.heap.size := g8.size
    clear m8 g8 O7
    go_wp2_with fail
    refine (keptCells_any one _ os.length w6.heap.size w8 (MarkedC.below M6.out B8.out) (by omega)).mono ?_
    rintro e w9 ⟨rfl, g9⟩
    have G9 : Hid _ := g9
    have z9 : w8.heap.size ≤ w9.heap.size := g9.size
    clear g9
    go_wp2_with fail
    refine (keptCells_any two _ os.length w8.heap.size w9 (MarkedC.below M8.out (below_of_grown G9.out)) (by omega)).mono ?_
    rintro e w10 ⟨rfl, g10⟩
    have A10 : Hid (Below W3.heap.size W3 w10) := (A6.out.trans (B8.out.mono (by omega))).grown (gtrans G9.out g10) (by omega) (by simp)
    clear g10
    go_wp2_with fail
    refine (sameC_any _ _ cs w10 (HRG.out _ A10.out) (HRs.out _ A10.out) (by omega)).mono ?_
    rintro e w11 ⟨rfl, n11, h11⟩
    have A11 : Hid (Below W3.heap.size W3 w11) := by rw [h11]; exact below_drewN A10.out n11
    obtain ⟨e1, e2⟩ := HE.out w11 A11.out
    clear h11
    go_wp2
    go_ret
    exact ⟨rfl, gtrans (gbelow HB3.out) (gbelow A11.out)⟩
  | some ad =>
    have HARG : Hid (∀ W, Below W3.heap.size W3 W → Cls W.heap.size W (.slice (some ⟨w.heap.size, 0, none⟩) cs.length (cs.length + 2)) cs) := HRG.out
    clear hR
    go_wp2_with fail
    refine (HPA.out w4 _ (HARG.out w4 B4.out)).mono ?_
    rintro e w5 h5
    obtain ⟨ax, cx, rfl, ox, g5⟩ := HT.out _ _ _ h5
    have B5 : Hid (Below w4.heap.size w4 w5) := below_of_grown g5
    have z5 : w4.heap.size ≤ w5.heap.size := g5.size
    have OX : Hid _ := ox
    clear h5 ox g5
    go_wp2_with fail
    refine (sameC_any _ _ os w5 (OwnsC.cls OX.out) (OW.out w5 B5.out) (by omega)).mono ?_
    rintro e w5' ⟨rfl, n5, h5'⟩
    have O5 : Hid (OwnsC w4.heap.size w5' (.slice ax os.length cx) os) := by rw [h5']; exact OX.out
    have B5' : Hid (Below w4.heap.size w4 w5') := by rw [h5']; exact below_drewN B5.out n5
    have z5' : w4.heap.size ≤ w5'.heap.size := B5'.out.size
    clear h5' OX B5
    go_wp2_with fail
    refine (ownCells_any _ os _ w4.heap.size w5' O5.out (by omega) (by omega)).mono ?_
    rintro e w6 ⟨one, rfl, m6, g6⟩
    have M6 : Hid _ := m6
    have B6 : Hid (Below w4.heap.size w4 w6) := B5'.out.grown g6 (by omega) (OwnsC.own_ge O5.out)
    have z6 : w5'.heap.size ≤ w6.heap.size := g6.size
    have A6 : Hid (Below W3.heap.size W3 w6) := B4.out.trans (B6.out.mono z4)
    clear m6 g6 O5
    go_wp2_with fail
    refine (HPA.out w6 _ (HARG.out w6 A6.out)).mono ?_
    rintro e w7 h7
    obtain ⟨ay, cy, rfl, oy, g7⟩ := HT.out _ _ _ h7
    have B7 : Hid (Below w6.heap.size w6 w7) := below_of_grown g7
    have z7 : w6.heap.size ≤ w7.heap.size := g7.size
    have OY : Hid _ := oy
    clear h7 oy g7
    go_wp2_with fail
    refine (sameC_any _ _ os w7 (OwnsC.cls OY.out) (OW.out w7 (B6.out.trans (B7.out.mono (by omega)))) (by omega)).mono ?_
    rintro e w7' ⟨rfl, n7, h7'⟩
    have O7 : Hid (OwnsC w6.heap.size w7' (.slice ay os.length cy) os) := by rw [h7']; exact OY.out
    have B7' : Hid (Below w6.heap.size w6 w7') := by rw [h7']; exact below_drewN B7.out n7
    have z7' : w6.heap.size ≤ w7'.heap.size := B7'.out.size
    clear h7' OY B7
    go_wp2_with fail
    refine (ownCells_any _ os _ w6.heap.size w7' O7.out (by omega) (by omega)).mono ?_
    rintro e w8 ⟨two, rfl, m8, g8⟩
    have M8 : Hid _ := m8
    have B8 : Hid (Below w6.heap.size w6 w8) := B7'.out.grown g8 (by omega) (OwnsC.own_ge O7.out)
    have z8 : w7'.heap.size ≤ w8.heap.size := g8.size
    clear m8 g8 O7
    go_wp2_with fail
    refine (keptCells_any one _ os.length w6.heap.size w8 (MarkedC.below M6.out B8.out) (by omega)).mono ?_
    rintro e w9 ⟨rfl, g9⟩
    have G9 : Hid _ := g9
    have z9 : w8.heap.size ≤ w9.heap.size := g9.size
    clear g9
    go_wp2_with fail
    refine (keptCells_any two _ os.length w8.heap.size w9 (MarkedC.below M8.out (below_of_grown G9.out)) (by omega)).mono ?_
    rintro e w10 ⟨rfl, g10⟩
    have A10 : Hid (Below W3.heap.size W3 w10) := (A6.out.trans (B8.out.mono (by omega))).grown (gtrans G9.out g10) (by omega) (by simp)
    clear g10
    go_wp2_with fail
    refine (sameC_any _ _ cs w10 (HRG.out _ A10.out) (HRs.out _ A10.out) (by omega)).mono ?_
    rintro e w11 ⟨rfl, n11, h11⟩
    have A11 : Hid (Below W3.heap.size W3 w11) := by rw [h11]; exact below_drewN A10.out n11
    obtain ⟨e1, e2⟩ := HE.out w11 A11.out
    clear h11
    go_wp2
    go_ret
    exact ⟨rfl, gtrans (gbelow HB3.out) (gbelow A11.out)⟩
end Go.Proofs.Ytdjmhagclcfnfaa
/- The statement on Applies. -/
namespace Go.Proofs.Ytdjmhagclcfnfaa
open Go.ChangeShapes Go.WideShapes Go.ChangeAt Go.RowKit
open Go.ChangeMaps (open_string shut_string)

theorem Try.cellsCell : Try.prog.cellsOf 41 = 2 := by kernel_rfl
theorem Try.bytesCell : Try.prog.bytesOf 41 = 24 := by kernel_rfl
theorem list2 {α : Type} : ∀ {l : List α}, l.length = 2 → ∃ a b, l = [a, b]
  | [a, b], _ => ⟨a, b, rfl⟩

set_option maxRecDepth 100000 in
/-- A slice of blocks, opened. -/
theorem open_cls {H : Type} {enc : TypeId × Value → H} {W : World} {base : Nat} {v : Value} {d : DataW H} {p : List MemPlace} (hv : Value.okWide Try.prog W .any base 39 v) (h : DataW.Trod enc Try.prog W 0 (fun _ => true) true 39 v d p) :
    ∃ cs : List Cl, Cls W.heap.size W v cs ∧ (cs = [] ∨ ∃ el sp, d = .slice el sp ∧ el.length = cs.length) := by
  obtain ⟨a0, len0, cap0, rfl⟩ := okWide_slice Try.underlying39 hv
  obtain ⟨fuel, hf⟩ := h
  rcases Deep.open_slice Try.underlying39 hf with ⟨e, hx⟩ | ⟨a, len, cap, m, n, D, Pl, e, hb, hl, hm, hmm, hd, hx⟩
  · simp [Value.cells] at e
    obtain ⟨rfl, rfl, rfl⟩ := e
    exact ⟨[], .inl ⟨rfl, none, 0, rfl⟩, .inl rfl⟩
  · simp [Value.cells] at e
    obtain ⟨rfl, rfl, rfl⟩ := e
    simp only [if_true] at hmm
    subst hmm
    have each : ∀ i, i < len0 → ∃ r : Cl, W.cell? (a.add (i * 2)) = some (.bool r.held) ∧ W.cell? (a.add (i * 2 + 1)) = some (.string r.data) := by
      intro i hi
      obtain ⟨cs', h1, h2⟩ := hx i (by omega)
      rw [Try.cellsCell] at h1
      obtain ⟨_, hlen, hcell⟩ := World.cells?_some h1
      obtain ⟨xs2, k, _, _, _, hl2, hf2⟩ := DataW.trod_struct Try.underlying41 h2
      obtain ⟨y0, y1, rfl⟩ := list2 hl2
      obtain ⟨v0, v1, rfl⟩ := list2 hlen
      have g0 : DataW.trod enc Try.prog W 0 (fun _ => true) true k 4 [v0] = some y0 := by
        have h : DataW.trod enc Try.prog W 0 (fun _ => true) true k 4 (([v0, v1].drop 0).take (Try.prog.cellsOf 4)) = some y0 := hf2 0 _ rfl
        rw [Try.cellsBool] at h
        exact h
      have g1 : DataW.trod enc Try.prog W 0 (fun _ => true) true k 9 [v1] = some y1 := by
        have h : DataW.trod enc Try.prog W 0 (fun _ => true) true k 9 (([v0, v1].drop 1).take (Try.prog.cellsOf 9)) = some y1 := hf2 1 _ rfl
        rw [Try.cellsString] at h
        exact h
      obtain ⟨b0, e0, _⟩ := DataW.trod_bool Try.underlying4 g0
      obtain ⟨s1, e1, _⟩ := DataW.trod_string Try.underlying9 g1
      simp at e0 e1
      subst e0 e1
      have c0 := hcell 0 (by omega)
      have c1 := hcell 1 (by omega)
      rw [Deep.add_add] at c0 c1
      exact ⟨⟨b0, s1⟩, by simpa using c0, by simpa using c1⟩
    obtain ⟨cs, hrl, hrs⟩ : ∃ cs : List Cl, cs.length = len0 ∧ ∀ i (h : i < cs.length), W.cell? (a.add (i * 2)) = some (.bool cs[i].held) ∧ W.cell? (a.add (i * 2 + 1)) = some (.string cs[i].data) := by
      obtain ⟨f, hf⟩ : ∃ f : Nat → Cl, ∀ i, i < len0 → W.cell? (a.add (i * 2)) = some (.bool (f i).held) ∧ W.cell? (a.add (i * 2 + 1)) = some (.string (f i).data) :=
        ⟨fun i => if h : i < len0 then Classical.choose (each i h) else ⟨false, ByteArray.empty⟩, fun i hi => by simp only [dif_pos hi]; exact Classical.choose_spec (each i hi)⟩
      exact ⟨(List.range len0).map f, by simp, fun i hi => by simpa using hf i (by simpa using hi)⟩
    subst hrl
    refine ⟨cs, ?_, .inr ⟨_, _, congrArg Prod.fst hd, by simp⟩⟩
    cases hr0 : cs with
    | nil => exact .inl ⟨rfl, some a, _, rfl⟩
    | cons r cs' =>
      rw [← hr0]
      have hpos : 0 < cs.length := by rw [hr0]; simp
      obtain ⟨b, off, spot⟩ := a
      have hspot : spot = none := by
        have := World.cell?_spot (hrs 0 hpos).1
        simpa [Addr.add] using this
      subst hspot
      refine .inr ⟨b, off, _, rfl, ?_, fun j hj => ?_⟩
      · exact World.block_lt_of_cell? W _ (hrs 0 hpos).1
      · have := hrs j hj
        simpa only [Addr.add_lit, Nat.add_assoc] using this

set_option maxRecDepth 100000 in
theorem applies_lifted (os : Os) (started : os.Started) (H : Type) (enc : TypeId × Value → H) :
    ReturnsInHanded {} Try.checked os 5 .any (Rows.appliesSpec.pre6 enc Try.prog Try.f5 Rows.appliesRow.domain false) (Rows.appliesSpec.post enc Try.prog Try.f5 false true false false) := by
  refine returnsInHanded_of_change_sized (C := Try.checked) Try.own started (by kernel_rfl) Try.func5
    (ChangeSpec.witness6 (enc := enc) (C := Try.checked) false ⟨#[], #[.string ByteArray.empty, .slice none 0 0], []⟩ 8 (by kernel_rfl) (by kernel_rfl) (by kernel_rfl) (by kernel_rfl)) ?_
  intro W base args ds gs before hval0 hW _ hsz0 _
  have hsz : (DataW.weightsEach Try.prog (Try.f5.params.toList ++ Rows.appliesSpec.plain.varTypes Try.prog) (ds ++ gs)).all (· ≤ reachBytes) = true := hsz0
  clear hsz0
  have hval : ∀ (j : Nat) t v, Try.f5.params[j]? = some t → args[j]? = some v → Value.okWide Try.prog W .any base t v := hval0
  have hW' := hW
  obtain ⟨p, q, hA0, hV, rfl, _, _⟩ := hW
  have hA : DataW.TrodAll enc Try.prog W 0 (fun _ => true) true Try.f5.params.toList args.toList ds p := hA0
  rw [Try.params5] at hA hval hsz
  obtain ⟨v0, vs0, d0, ds0, p0, q0, hargs, rfl, rfl, h0, r0⟩ := trodAll_cons hA
  obtain ⟨v1, vs1, d1, ds1, p1, q1, rfl, rfl, rfl, h1, r1⟩ := trodAll_cons r0
  obtain ⟨rfl, rfl, rfl⟩ := trodAll_nil r1
  obtain rfl : args = #[v0, v1] := by cases args; simp_all
  obtain ⟨rfl, rfl⟩ := trodVars_none hV
  obtain ⟨a0, rfl, rfl, rfl, w0⟩ := open_string Try.underlying9 (hval 0 9 v0 rfl rfl) h0
  obtain ⟨cs, hcs, hsh⟩ := open_cls (hval 1 39 v1 rfl rfl) h1
  clear hA0 hval0
  simp only [List.append_nil] at hW'
  have hlt : ∀ x ∈ p1, x.block < W.heap.size := fun x hx => by simpa using hW'.lt x (by simp [hx])
  have hlen : a0.data.toList.length ≤ 4611686018427387904 := by
    have h4 := DataW.weights_mem_each (H := H) (P := Try.prog) (j := 0) (ts := [9, 39] ++ Rows.appliesSpec.plain.varTypes Try.prog) (ds := [.lit (.string a0.data.toList), d1] ++ []) rfl rfl a0.data.toList.length (by simp [DataW.weights])
    have h5 := of_decide_eq_true (List.all_eq_true.1 hsz _ h4)
    simp only [reachBytes] at h5
    omega
  have hlen2 : cs.length * 24 ≤ 140737488355328 := by
    rcases hsh with rfl | ⟨el, sp, rfl, hel⟩
    · simp
    · have hm1 : (el.length + sp.length) * Try.prog.bytesOf 41 ∈ (DataW.slice el sp).weights Try.prog 39 := by simp [DataW.weights, Try.underlying39]
      have h4 := DataW.weights_mem_each (H := H) (P := Try.prog) (j := 1) (ts := [9, 39] ++ Rows.appliesSpec.plain.varTypes Try.prog) (ds := [.lit (.string a0.data.toList), .slice el sp] ++ []) rfl rfl _ hm1
      have h5 := of_decide_eq_true (List.all_eq_true.1 hsz _ h4)
      rw [Try.bytesCell] at h5
      simp only [reachBytes] at h5
      omega
  have hwalk := applies_walk a0.data.toList v1 cs W hlen hcs hlen2
  rw [show (⟨a0.data.toList.toArray⟩ : ByteArray) = a0 from rfl] at hwalk
  refine hwalk.mono fun e W' ⟨he, hg⟩ => ?_
  subst he
  have hb := below_of_grown hg
  refine ⟨_, rfl, _, _, _, [], [] ++ (p1 ++ []), [], hW', ?_, ?_, rfl, hb.frame _, fun h => by cases h⟩
  · exact trodAll_cons_mk (shut_bool Try.underlying4 _) trodAll_mk0
  · exact trodAll_cons_mk (shut_string Try.underlying9 w0) (trodAll_cons_mk (Below.trod Try.laidOut (by kernel_rfl) (of_decide_eq_true (by kernel_rfl)) h1 hb hlt) trodAll_mk0)

theorem applies_holds : Rows.AppliesSaid :=
  OpenClaim.holds_of_wide 5 Try.f5 rfl rfl rfl rfl rfl rfl rfl ⟨rfl, rfl, rfl, rfl, rfl⟩ rfl rfl rfl rfl rfl (by kernel_rfl) Try.func5 (by kernel_rfl)
    (of_decide_eq_true (by kernel_rfl)) (by unfold Func.isWrapper; first | (rw [if_pos (by decide +kernel)]; kernel_rfl) | (rw [if_neg (by decide +kernel)]; exact ⟨rfl, rfl⟩))
    (fun os started H enc _ => applies_lifted os started H enc)
end Go.Proofs.Ytdjmhagclcfnfaa
