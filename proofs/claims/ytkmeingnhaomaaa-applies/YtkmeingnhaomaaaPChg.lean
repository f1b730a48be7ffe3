/- The program's changed. -/
import Derived.Test.YtkmeingnhaomaaaPVol
namespace Go.Proofs.Ytkmeingnhaomaaa
open Go.RowKit Go.Shelf

attribute [local go_sem] Oper.semAt_some

theorem made_zero (n : Nat) : (madeCells #[.bool false, .string ⟨#[]⟩] (n * 2)).toList = clVals (List.replicate n ⟨false, ⟨#[]⟩⟩) := by
  apply List.ext_getElem?
  intro i
  by_cases hi : i < n * 2
  · have h1 : (madeCells #[.bool false, .string ⟨#[]⟩] (n * 2)).toList[i]? = some (#[Value.bool false, .string ⟨#[]⟩][i % 2]!) := by
      rw [Array.getElem?_toList]
      simp [madeCells, hi]
    rw [h1]
    obtain ⟨e0, e1⟩ := clVals_at (List.replicate n ⟨false, ⟨#[]⟩⟩) (i / 2) (by simp; omega)
    rcases (show i % 2 = 0 ∨ i % 2 = 1 by omega) with h | h
    · rw [h, show i = i / 2 * 2 from by omega, e0]
      simp
    · rw [h, show i = i / 2 * 2 + 1 from by omega, e1]
      simp
  · rw [List.getElem?_eq_none (by simp [size_madeCells]; omega), List.getElem?_eq_none (by rw [clVals_length]; simp; omega)]

theorem copied_set (cs : List Cl) (k : Nat) (zr : Cl) (h : k < cs.length) : (cs.take k ++ List.replicate (cs.length - k) zr).set k cs[k] = cs.take (k + 1) ++ List.replicate (cs.length - (k + 1)) zr := by
  rw [List.set_append_right _ _ (by rw [List.length_take]; omega), List.length_take, Nat.min_eq_left (by omega), Nat.sub_self, show cs.length - k = (cs.length - (k + 1)) + 1 from by omega, List.replicate_succ, List.set_cons_zero, List.take_succ_eq_append_getElem h, List.append_assoc]
  rfl

theorem farS {W : World} {g a b o o' : Nat} {x y v1 v2 v3 : Value} (h : W.cell? ⟨a, 0, none⟩ = some v1 ∧ W.cell? ⟨b, 0, none⟩ = some v2 ∧ W.cell? ⟨b, 1, none⟩ = some v3) (ha : g ≠ a) (hb : g ≠ b) :
    ((W.setCell ⟨g, o, none⟩ x).setCell ⟨g, o', none⟩ y).cell? ⟨a, 0, none⟩ = some v1 ∧ ((W.setCell ⟨g, o, none⟩ x).setCell ⟨g, o', none⟩ y).cell? ⟨b, 0, none⟩ = some v2 ∧ ((W.setCell ⟨g, o, none⟩ x).setCell ⟨g, o', none⟩ y).cell? ⟨b, 1, none⟩ = some v3 := by
  refine ⟨?_, ?_, ?_⟩
  · rw [World.cell?_setCell_far _ _ _ _ ha, World.cell?_setCell_far _ _ _ _ ha]
    exact h.1
  · rw [World.cell?_setCell_far _ _ _ _ hb, World.cell?_setCell_far _ _ _ _ hb]
    exact h.2.1
  · rw [World.cell?_setCell_far _ _ _ _ hb, World.cell?_setCell_far _ _ _ _ hb]
    exact h.2.2

/-- A volume behind records, one by one. -/
def setAll (cs : List Cl) (pre : List Rc) : List Cl := pre.foldl (fun o r => o.set r.block.toNat ⟨!r.free, r.data⟩) cs
theorem setAll_snoc (cs : List Cl) (pre : List Rc) (x : Rc) : setAll cs (pre ++ [x]) = (setAll cs pre).set x.block.toNat ⟨!x.free, x.data⟩ := by simp [setAll]
theorem setAll_length (cs : List Cl) : ∀ pre : List Rc, (setAll cs pre).length = cs.length := by
  intro pre
  induction pre generalizing cs with
  | nil => rfl
  | cons x pre ih =>
    show (setAll (cs.set _ _) pre).length = _
    rw [ih, List.length_set]
theorem ownIt_owns {β : Type} (bb : Option Nat) (B B' : Nat) (v : Value) (f : β → List Cl) (hbb : bb = none) : OwnIt bb B' (fun s W => OwnsC B W v (f s)) := by
  subst hbb
  rintro s W W' row ho hg hr
  refine World.ownsRow.kept ho hg ?_
  rcases ho.2 with ⟨rfl, _⟩ | ⟨g, cap, cur, rfl, hb, hgb, _⟩
  · exact .inl rfl
  · refine .inr fun e => ?_
    rcases hr g (by simpa [Value.ownBlock] using e.symm) with e2 | ⟨_, o, ho', hc⟩
    · cases e2
    · rw [hgb] at ho'; cases ho'; cases hc

set_option maxRecDepth 100000 in
set_option maxHeartbeats 2000000 in
theorem changed_any (sv : Value) (cs : List Cl) (Bs : Nat) (vv : Value) (rs : List Rc) (w : World) (hR : Cls w.heap.size w sv cs) (hlen : cs.length ≤ 100) (hd : ∀ c ∈ cs, c.data.size ≤ 100000)
    (hBs : w.heap[Bs]? = some (.cells #[vv] 22 (0, 0))) (hv : Recs w.heap.size w vv rs) (z : Nat) (hok : recsOk cs.length z (-1) rs = true) :
    Calls Try.prog 60 #[sv, .func (.func 92) #[] #[.pointer (some ⟨Bs, 0, none⟩)]] w fun e w' => ∃ v, e = .returned v ∧ OwnsC w.heap.size w' v (setAll cs rs) ∧ w.grownBy w' none := by
  obtain ⟨a, c, rfl⟩ := hR.slice
  obtain ⟨i0, hi, hz0, hz1, hz2⟩ := info_parts Try.infoCl
  have hmk : ∀ W : World, (Instr.makeSlice 39 (.int .i64 cs.length) (.int .i64 cs.length)).run Try.prog W = .ok (.slice (some ⟨W.heap.size, 0, none⟩) cs.length cs.length) (W.alloc (.cells (madeCells (Value.agg #[.bool false, .string ⟨#[]⟩]).cells (cs.length * 2)) 41)) := by
    intro W
    have := run_make (P := Try.prog) W 39 41 i0 _ Try.underlying39 hi hz0 .i64 .i64 (cs.length : Int) (cs.length : Int) (by omega) (Int.le_refl _) (by rw [hz2]; omega) (by omega)
    rw [hz1, show ((cs.length : Int)).toNat = cs.length from by omega] at this
    exact this
  refine (callsIn_wide (n := 9)).1 ?_
  refine callsIn_of_wp_marks Try.func60 rfl trivial ?_ rfl
  simp only [Try.ntmps60, List.size_toArray, List.length_cons, List.length_nil, Nat.reduceAdd, Nat.reduceSub, Array.replicate_succ, Array.replicate_zero, List.push_toArray, List.append_toArray, List.nil_append, List.cons_append]
  gi_wp2
  obtain ⟨M, hM⟩ : ∃ M, M = madeCells #[.bool false, .string ⟨#[]⟩] (cs.length * 2) := ⟨_, rfl⟩
  obtain ⟨W1, hW1⟩ : ∃ W1, W1 = (w.alloc (.cells (madeCells #[.bool false, .string ⟨#[]⟩] (cs.length * 2)) 41)).alloc (.cells #[.slice (some ⟨w.heap.size, 0, none⟩) cs.length cs.length] 39) := ⟨_, rfl⟩
  have hO1 : OwnsC w.heap.size W1 (.slice (some ⟨w.heap.size, 0, none⟩) cs.length cs.length) (List.replicate cs.length ⟨false, ⟨#[]⟩⟩) := by
    refine ⟨clVals_length _, .inr ⟨w.heap.size, cs.length, M, by simp, Nat.le_refl _, ?_, by simp, ?_, ?_, ?_⟩⟩
    · rw [hW1, hM]
      exact (Below.heap_alloc _ _ _ (by simp)).trans (World.alloc_heap_new _ _)
    · exact Nat.le_trans hlen (by decide)
    · rw [hM, size_madeCells]
    · rw [hM, made_zero, List.take_of_length_le (by rw [clVals_length]; exact Nat.le_refl _)]
  have hb1 : W1.heap[w.heap.size + 1]? = some (.cells #[.slice (some ⟨w.heap.size, 0, none⟩) cs.length cs.length] 39 (0, 0)) := by
    rw [hW1]
    have h := World.alloc_heap_new (w.alloc (.cells (madeCells #[.bool false, .string ⟨#[]⟩] (cs.length * 2)) 41)) (.cells #[.slice (some ⟨w.heap.size, 0, none⟩) cs.length cs.length] 39)
    rwa [World.size_alloc] at h
  have hg1 : w.grownBy W1 none := by rw [hW1]; exact gallocR (galloc _ _ _) _
  rw [← hW1]
  have HR : Hid (∀ W, w.grownBy W none → _) := fun W h => Cls.moved hR (below_of_grown h)
  have HD : Hid _ := hd
  have HMK : Hid _ := hok
  have HBS : Hid _ := hBs
  have HVV : Hid _ := hv
  clear hM hW1 hR hd hok hBs hv hmk hz0 hz1 hz2 hi
  gi_loopw [14] (fun i wr => ∃ k : Nat, k ≤ cs.length ∧ i = .int .i64 k ∧ OwnsC w.heap.size wr (.slice (some ⟨w.heap.size, 0, none⟩) cs.length cs.length) (cs.take k ++ List.replicate (cs.length - k) ⟨false, ⟨#[]⟩⟩) ∧ wr.heap[w.heap.size + 1]? = some (.cells #[.slice (some ⟨w.heap.size, 0, none⟩) cs.length cs.length] 39 (0, 0)) ∧ w.grownBy wr none) (fun i _ => cs.length - (intOf i).toNat)
  case atStart => exact ⟨0, Nat.zero_le _, rfl, hO1, hb1, hg1⟩
  case round =>
    obtain ⟨k, hk, rfl, hO, hb, hg⟩ := hrel
    by_cases hlt : k < cs.length
    · obtain ⟨b, off, e, hb', q0, q1⟩ := Cls.at (HR.out _ hg) hlt
      subst e
      have hdk := HD.out cs[k] (List.getElem_mem hlt)
      have hset := copied_set cs k ⟨false, ⟨#[]⟩⟩ hlt
      have HSET : Hid _ := hset
      have HO : Hid _ := hO
      have HB : Hid _ := hb
      have HG : Hid _ := hg
      clear hset hO hb hg hO1 hb1 hg1
      generalize cs[k] = r at *
      gi_wp2_with fail
      obtain ⟨Wc, hWc⟩ : ∃ Wc, Wc = wr.alloc (.cells #[.bool r.held, .string r.data] 41) := ⟨_, rfl⟩
      have hx : Wc.heap[wr.heap.size]? = some (.cells #[.bool r.held, .string r.data] 41 (0, 0)) := by rw [hWc]; exact World.alloc_heap_new _ _
      have hbx : Wc.heap[w.heap.size + 1]? = some (.cells #[.slice (some ⟨w.heap.size, 0, none⟩) cs.length cs.length] 39 (0, 0)) := by rw [hWc]; exact (Below.heap_alloc _ _ _ (Array.getElem?_eq_some_iff.1 HB.out).1).trans HB.out
      have HOC : Hid (OwnsC w.heap.size Wc (.slice (some ⟨w.heap.size, 0, none⟩) cs.length cs.length) (cs.take k ++ List.replicate (cs.length - k) ⟨false, ⟨#[]⟩⟩)) := by rw [hWc]; exact OwnsC.alloc HO.out _
      have HGC : Hid (w.grownBy Wc none) := by rw [hWc]; exact gallocR HG.out _
      have hlc : (cs.take k ++ List.replicate (cs.length - k) (⟨false, ⟨#[]⟩⟩ : Cl)).length = cs.length := by simp; omega
      rw [← hWc]
      have s0 := boxed_cell (i := 0) (v := .slice (some ⟨w.heap.size, 0, none⟩) cs.length cs.length) hbx rfl
      have s1 := boxed_cell (i := 0) (v := .bool r.held) hx rfl
      have s2 := boxed_cell (i := 1) (v := .string r.data) hx rfl
      have hwr : w.heap.size + 1 < wr.heap.size := (Array.getElem?_eq_some_iff.1 HB.out).1
      have HX : Hid _ := hx
      have HBX : Hid _ := hbx
      have HFACT : Hid (∀ W2, Below Wc.drew.heap.size Wc.drew W2 → (W2.cell? ⟨w.heap.size + 1, 0, none⟩ = some (.slice (some ⟨w.heap.size, 0, none⟩) cs.length cs.length) ∧ W2.cell? ⟨wr.heap.size, 0, none⟩ = some (.bool r.held) ∧ W2.cell? ⟨wr.heap.size, 1, none⟩ = some (.string r.data)) ∧ OwnsC w.heap.size W2 (.slice (some ⟨w.heap.size, 0, none⟩) cs.length cs.length) (cs.take k ++ List.replicate (cs.length - k) ⟨false, ⟨#[]⟩⟩) ∧ (∃ u0 u1, W2.cell? ⟨w.heap.size, k * 2, none⟩ = some u0 ∧ W2.cell? ⟨w.heap.size, k * 2 + 1, none⟩ = some u1) ∧ (∀ o, W2.frozen? ⟨w.heap.size, o, none⟩ = false)) := by
        intro W2 hb0
        have hb2 : Below Wc.heap.size Wc W2 := ⟨hb0.os, hb0.tape, hb0.output, hb0.size, hb0.block⟩
        have o2 := OwnsC.kept HOC.out (gbelow hb2)
        obtain ⟨r0, r1⟩ := o2.row k (by rw [hlc]; exact hlt)
        obtain ⟨cur, hcur⟩ := o2.block
        have l1 := (Array.getElem?_eq_some_iff.1 HBX.out).1
        have l2 := (Array.getElem?_eq_some_iff.1 HX.out).1
        exact ⟨⟨(World.cell?_of_block (hb2.block _ l1)).trans s0, (World.cell?_of_block (hb2.block _ l2)).trans s1, (World.cell?_of_block (hb2.block _ l2)).trans s2⟩, o2, ⟨_, _, r0, r1⟩, fun o => boxed_frozen hcur⟩
      clear hWc hx hbx q0 q1
      refine wpIn_wide.2 ?_
      go_region_held3 (fun w' => w'.cell? ⟨w.heap.size + 1, 0, none⟩ = some (.slice (some ⟨w.heap.size, 0, none⟩) cs.length cs.length) ∧ w'.cell? ⟨wr.heap.size, 0, none⟩ = some (.bool r.held) ∧ w'.cell? ⟨wr.heap.size, 1, none⟩ = some (.string r.data))
        (first | exact ⟨s0, s1, s2⟩ | exact K2.out | exact farS K2.out (by omega) (by omega))
        (first | (go_at_call 91; refine (clone_any _ _ hdk).mono ?_; rintro e w2 ⟨rfl, hb2⟩; obtain ⟨k2, o2, ⟨u0, u1, r0, r1⟩, z2⟩ := HFACT.out w2 hb2; have K2 : Hid _ := k2; have O2 : Hid _ := o2; have B2 : Hid _ := hb2; have z20 := z2 (k * 2); have z21 := z2 (k * 2 + 1); clear k2 o2 hb2 z2))
      have HF2 : Hid _ := OwnsC.store O2.out k r
      gi_wp2
      go_roundw
      case rel =>
        have hh := HF2.out
        rw [HSET.out] at hh
        refine ⟨k + 1, by omega, by go_num, hh, ?_, ?_⟩
        · refine (Below.heap_setCell _ _ _ _ (by show w.heap.size + 1 ≠ w.heap.size; omega)).trans ((Below.heap_setCell _ _ _ _ (by show w.heap.size + 1 ≠ w.heap.size; omega)).trans ?_)
          exact (B2.out.block _ (Array.getElem?_eq_some_iff.1 HBX.out).1).trans HBX.out
        · have g2 : w.grownBy w2 none := gtrans HGC.out (gbelow ⟨B2.out.os, B2.out.tape, B2.out.output, B2.out.size, B2.out.block⟩)
          exact gfresh (gfresh g2 (Nat.le_refl _)) (Nat.le_refl _)
      case measure => simp [intOf]; omega
    · obtain rfl : k = cs.length := by omega
      have hlist : cs.take cs.length ++ List.replicate (cs.length - cs.length) (⟨false, ⟨#[]⟩⟩ : Cl) = cs := by simp
      rw [hlist] at hO
      have HO : Hid _ := hO
      have HB : Hid _ := hb
      have HG : Hid _ := hg
      clear hlist hO hb hg hO1 hb1 hg1
      gi_wp2
      have hRw : Recs wr.heap.size wr vv rs := Recs.moved HVV.out (below_of_grown HG.out)
      have hBw : wr.heap[Bs]? = some (.cells #[vv] 22 (0, 0)) := (HG.out.block Bs (Array.getElem?_eq_some_iff.1 HBS.out).1 (by simp)).trans HBS.out
      have hKW : ∀ k, (rs ≠ [] ∧ ∃ off l cap, vv = .slice (some ⟨k, off, none⟩) l cap) → k < w.heap.size := by
        rintro k ⟨hne, off, l, cap, rfl⟩
        exact Recs.block_lt HVV.out hne rfl
      have hgs : w.heap.size ≤ wr.heap.size := HG.out.size
      have hrl := recsOk_length cs.length z rs HMK.out (by omega)
      refine range_law (n := 9) rfl (by decide) (gf := 92) (lb := #[.pointer (some ⟨Bs, 0, none⟩)]) rfl trivial (enters_of Try.func92 (by kernel_rfl) rfl)
        (values_seq 8 (by decide) Bs vv rs (by omega) wr (Array.getElem?_eq_some_iff.1 hBw).1 (boxed_cell hBw rfl) hRw (fun k => rs ≠ [] ∧ ∃ off l cap, vv = .slice (some ⟨k, off, none⟩) l cap) (fun k hk => Nat.lt_of_lt_of_le (hKW k hk) hgs) (fun hne b off l cap e => ⟨hne, off, l, cap, e⟩))
        (Below.refl _ _) (fun k hk => Nat.lt_of_lt_of_le (hKW k hk) hgs) (fun b e => by cases e) (fun _ => rfl)
        (fun pre W => OwnsC w.heap.size W (.slice (some ⟨w.heap.size, 0, none⟩) cs.length cs.length) (setAll cs pre) ∧ W.heap[w.heap.size + 1]? = some (.cells #[.slice (some ⟨w.heap.size, 0, none⟩) cs.length cs.length] 39 (0, 0)) ∧ w.grownBy W none)
        (fun _ _ _ => False)
        (OwnIt.and (ownIt_owns _ _ _ _ _ rfl) (OwnIt.and (ownIt_block _ _ (fun _ => _) (fun _ => rfl)) (ownIt_grown hgs)))
        (fun cd => OwnIt.pure _ _ _)
        ⟨HO.out, HB.out, HG.out⟩
        (fun x a' W => ∃ Bx, W.heap[Bx]? = some (.cells #[.bool x.free, .int .i64 x.block, .string x.data] 34 (0, 0)) ∧ a' = { tmps := #[.slice a cs.length c, .func (.func 92) #[] #[.pointer (some ⟨Bs, 0, none⟩)], undef, undef, .slice none 0 0, .pointer (some ⟨w.heap.size + 1, 0, none⟩), u6, u7, .pointer (some ⟨Bx, 0, none⟩), .slice a cs.length c, .int .i64 cs.length, .slice (some ⟨w.heap.size, 0, none⟩) cs.length cs.length, .slice a cs.length c, .int .i64 cs.length, .int .i64 cs.length, .bool false, u16, u17, u18, u19, u20, u21, u22, u23, u24, u25, u26, u27, u28, .func (.func 92) #[] #[.pointer (some ⟨Bs, 0, none⟩)], .agg #[.bool x.free, .int .i64 x.block, .string x.data], undef, undef, undef, undef, undef, undef, undef, undef, undef, undef, undef], defers := [] })
        (fun x a' => ownIt_some _ fun Bx => OwnIt.and (ownIt_block _ _ (fun _ => _) (fun _ => rfl)) (OwnIt.pure _ _ _))
        ?assign ?body ?done ?stop ?panic
      case assign =>
        rintro l pre x W K ⟨h1, h2, h3⟩ hK
        have lt := fun {k : Nat} {o : Obj} (e : W.heap[k]? = some o) => (Array.getElem?_eq_some_iff.1 e).1
        gi_wp2
        refine hK _ _ ((KeepsOthers.alloc _ _).from _) ?_ ⟨OwnsC.alloc h1 _, (Below.heap_alloc _ _ _ (lt h2)).trans h2, gallocR h3 _⟩ ⟨W.heap.size, World.alloc_heap_new _ _, rfl⟩
        exact (KeptOn.refl _ _).alloc (fun k hk => Nat.lt_of_lt_of_le (hKW k hk) h3.size) _
      case body =>
        rintro l pre x a' W ⟨h1, h2, h3⟩ ⟨Bx, hx, rfl⟩ ⟨ys, hys⟩
        have hpl : pre.length < rs.length := by rw [← hys]; simp
        have hpx : rs[pre.length] = x := by simp [← hys]
        obtain ⟨hb0, hb1, _⟩ := recsOk_at cs.length z rs (-1) HMK.out pre.length hpl
        rw [hpx] at hb0 hb1
        obtain ⟨fr, bl, da⟩ := x
        simp only at hb0 hb1
        obtain ⟨bk, rfl⟩ := Int.eq_ofNat_of_zero_le (show 0 ≤ bl by omega)
        have r0 := boxed_cell (i := 0) (v := .bool fr) hx rfl
        have r1 := boxed_cell (i := 1) (v := .int .i64 bk) hx rfl
        have r2 := boxed_cell (i := 2) (v := .string da) hx rfl
        have o0 := boxed_cell (i := 0) (v := .slice (some ⟨w.heap.size, 0, none⟩) cs.length cs.length) h2 rfl
        obtain ⟨v0, v1, p0, p1⟩ : ∃ v0 v1, W.cell? ⟨w.heap.size, bk * 2, none⟩ = some v0 ∧ W.cell? ⟨w.heap.size, bk * 2 + 1, none⟩ = some v1 := ⟨_, _, OwnsC.row h1 bk (by rw [setAll_length]; omega)⟩
        obtain ⟨cur, hcur⟩ := OwnsC.block h1
        have z0 : W.frozen? ⟨w.heap.size, bk * 2, none⟩ = false := boxed_frozen hcur
        have z1 : W.frozen? ⟨w.heap.size, bk * 2 + 1, none⟩ = false := boxed_frozen hcur
        have hbk : bk < cs.length := by omega
        have HN : Hid (OwnsC w.heap.size ((W.setCell ⟨w.heap.size, bk * 2, none⟩ (.bool (!fr))).setCell ⟨w.heap.size, bk * 2 + 1, none⟩ (.string da)) (.slice (some ⟨w.heap.size, 0, none⟩) cs.length cs.length) (setAll cs (pre ++ [⟨fr, bk, da⟩]))) := by
          have h := OwnsC.store h1 bk ⟨!fr, da⟩
          rw [setAll_snoc]
          exact h
        have H2 : Hid _ := h2
        have H3 : Hid _ := h3
        clear h1 h2 h3 hx hcur hys hpx hb0 hb1
        gi_wp2
        refine ⟨?_, ?_, HN.out, ?_, ?_⟩
        · exact ((KeepsOthers.setCell _ _ _).trans (KeepsOthers.setCell _ _ _)).from _
        · intro k hk
          have := hKW k hk
          exact (Below.heap_setCell _ _ _ _ (by show k ≠ w.heap.size; omega)).trans (Below.heap_setCell _ _ _ _ (by show k ≠ w.heap.size; omega))
        · exact (Below.heap_setCell _ _ _ _ (by show w.heap.size + 1 ≠ w.heap.size; omega)).trans ((Below.heap_setCell _ _ _ _ (by show w.heap.size + 1 ≠ w.heap.size; omega)).trans H2.out)
        · exact gfresh (gfresh H3.out (Nat.le_refl _)) (Nat.le_refl _)
      case done =>
        rintro D ys W hD rfl ⟨h1, h2, h3⟩ hK
        have o0 := boxed_cell (i := 0) (v := .slice (some ⟨w.heap.size, 0, none⟩) cs.length cs.length) h2 rfl
        have hgp : w.grownBy (W.putObj D (.deferred none)) none := ⟨h3.os, h3.tape, h3.output, by simpa using h3.size, fun j hj hne => (World.putObj_heap_other (by omega)).trans (h3.block j hj hne)⟩
        have HH1 : Hid _ := h1
        clear h1 h2 h3
        gi_wp2
        refine ⟨by simp, .inl ⟨_, _, rfl, run_takeDeferred hK, ?_⟩⟩
        exact ⟨_, results_tmp rfl _ _ _, .slice (some ⟨w.heap.size, 0, none⟩) cs.length cs.length, rfl, ownsRow_putObj HH1.out _ hK rfl, hgp⟩
      case stop =>
        rintro D cd pre W _ _ h
        exact h.elim
      case panic =>
        rintro D ch xs W _ hp
        exact hp.elim
end Go.Proofs.Ytkmeingnhaomaaa
