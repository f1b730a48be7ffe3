/- PUnsort, PCanon1, StabM, StabI, PStab1, PStab2, StabN -/
import Derived.Test.YtdjmhagclcfnfaaPSeq2
import Derived.Test.YtdjmhagclcfnfaaPRead3
import Derived.Test.YtdjmhagclcfnfaaPCollect2
import Derived.Test.YtdjmhagclcfnfaaPParse
import Derived.Test.YtdjmhagclcfnfaaTxRCanon
import Derived.ProofKit
import Derived.Test.YtdjmhagclcfnfaaCompM
import Derived.Sort.WalkA
import Derived.Test.YtdjmhagclcfnfaaWell
import Derived.Shelf.SlSortCmp.KitK
import Derived.Deep.LoopGhost
/- The program's iterator over the records of an unsorted text. -/
namespace Go.Proofs.Ytdjmhagclcfnfaa
open Go.RowKit Go.Shelf

attribute [local go_sem] Oper.semAt_some

/-- All are read, and nothing is left; or what can't be read, or is left. -/
def FinU (b z m : Nat) (q : List UInt8) (xs : List Rc) : Prop := ∃ q', walkS (stepG true b z) m (-1) q = (xs, .inr q') ∧ q'.length = 0
def PanU (b z m : Nat) (q : List UInt8) (ch : List PanicEntry) (xs : List Rc) : Prop := ∃ k, ch = gave k ∧ (walkS (stepG true b z) m (-1) q = (xs, .inl k) ∨ (k = 8 ∧ ∃ q', walkS (stepG true b z) m (-1) q = (xs, .inr q') ∧ q'.length ≠ 0))

set_option maxRecDepth 100000 in
set_option maxHeartbeats 2000000 in
theorem unsorted_seq (n : Nat) (hn : 2 ≤ n) (R Bh Bi f t b z m : Nat) (l : List UInt8) (p0 : Nat) (w : World)
    (hr : Rd w R l p0) (hp : p0 ≤ l.length) (hl : l.length ≤ 4611686018427387904) (hz : z ≤ 64) (hm : m ≤ 400)
    (hBh : w.heap[Bh]? = some (.cells #[.int .i64 f, .int .i64 t, .int .i64 b, .int .i64 z, .int .i64 m] 101 (0, 0)))
    (hBi : w.heap[Bi]? = some (.cells #[.pointer (some ⟨R, 0, none⟩)] 122 (0, 0))) :
    SeqW Fence.wide n Try.prog 139 #[.pointer (some ⟨Bi, 0, none⟩), .pointer (some ⟨Bh, 0, none⟩)] encRc (KSeq R Bh Bi Bi) (some R) 6
      (fun pre x => ∃ q', walkS (stepG true b z) (pre.length + 1) (-1) (l.drop p0) = (pre ++ [x], .inr q') ∧ pre.length < m)
      (FinU b z m (l.drop p0))
      (fun pre => pre.length ≤ m ∧ ∃ q', walkS (stepG true b z) pre.length (-1) (l.drop p0) = (pre, .inr q'))
      (PanU b z m (l.drop p0)) w := by
  intro lp J Jx W hW hJ hJx hY h0
  have lt := fun {k : Nat} {o : Obj} (e : w.heap[k]? = some o) => (Array.getElem?_eq_some_iff.1 e).1
  have hws := hW.size
  have lR := hr.lt
  have lh := lt hBh
  have li := lt hBi
  have hr' : Rd W R l p0 := hr.of (hW.block R lR) (hW.block (R - 1) (by omega))
  have hBh' := (hW.block Bh lh).trans hBh
  have hBi' := (hW.block Bi li).trans hBi
  have hRi : R ≠ Bi := fun e => hr.not_box hBi (by decide) e.symm
  have i0 := boxed_cell (i := 0) (v := .pointer (some ⟨R, 0, none⟩)) hBi' rfl
  have g0 := boxed_cell (i := 0) (v := .int .i64 f) hBh' rfl
  have g1 := boxed_cell (i := 1) (v := .int .i64 t) hBh' rfl
  have g2 := boxed_cell (i := 2) (v := .int .i64 b) hBh' rfl
  have g3 := boxed_cell (i := 3) (v := .int .i64 z) hBh' rfl
  have g4 := boxed_cell (i := 4) (v := .int .i64 m) hBh' rfl
  have lR' : R < W.heap.size := Nat.lt_of_lt_of_le lR hws
  have li' : Bi < W.heap.size := Nat.lt_of_lt_of_le li hws
  have lh' : Bh < W.heap.size := Nat.lt_of_lt_of_le lh hws
  have HJ : Hid (OwnItW (some R) W.heap.size (W.heap.size + 6) W.heap.size J) := hJ
  have HJX : Hid (OwnItW (some R) W.heap.size (W.heap.size + 6) W.heap.size Jx) := hJx
  have HY : Hid _ := hY
  have H0 : Hid (J [] W) := h0
  have HR : Hid (Rd W R l p0) := hr'
  have HBI : Hid _ := hBi'
  clear hJ hJx hY h0 hBh hBi hBh' hBi' hr hr' hW lt
  refine callsIn_of_wpAt Try.func139 rfl trivial ?_ rfl
  simp only [Try.ntmps139, List.size_toArray, List.length_cons, List.length_nil, Nat.reduceAdd, Nat.reduceSub, Array.replicate_succ, Array.replicate_zero, List.push_toArray, List.append_toArray, List.nil_append, List.cons_append]
  refine wpAt_seq_k (fun K0 hK0 => ?_)
  gi_wp2
  refine wpAt_seq ?_
  refine wpAt_seq_k (fun K2 hK2 => ?_)
  gi_wp2_with fail
  obtain ⟨WA, hWA⟩ : ∃ WA, WA = W.alloc (.cells #[.func (.yield lp) #[] #[]] 131) := ⟨_, rfl⟩
  have hsA : WA.heap.size = W.heap.size + 1 := by rw [hWA]; simp
  have hyA : WA.heap[W.heap.size]? = some (.cells #[.func (.yield lp) #[] #[]] 131 (0, 0)) := by rw [hWA]; exact World.alloc_heap_new _ _
  have hgA : W.grownBy WA none := by rw [hWA]; exact galloc _ _ _
  have hjA : J [] WA := by rw [hWA]; exact OwnItW.alloc HJ.out _ H0.out
  rw [← hWA]
  clear hWA
  refine ⟨trivial, fun h => by omega, (callsIn_wide.2 (loose_any R f t b z m m WA)).mono ?_⟩
  rintro e W2 ⟨rfl, hW2⟩
  have hs2 : W2.heap.size = W.heap.size + 4 := by rw [hW2]; simp; omega
  have hg2 : WA.grownBy W2 none := by rw [hW2]; exact gallocR (gallocR (galloc _ _ _) _) _
  have hi2 : W2.heap[W.heap.size + 1]? = some (.cells #[.pointer (some ⟨R, 0, none⟩)] 122 (0, 0)) := by
    rw [hW2, ← hsA]
    exact (Below.heap_alloc _ _ _ (by simp; omega)).trans ((Below.heap_alloc _ _ _ (by simp)).trans (World.alloc_heap_new _ _))
  have hh2 : W2.heap[W.heap.size + 2]? = some (.cells #[.int .i64 f, .int .i64 t, .int .i64 b, .int .i64 z, .int .i64 m] 101 (0, 0)) := by
    rw [hW2, show W.heap.size + 2 = WA.heap.size + 1 from by omega]
    refine (Below.heap_alloc _ _ _ (by simp)).trans ?_
    have h := World.alloc_heap_new (WA.alloc (.cells #[.pointer (some ⟨R, 0, none⟩)] 122)) (.cells #[.int .i64 f, .int .i64 t, .int .i64 b, .int .i64 z, .int .i64 m] 101)
    rwa [World.size_alloc] at h
  have hn2 : W2.heap[W.heap.size + 3]? = some (.cells #[.int .i64 m] 3 (0, 0)) := by
    rw [hW2, show W.heap.size + 3 = WA.heap.size + 1 + 1 from by omega]
    have h := World.alloc_heap_new ((WA.alloc (.cells #[.pointer (some ⟨R, 0, none⟩)] 122)).alloc (.cells #[.int .i64 f, .int .i64 t, .int .i64 b, .int .i64 z, .int .i64 m] 101)) (.cells #[.int .i64 m] 3)
    rwa [World.size_alloc, World.size_alloc] at h
  have hj2 : J [] W2 := by rw [hW2]; exact OwnItW.alloc HJ.out _ (OwnItW.alloc HJ.out _ (OwnItW.alloc HJ.out _ hjA))
  rw [show WA.heap.size + 1 = W.heap.size + 2 from by omega, show WA.heap.size + 2 = W.heap.size + 3 from by omega, hsA]
  clear hW2
  have hy2 := (hg2.block W.heap.size (by omega) (by simp)).trans hyA
  have hr2 : Rd W2 R l p0 := Rd.kept (Rd.kept HR.out hgA) hg2
  have hb2 := (hg2.block Bi (by omega) (by simp)).trans ((hgA.block Bi li' (by simp)).trans HBI.out)
  clear hyA hjA hgA hg2 g0 g1 g2 g3 g4 i0
  gi_wp2
  refine wpAt_block ?_
  refine range_lawP (n := n) (f := 139) Try.func139 trivial rfl (by omega) (gf := 142) (lb := #[.pointer (some ⟨W.heap.size + 3, 0, none⟩), .pointer (some ⟨W.heap.size + 1, 0, none⟩), .pointer (some ⟨W.heap.size + 2, 0, none⟩)]) rfl trivial (enters_of Try.func142 (by kernel_rfl) rfl)
    (loose_seq (n - 1) (by omega) R (W.heap.size + 2) (W.heap.size + 1) (W.heap.size + 3) f t b z m m l p0 W2 hr2 hp hl hz (by omega) hh2 hi2 hn2)
    (Below.refl _ _) (fun k hk => by rcases hk with rfl | rfl | rfl | rfl | rfl <;> omega) (fun b e => by cases e; omega) (fun _ => rfl)
    (fun ys A => J ys A ∧ (∃ q, walkS (stepG true b z) ys.length (-1) (l.drop p0) = (ys, .inr q)) ∧ A.heap[W.heap.size]? = some (.cells #[.func (.yield lp) #[] #[]] 131 (0, 0)) ∧ A.heap[Bi]? = some (.cells #[.pointer (some ⟨R, 0, none⟩)] 122 (0, 0)))
    (fun cd ys A => cd = .ret ∧ Jx ys A ∧ ys.length ≤ m ∧ ∃ q', walkS (stepG true b z) ys.length (-1) (l.drop p0) = (ys, .inr q'))
    (fun _ _ _ => False)
    ?hI ?hIx ?hIp ?hFin ⟨hj2, ⟨_, rfl⟩, hy2, hb2⟩
    (fun (x : Rc) (a' : Act) (A : World) => ∃ Bx : Nat, W.heap.size + 6 ≤ Bx ∧ A.heap[Bx]? = some (.cells #[.bool x.free, .int .i64 x.block, .string x.data] 34 (0, 0)) ∧ a' = { tmps := #[.func (.yield lp) #[] #[], .pointer (some ⟨Bi, 0, none⟩), .pointer (some ⟨Bh, 0, none⟩), .pointer (some ⟨W.heap.size, 0, none⟩), .pointer (some ⟨Bx, 0, none⟩), .pointer (some ⟨R, 0, none⟩), .agg #[.int .i64 f, .int .i64 t, .int .i64 b, .int .i64 z, .int .i64 m], .pointer (some ⟨Bh, 4, none⟩), .int .i64 m, .func (.func 142) #[] #[.pointer (some ⟨W.heap.size + 3, 0, none⟩), .pointer (some ⟨W.heap.size + 1, 0, none⟩), .pointer (some ⟨W.heap.size + 2, 0, none⟩)], .agg #[.bool x.free, .int .i64 x.block, .string x.data], undef, undef, undef, undef, undef, undef], defers := [] })
    ?ax ?assign ?body ?done ?stop ?panic
  case hI =>
    rw [hs2]
    exact OwnIt.and (OwnItW.it HJ.out (by omega)) (OwnIt.and (OwnIt.pure _ _ _) (OwnIt.and (ownIt_blockN _ (fun _ => _) (fun _ => rfl) (by simp; omega)) (ownIt_blockN _ (fun _ => _) (fun _ => rfl) (by simpa using hRi))))
  case hIx =>
    rw [hs2]
    intro cd
    exact OwnIt.and (OwnIt.pure _ _ (fun _ => cd = .ret)) (OwnIt.and (OwnItW.it HJX.out (by omega)) (OwnIt.pure _ _ _))
  case hIp =>
    intro ch s A A' row h
    exact h.elim
  case hFin =>
    rintro s A A' row ⟨q', p, h1, h2, h3⟩ hg hr
    refine ⟨q', p, h1, ?_, h3⟩
    refine h2.of (hg.block R h2.lt (fun e => ?_)) (hg.block (R - 1) (by have := h2.lt; omega) (fun e => ?_))
    · rcases hr R e.symm with e2 | ⟨_, o, ho', hc⟩
      · cases e2
      · rw [h2.1] at ho'; cases ho'; cases hc
    · rcases hr (R - 1) e.symm with e2 | ⟨_, o, ho', hc⟩
      · cases e2
      · rw [h2.2] at ho'; cases ho'; cases hc
  case ax =>
    rintro x a' s A A' row ⟨Bx, h1, h2, h3⟩ hg hr
    refine ⟨Bx, h1, (hg.block Bx (Array.getElem?_eq_some_iff.1 h2).1 (fun e => ?_)).trans h2, h3⟩
    rcases hr Bx e.symm with e2 | ⟨_, o, ho', hc⟩
    · cases e2; omega
    · rw [h2] at ho'; cases ho'; cases hc
  case assign =>
    rintro l' pre x A K1 hAN ⟨h1, h2, h3, h5⟩ hK
    have lt := fun {k : Nat} {o : Obj} (e : A.heap[k]? = some o) => (Array.getElem?_eq_some_iff.1 e).1
    gi_wp2
    refine hK _ _ ((KeepsOthers.alloc _ _).from _) ?_ ⟨OwnItW.alloc HJ.out _ h1, h2, (Below.heap_alloc _ _ _ (lt h3)).trans h3, (Below.heap_alloc _ _ _ (lt h5)).trans h5⟩ ⟨A.heap.size, by omega, World.alloc_heap_new _ _, rfl⟩
    refine (KeptOn.refl _ _).alloc (fun k hk => ?_) _
    rcases hk with rfl | rfl | rfl | rfl | rfl <;> omega
  case body =>
    rintro l' ys x a' A ⟨h1, ⟨q, h2⟩, h3, h5⟩ ⟨Bx, hx1, hx, rfl⟩ ⟨q', hq', hlm⟩
    have lt := fun {k : Nat} {o : Obj} (e : A.heap[k]? = some o) => (Array.getElem?_eq_some_iff.1 e).1
    have lx := lt hx
    have c2 := boxed_cell (i := 0) (v := .func (.yield lp) #[] #[]) h3 rfl
    have r0 := boxed_cell (i := 0) (v := .bool x.free) hx rfl
    have r1 := boxed_cell (i := 1) (v := .int .i64 x.block) hx rfl
    have r2 := boxed_cell (i := 2) (v := .string x.data) hx rfl
    obtain ⟨fn, tmps, assign, body, hy, hRd⟩ := HY.out ys x A (by omega) h1 ⟨q', hq', hlm⟩
    have HWK : Hid _ := hq'
    have Y3 : Hid _ := h3
    have Y5 : Hid _ := h5
    clear h1 h2 h3 h5 hx hq'
    gi_wp2
    refine ⟨fun h => by simp [Fence.wide] at h, (roundIn_any hRd).mono ?_⟩
    rintro e A2 (⟨rfl, hj2, hkf, hkp⟩ | ⟨rfl, hjx, hkf⟩)
    · have J2 : Hid _ := hj2
      have KF : Hid (KeepsFrom W2.heap.size A A2) := keeps_up hkf (by omega)
      have KP : Hid _ := hkp
      clear hj2 hkf hkp
      gi_wp2
      refine ⟨KF.out, KeptOn.imp KP.out ?_, J2.out, ⟨q', by rw [List.length_append]; exact HWK.out⟩, ?_, ?_⟩
      · intro k hk
        rcases hk with rfl | rfl | rfl | rfl | rfl
        · exact .inl (.inl rfl)
        · exact .inr ⟨by omega, by omega⟩
        · exact .inr ⟨by omega, by omega⟩
        · exact .inr ⟨by omega, by omega⟩
        · exact .inl (.inr (.inr (.inr (.inr rfl))))
      · exact (KP.out _ (.inr ⟨by omega, by omega⟩)).trans Y3.out
      · exact (KP.out _ (.inl (.inr (.inr (.inl rfl))))).trans Y5.out
    · have J2 : Hid _ := hjx
      have KF : Hid (KeepsFrom W2.heap.size A A2) := keeps_up hkf (by omega)
      clear hjx hkf
      gi_wp2
      exact ⟨KF.out, rfl, J2.out, by rw [List.length_append]; exact hlm, q', by rw [List.length_append]; exact HWK.out⟩
  case done =>
    rintro D ys A hD ⟨q', p, hw, hrd, hpl, hq⟩ ⟨h1, ⟨q, h2⟩, h3, h5⟩ hK
    have hlq : q'.length = l.length - p := by rw [← hq, List.length_drop]
    have H1 : Hid (J ys A) := h1
    have H2 : Hid _ := hw
    have HRD : Hid (Rd A R l p) := hrd
    have i0 := boxed_cell (i := 0) (v := .pointer (some ⟨R, 0, none⟩)) h5 rfl
    have HDK : Hid (A.heap[D]? = some (.deferred (some []))) := hK
    clear h1 h2 h3 h5 hw hrd hq hK
    refine wpAt_of ?_
    gi_wp2_with fail
    refine ⟨trivial, fun h => by omega, (callsIn_wide.2 (nothing_any R l p A HRD.out hpl hl)).mono ?_⟩
    rintro e A2 ⟨hg, (⟨he, rfl⟩ | ⟨he, rfl⟩)⟩
    · have hK2 := (hg.block D (Array.getElem?_eq_some_iff.1 HDK.out).1 (by simp)).trans HDK.out
      have hJ2 : J ys A2 := HJ.out _ A A2 none H1.out hg (fun r e => nomatch e)
      refine ⟨by simp, .inl ⟨_, _, rfl, run_takeDeferred hK2, ?_⟩⟩
      exact .inr ⟨_, rfl, ys, ⟨8, rfl, .inr ⟨rfl, q', H2.out, by omega⟩⟩, OwnItW.putObj HJ.out _ hJ2 (by omega) hK2 rfl⟩
    · have hK2 := (hg.block D (Array.getElem?_eq_some_iff.1 HDK.out).1 (by simp)).trans HDK.out
      have hJ2 : J ys A2 := HJ.out _ A A2 none H1.out hg (fun r e => nomatch e)
      have HK2 : Hid _ := hK2
      have HJ2 : Hid (J ys A2) := hJ2
      have hq0 : q'.length = 0 := by omega
      clear hK2 hJ2 hg he
      gi_wp2
      refine ⟨by simp, .inl ⟨_, _, rfl, run_takeDeferred HK2.out, ?_⟩⟩
      exact ⟨_, results_none rfl _ _ _, .inl ⟨⟨_, rfl⟩, (.inl ⟨ys, ⟨q', H2.out, hq0⟩, OwnItW.putObj HJ.out _ HJ2.out (by omega) HK2.out rfl⟩)⟩⟩
  case stop =>
    rintro D cd ys A hD _ ⟨rfl, h2, h3⟩ hK
    have H2 : Hid (Jx ys A) := h2
    have H3 : Hid _ := h3
    clear h2 h3
    gi_wp2
    refine ⟨by simp, .inl ⟨_, _, rfl, run_takeDeferred hK, ?_⟩⟩
    exact ⟨_, results_none rfl _ _ _, .inl ⟨⟨_, rfl⟩, (.inr ⟨_, H3.out, OwnItW.putObj HJX.out _ H2.out (by omega) hK rfl⟩)⟩⟩
  case panic =>
    rintro D ch ys A hD (⟨⟨k, rfl, hw⟩, h1, ⟨q, h2⟩, _⟩ | ⟨_, h⟩) hK
    · refine ⟨by simp, .inl ⟨_, _, rfl, run_takeDeferred hK, ?_⟩⟩
      exact .inr ⟨_, rfl, ys, ⟨k, rfl, .inl hw⟩, OwnItW.putObj HJ.out _ h1 (by omega) hK rfl⟩
    · exact h.elim
end Go.Proofs.Ytdjmhagclcfnfaa
/- The program's reading of an unsorted text: its head, its records. -/
namespace Go.Proofs.Ytdjmhagclcfnfaa
open Go.RowKit Go.Shelf

set_option maxRecDepth 100000 in
set_option maxHeartbeats 1000000 in
theorem unsHead_any (R : Nat) (l : List UInt8) (w : World) (hr : Rd w R l 0) (hl : l.length ≤ 4611686018427387904) :
    Calls Try.prog 108 #[.pointer (some ⟨R, 0, none⟩)] w fun e w' => w.grownBy w' (some R) ∧
      ((∃ k, openG [83, 84, 82, 85] 18 400 l = .inl k ∧ e = .panicked (gave k)) ∨ (∃ f t b z m, openG [83, 84, 82, 85] 18 400 l = .inr (f, t, b, z, m) ∧ e = .returned (.agg #[.int .i64 (f : Nat), .int .i64 (t : Nat), .int .i64 (b : Nat), .int .i64 (z : Nat), .int .i64 (m : Nat)]) ∧ Rd w' R l 18 ∧ 18 ≤ l.length ∧ wellHead f t b z = true ∧ m ≤ 400)) := by
  have hlt := hr.lt
  have HB : Hid (∀ o : Obj, _) := fun o => pbegin R l [83, 84, 82, 85] rfl 18 (w.alloc o) (Rd.alloc hr o) hl (by omega)
  clear hr
  go_enter Try.func108, Try.ntmps108
  go_wp2_with fail
  refine (HB.out _).mono ?_
  rintro e w1 ⟨hg1, (⟨h1, rfl⟩ | ⟨h1, h2, rfl⟩ | ⟨h1, h2, f, t, b, z, m, hh, rfl, hr1⟩)⟩
  · exact ⟨rfl, gtrans (galloc _ _ _) hg1, .inl ⟨2, by unfold openG; rw [if_pos h1], rfl⟩⟩
  · exact ⟨rfl, gtrans (galloc _ _ _) hg1, .inl ⟨3, by unfold openG; rw [if_neg (by omega), if_pos h2], rfl⟩⟩
  have HO2 : Hid (openG [83, 84, 82, 85] 18 400 l = if (wellHead f t b z && decide ((m : Int) ≤ 400)) = true then .inr (f, t, b, z, m) else .inl 4) := by
    show _ = _
    unfold openG
    rw [if_neg (by omega), if_neg (by simpa using h2), hh]
    have e : decide ((m : Int) ≤ 400) = decide (m ≤ 400) := decide_eq_decide.2 (by omega)
    rw [e]
    simp
  have HG1 : Hid _ := hg1
  have HR1 : Hid (Rd w1 R l 18) := hr1
  clear hg1 hr1 HB hh h2
  go_wp2_with fail
  refine (fits_any f t b z m 400 _).mono ?_
  rintro e w2 ⟨rfl, hb2⟩
  have hg2 : w1.grownBy w2 none := gtrans (galloc _ _ _) (gbelow hb2)
  have G2 : Hid (w.grownBy w2 (some R)) := gtrans (galloc _ _ _) (gtrans HG1.out (gnone hg2))
  cases hok : (wellHead f t b z && decide ((m : Int) ≤ 400)) with
  | false =>
    have HX : Hid (openG [83, 84, 82, 85] 18 400 l = .inl 4) := by rw [HO2.out, hok]; rfl
    clear hb2 hg2
    go_wp2
    exact ⟨rfl, G2.out, .inl ⟨4, HX.out, rfl⟩⟩
  | true =>
    have HX : Hid (openG [83, 84, 82, 85] 18 400 l = .inr (f, t, b, z, m)) := by rw [HO2.out, hok]; rfl
    have HK : Hid (wellHead f t b z = true ∧ m ≤ 400) := by
      rw [Bool.and_eq_true, decide_eq_true_eq] at hok
      exact ⟨hok.1, by omega⟩
    obtain ⟨hb, hlb⟩ := resBox hlt HG1.out (gnone hg2)
    have hx : w2.heap[w1.heap.size]? = _ := (hb2.block _ (by simp)).trans (World.alloc_heap_new _ _)
    have R2 : Hid (Rd w2 R l 18) := HR1.out.kept hg2
    have hl1 : w.heap.size < w1.heap.size := by have := HG1.out.size; simp at this; omega
    have c0 := boxed_cell (i := 0) hb rfl
    have f0 := boxed_frozen (i := 0) hb
    have d0 := boxed_cell (i := 0) hx rfl
    have c1 := boxed_cell (i := 1) hb rfl
    have f1 := boxed_frozen (i := 1) hb
    have d1 := boxed_cell (i := 1) hx rfl
    have c2 := boxed_cell (i := 2) hb rfl
    have f2 := boxed_frozen (i := 2) hb
    have d2 := boxed_cell (i := 2) hx rfl
    have c3 := boxed_cell (i := 3) hb rfl
    have f3 := boxed_frozen (i := 3) hb
    have d3 := boxed_cell (i := 3) hx rfl
    have c4 := boxed_cell (i := 4) hb rfl
    have f4 := boxed_frozen (i := 4) hb
    have d4 := boxed_cell (i := 4) hx rfl
    clear hb hx hb2 hg2 hok
    go_wp2
    refine bodyPost_ret (v := .agg #[.int .i64 f, .int .i64 t, .int .i64 b, .int .i64 z, .int .i64 m]) (by simp [results, Try.results108, go_sem, c0, c1, c2, c3, c4]) rfl ?_
    exact ⟨gfresh (gfresh (gfresh (gfresh (gfresh G2.out (Nat.le_refl _)) (Nat.le_refl _)) (Nat.le_refl _)) (Nat.le_refl _)) (Nat.le_refl _), .inr ⟨f, t, b, z, m, HX.out, rfl, Rd.set (Rd.set (Rd.set (Rd.set (Rd.set R2.out (by omega)) (by omega)) (by omega)) (by omega)) (by omega), h1, HK.out⟩⟩

/-- An unsorted text's records: the error, or they. -/
def unsR (b z m : Nat) (q : List UInt8) : Int ⊕ List Rc :=
  match walkS (stepG true b z) m (-1) q with
  | (_, .inl k) => .inl k
  | (rs, .inr q') => if q'.length ≠ 0 then .inl 8 else .inr rs
theorem canonR_uns (l : List UInt8) : canonR l = match openG [83, 84, 82, 85] 18 400 l with
    | .inl k => .inl k
    | .inr (f, t, b, z, m) => match unsR b z m (l.drop 18) with
      | .inl k => .inl k
      | .inr rs => .inr (f, t, b, z, lastsR rs b) := by
  unfold canonR unsR
  rcases openG [83, 84, 82, 85] 18 400 l with k | ⟨f, t, b, z, m⟩
  · rfl
  · simp only []
    rcases walkS (stepG true b z) m (-1) (l.drop 18) with ⟨rs, (k | q)⟩
    · rfl
    · simp only []
      by_cases h : q.length ≠ 0
      · rw [if_pos h, if_pos h]
      · rw [if_neg h, if_neg h]
theorem unsR_ok (b z m : Nat) (q : List UInt8) (rs : List Rc) (h : unsR b z m q = .inr rs) : rs.length = m ∧ ∀ r ∈ rs, OkRec b z r := by
  unfold unsR at h
  rcases hw : walkS (stepG true b z) m (-1) q with ⟨xs, (k | q')⟩
  · rw [hw] at h; cases h
  · rw [hw] at h
    simp only [] at h
    by_cases h0 : q'.length ≠ 0
    · rw [if_pos h0] at h; cases h
    · rw [if_neg h0] at h
      cases h
      exact ⟨walkS_length true b z m (-1) q _ q' hw, walkS_okRec true b z m (-1) q _ _ hw⟩

set_option maxRecDepth 100000 in
set_option maxHeartbeats 1000000 in
theorem unsorted_any (R : Nat) (f t b z m : Int) (w : World) :
    Calls Try.prog 110 #[.pointer (some ⟨R, 0, none⟩), .agg #[.int .i64 f, .int .i64 t, .int .i64 b, .int .i64 z, .int .i64 m]] w fun e w' => e = .returned (.func (.func 139) #[] #[.pointer (some ⟨w.heap.size, 0, none⟩), .pointer (some ⟨w.heap.size + 1, 0, none⟩)]) ∧
      w' = (w.alloc (.cells #[.pointer (some ⟨R, 0, none⟩)] 122)).alloc (.cells #[.int .i64 f, .int .i64 t, .int .i64 b, .int .i64 z, .int .i64 m] 101) := by
  have hmf : ∀ (fn : Fn) (first cap : Array Value) (w : World), (Instr.makeFunc fn first cap).run Try.prog w = .ok (.func fn first cap) w := fun _ _ _ _ => rfl
  go_enter Try.func110, Try.ntmps110
  go_wp2
  go_ret
  exact ⟨rfl, rfl⟩

theorem unsorted_told (R f t b z m : Nat) (l : List UInt8) (w : World) (hr : Rd w R l 18) (hp : 18 ≤ l.length) (hl : l.length ≤ 4611686018427387904) (hz : z ≤ 64) (hm : m ≤ 400) :
    Calls Try.prog 110 #[.pointer (some ⟨R, 0, none⟩), .agg #[.int .i64 f, .int .i64 t, .int .i64 b, .int .i64 z, .int .i64 m]] w fun e w' => ∃ fv, e = .returned (.func (.func 139) #[] fv) ∧ w.grownBy w' none ∧
      Calls Try.prog 85 #[.func (.func 139) #[] fv] w' fun e2 w2 => w'.grownBy w2 (some R) ∧
        ((∃ k, unsR b z m (l.drop 18) = .inl k ∧ e2 = .panicked (gave k)) ∨ (∃ rs v, unsR b z m (l.drop 18) = .inr rs ∧ e2 = .returned v ∧ OwnsR w'.heap.size w2 v rs)) := by
  refine (unsorted_any R f t b z m w).mono ?_
  rintro e w' ⟨rfl, hw'⟩
  have hg : w.grownBy w' none := by rw [hw']; exact gallocR (galloc _ _ _) _
  have hs : w'.heap.size = w.heap.size + 2 := by rw [hw']; simp
  have hlR := hr.lt
  have hi : w'.heap[w.heap.size]? = some (.cells #[.pointer (some ⟨R, 0, none⟩)] 122 (0, 0)) := by
    rw [hw']
    exact (Below.heap_alloc _ _ _ (by simp)).trans (World.alloc_heap_new _ _)
  have hh : w'.heap[w.heap.size + 1]? = some (.cells #[.int .i64 f, .int .i64 t, .int .i64 b, .int .i64 z, .int .i64 m] 101 (0, 0)) := by
    rw [hw']
    have h := World.alloc_heap_new (w.alloc (.cells #[.pointer (some ⟨R, 0, none⟩)] 122)) (.cells #[.int .i64 f, .int .i64 t, .int .i64 b, .int .i64 z, .int .i64 m] 101)
    rwa [World.size_alloc] at h
  refine ⟨_, rfl, hg, ?_⟩
  refine (collect_wide w' (enters_of Try.func139 (by kernel_rfl) rfl)
    (unsorted_seq 8 (by decide) R (w.heap.size + 1) w.heap.size f t b z m l 18 w' (Rd.kept hr hg) hp hl hz hm hh hi)
    (fun k hk => by rcases hk with rfl | rfl | rfl | rfl | rfl <;> omega) (fun b hb => by cases hb; omega) (fun pre x hx => by obtain ⟨_, _, h⟩ := hx; omega)).mono ?_
  rintro e w2 ⟨hg2, (⟨xs, v, ⟨q', hw, he⟩, rfl, hown⟩ | ⟨ch, xs, ⟨k, rfl, hk⟩, rfl⟩)⟩
  · refine ⟨hg2, .inr ⟨xs, v, ?_, rfl, hown⟩⟩
    unfold unsR
    rw [hw]
    simp only []
    rw [if_neg (by omega)]
  · refine ⟨hg2, .inl ⟨k, ?_, rfl⟩⟩
    unfold unsR
    rcases hk with hk | ⟨rfl, q', hw, he⟩
    · rw [hk]
    · rw [hw]
      simp only []
      rw [if_pos he]
end Go.Proofs.Ytdjmhagclcfnfaa
/- A stable sort, purely: two in order put into one, one put into those in order. -/
namespace Go.Proofs.Ytdjmhagclcfnfaa

/-- One put in where it belongs. -/
theorem ins_sorted {α : Type} {R : α → α → Prop} (tr : ∀ x y z, R x y → R y z → R x z) {ys : List α} {x : α} {k : Nat} (hk : k ≤ ys.length) (hy : ys.Pairwise R)
    (h1 : k = 0 ∨ ∃ h : k - 1 < ys.length, R ys[k - 1] x) (h2 : k = ys.length ∨ ∃ h : k < ys.length, R x ys[k]) : (ys.take k ++ x :: ys.drop k).Pairwise R := by
  have hg := List.pairwise_iff_getElem.1 hy
  rw [List.pairwise_append, List.pairwise_cons]
  have hlo : ∀ u ∈ ys.take k, R u x := fun u hu => by
    obtain ⟨i, hi, rfl⟩ := List.mem_iff_getElem.1 hu
    rw [List.length_take] at hi
    rw [List.getElem_take]
    rcases h1 with h1 | ⟨hl, h1⟩
    · omega
    · by_cases he : i = k - 1
      · subst he; exact h1
      · exact tr _ _ _ (hg i (k - 1) (by omega) (by omega) (by omega)) h1
  have hhi : ∀ v ∈ ys.drop k, R x v := fun v hv => by
    obtain ⟨i, hi, rfl⟩ := List.mem_iff_getElem.1 hv
    rw [List.length_drop] at hi
    rw [List.getElem_drop]
    rcases h2 with h2 | ⟨hl, h2⟩
    · omega
    · by_cases he : i = 0
      · subst he; exact h2
      · exact tr _ _ _ h2 (hg k (k + i) (by omega) (by omega) (by omega))
  refine ⟨hy.sublist (List.take_sublist _ _), ⟨hhi, hy.sublist (List.drop_sublist _ _)⟩, fun u hu v hv => ?_⟩
  rcases List.mem_cons.1 hv with rfl | hv
  · exact hlo u hu
  · exact tr _ _ _ (hlo u hu) (hhi v hv)
theorem ins_perm {α : Type} (ys : List α) (x : α) (k : Nat) : (ys.take k ++ x :: ys.drop k).Perm (x :: ys) :=
  (List.perm_middle).trans (by rw [List.take_append_drop])

/-- Two in order, parted where they belong: all of the first parts stand ahead of all of the second parts. -/
theorem sym_cross {α : Type} {R : α → α → Prop} (tr : ∀ x y z, R x y → R y z → R x z) {xs ys : List α} {s k : Nat} (hx : xs.Pairwise R) (hy : ys.Pairwise R) (hs : s ≤ xs.length) (hk : k ≤ ys.length)
    (h1 : s = 0 ∨ k = ys.length ∨ ∃ (h : s - 1 < xs.length) (h' : k < ys.length), R xs[s - 1] ys[k])
    (h2 : s = xs.length ∨ k = 0 ∨ ∃ (h : s < xs.length) (h' : k - 1 < ys.length), R ys[k - 1] xs[s]) :
    ∀ u ∈ xs.take s ++ ys.take k, ∀ v ∈ xs.drop s ++ ys.drop k, R u v := by
  have gx := List.pairwise_iff_getElem.1 hx
  have gy := List.pairwise_iff_getElem.1 hy
  intro u hu v hv
  rcases List.mem_append.1 hu with hu | hu <;> rcases List.mem_append.1 hv with hv | hv <;> obtain ⟨i, hi, rfl⟩ := List.mem_iff_getElem.1 hu <;> obtain ⟨j, hj, rfl⟩ := List.mem_iff_getElem.1 hv <;> rw [List.length_take] at hi <;> rw [List.length_drop] at hj <;> rw [List.getElem_take, List.getElem_drop]
  · exact gx i (s + j) (by omega) (by omega) (by omega)
  · rcases h1 with h1 | h1 | ⟨q1, q2, h1⟩
    · omega
    · omega
    · have a1 : i = s - 1 ∨ R xs[i] xs[s - 1] := by
        by_cases he : i = s - 1
        · exact .inl he
        · exact .inr (gx i (s - 1) (by omega) (by omega) (by omega))
      have a2 : j = 0 ∨ R ys[k] ys[k + j] := by
        by_cases he : j = 0
        · exact .inl he
        · exact .inr (gy k (k + j) (by omega) (by omega) (by omega))
      rcases a1 with rfl | a1 <;> rcases a2 with rfl | a2
      · exact h1
      · exact tr _ _ _ h1 a2
      · exact tr _ _ _ a1 h1
      · exact tr _ _ _ a1 (tr _ _ _ h1 a2)
  · rcases h2 with h2 | h2 | ⟨q1, q2, h2⟩
    · omega
    · omega
    · have a1 : i = k - 1 ∨ R ys[i] ys[k - 1] := by
        by_cases he : i = k - 1
        · exact .inl he
        · exact .inr (gy i (k - 1) (by omega) (by omega) (by omega))
      have a2 : j = 0 ∨ R xs[s] xs[s + j] := by
        by_cases he : j = 0
        · exact .inl he
        · exact .inr (gx s (s + j) (by omega) (by omega) (by omega))
      rcases a1 with rfl | a1 <;> rcases a2 with rfl | a2
      · exact h2
      · exact tr _ _ _ h2 a2
      · exact tr _ _ _ a1 h2
      · exact tr _ _ _ a1 (tr _ _ _ h2 a2)
  · exact gy i (k + j) (by omega) (by omega) (by omega)
/-- .. and so, once each is in order, the whole. -/
theorem sym_whole {α : Type} {R : α → α → Prop} (tr : ∀ x y z, R x y → R y z → R x z) {xs ys lo hi : List α} {s k : Nat} (hx : xs.Pairwise R) (hy : ys.Pairwise R) (hs : s ≤ xs.length) (hk : k ≤ ys.length)
    (h1 : s = 0 ∨ k = ys.length ∨ ∃ (h : s - 1 < xs.length) (h' : k < ys.length), R xs[s - 1] ys[k])
    (h2 : s = xs.length ∨ k = 0 ∨ ∃ (h : s < xs.length) (h' : k - 1 < ys.length), R ys[k - 1] xs[s])
    (pl : lo.Perm (xs.take s ++ ys.take k)) (ph : hi.Perm (xs.drop s ++ ys.drop k)) (sl : lo.Pairwise R) (sh : hi.Pairwise R) : (lo ++ hi).Pairwise R ∧ (lo ++ hi).Perm (xs ++ ys) := by
  have hc := sym_cross tr hx hy hs hk h1 h2
  constructor
  · rw [List.pairwise_append]
    exact ⟨sl, sh, fun u hu v hv => hc u (pl.mem_iff.1 hu) v (ph.mem_iff.1 hv)⟩
  · refine (pl.append ph).trans ?_
    have e1 : xs ++ ys = (xs.take s ++ xs.drop s) ++ (ys.take k ++ ys.drop k) := by rw [List.take_append_drop, List.take_append_drop]
    rw [e1, List.append_assoc, List.append_assoc]
    refine List.Perm.append_left _ ?_
    rw [← List.append_assoc, ← List.append_assoc]
    exact List.Perm.append_right _ List.perm_append_comm

/-- Two that change places. -/
def swp {α : Type} (xs : List α) (i j : Nat) : List α := match xs[i]?, xs[j]? with
  | some x, some y => (xs.set i y).set j x
  | _, _ => xs
theorem swp_length {α : Type} (xs : List α) (i j : Nat) : (swp xs i j).length = xs.length := by
  unfold swp
  split <;> simp
theorem swp_at {α : Type} (xs : List α) (i j : Nat) (hi : i < xs.length) (hj : j < xs.length) : swp xs i j = (xs.set i xs[j]).set j xs[i] := by
  unfold swp
  rw [List.getElem?_eq_getElem hi, List.getElem?_eq_getElem hj]
theorem swp_map {α β : Type} (g : α → β) (xs : List α) (i j : Nat) : (swp xs i j).map g = swp (xs.map g) i j := by
  by_cases hi : i < xs.length
  · by_cases hj : j < xs.length
    · rw [swp_at xs i j hi hj, swp_at _ i j (by rw [List.length_map]; exact hi) (by rw [List.length_map]; exact hj), List.map_set, List.map_set, List.getElem_map, List.getElem_map]
    · unfold swp
      rw [List.getElem?_eq_none (by omega : xs.length ≤ j), List.getElem?_eq_none (by rw [List.length_map]; omega : (xs.map g).length ≤ j)]
      cases xs[i]? <;> cases (xs.map g)[i]? <;> rfl
  · unfold swp
    rw [List.getElem?_eq_none (by omega : xs.length ≤ i), List.getElem?_eq_none (by rw [List.length_map]; omega : (xs.map g).length ≤ i)]
theorem swp_parts {α : Type} (p q r : List α) (x y : α) : swp (p ++ x :: (q ++ y :: r)) p.length (p.length + (q.length + 1)) = p ++ y :: (q ++ x :: r) := by
  unfold swp
  have h1 : (p ++ x :: (q ++ y :: r))[p.length]? = some x := by simp
  have h2 : (p ++ x :: (q ++ y :: r))[p.length + (q.length + 1)]? = some y := by
    rw [List.getElem?_append_right (by omega)]
    simp
  rw [h1, h2]
  simp
theorem swp_comm {α : Type} (xs : List α) (i j : Nat) : swp xs i j = swp xs j i := by
  by_cases hi : i < xs.length
  · by_cases hj : j < xs.length
    · rw [swp_at xs i j hi hj, swp_at xs j i hj hi]
      by_cases he : i = j
      · subst he; rfl
      · rw [List.set_comm _ _ (Ne.symm he)]
    · unfold swp
      rw [List.getElem?_eq_none (by omega : xs.length ≤ j)]
      cases xs[i]? <;> rfl
  · unfold swp
    rw [List.getElem?_eq_none (by omega : xs.length ≤ i)]
    cases xs[j]? <;> rfl
/-- One goes a step up. -/
theorem swp_step {α : Type} (p r ys : List α) (x : α) (t : Nat) (ht : t < ys.length) : swp (p ++ (ys.take t ++ x :: ys.drop t) ++ r) (p.length + t) (p.length + t + 1) = p ++ (ys.take (t + 1) ++ x :: ys.drop (t + 1)) ++ r := by
  have h := swp_parts (p ++ ys.take t) [] (ys.drop (t + 1) ++ r) x ys[t]
  have e1 : p ++ (ys.take t ++ x :: ys.drop t) ++ r = (p ++ ys.take t) ++ x :: ([] ++ ys[t] :: (ys.drop (t + 1) ++ r)) := by
    rw [List.drop_eq_getElem_cons ht]
    simp only [List.append_assoc, List.cons_append, List.nil_append]
  have e2 : p ++ (ys.take (t + 1) ++ x :: ys.drop (t + 1)) ++ r = (p ++ ys.take t) ++ ys[t] :: ([] ++ x :: (ys.drop (t + 1) ++ r)) := by
    rw [List.take_succ_eq_append_getElem ht]
    simp only [List.append_assoc, List.cons_append, List.nil_append]
  rw [e1, e2, ← h]
  congr 1
  · rw [List.length_append, List.length_take]; omega
  · rw [List.length_append, List.length_take, List.length_nil]; omega
/-- Two ranges that change places, up to the one with this number. -/
def swr {α : Type} (u v : List α) (p q r : List α) (t : Nat) : List α := p ++ (v.take t ++ u.drop t) ++ q ++ (u.take t ++ v.drop t) ++ r
theorem swr_step {α : Type} (u v p q r : List α) (t : Nat) (hu : t < u.length) (hv : v.length = u.length) : swp (swr u v p q r t) (p.length + t) (p.length + u.length + q.length + t) = swr u v p q r (t + 1) := by
  have hv' : t < v.length := by omega
  have h := swp_parts (p ++ v.take t) (u.drop (t + 1) ++ q ++ u.take t) (v.drop (t + 1) ++ r) u[t] v[t]
  have e1 : swr u v p q r t = (p ++ v.take t) ++ u[t] :: ((u.drop (t + 1) ++ q ++ u.take t) ++ v[t] :: (v.drop (t + 1) ++ r)) := by
    unfold swr
    rw [List.drop_eq_getElem_cons hu, List.drop_eq_getElem_cons hv']
    simp only [List.append_assoc, List.cons_append]
  have e2 : swr u v p q r (t + 1) = (p ++ v.take t) ++ v[t] :: ((u.drop (t + 1) ++ q ++ u.take t) ++ u[t] :: (v.drop (t + 1) ++ r)) := by
    unfold swr
    rw [List.take_succ_eq_append_getElem hu, List.take_succ_eq_append_getElem hv']
    simp only [List.append_assoc, List.cons_append, List.nil_append]
  rw [e1, e2, ← h]
  congr 1
  · rw [List.length_append, List.length_take]; omega
  · simp only [List.length_append, List.length_take, List.length_drop]; omega
theorem swr_start {α : Type} (u v p q r : List α) : swr u v p q r 0 = p ++ u ++ q ++ v ++ r := by simp [swr]
theorem swr_end {α : Type} (u v p q r : List α) (hv : v.length = u.length) : swr u v p q r u.length = p ++ v ++ q ++ u ++ r := by
  unfold swr
  rw [List.take_of_length_le (Nat.le_of_eq hv), List.drop_of_length_le (Nat.le_refl _), List.take_of_length_le (Nat.le_refl _), List.drop_of_length_le (Nat.le_of_eq hv)]
  simp
end Go.Proofs.Ytdjmhagclcfnfaa
/- The insertion sort of the library, purely: those alike stay as they stood. -/
namespace Go.Proofs.Ytdjmhagclcfnfaa

theorem swp_array {α : Type} [Inhabited α] (xs : List α) (i j : Nat) (hi : i < xs.length) (hj : j < xs.length) : Sort.swp xs.toArray i j = (swp xs i j).toArray := by
  rw [swp_at xs i j hi hj]
  unfold Sort.swp
  rw [List.getElem!_toArray, List.getElem!_toArray, getElem!_pos xs i hi, getElem!_pos xs j hj]
  simp
theorem swp_down {α : Type} (p r ys : List α) (x : α) (t : Nat) (ht : t < ys.length) : swp (p ++ (ys.take (t + 1) ++ x :: ys.drop (t + 1)) ++ r) (p.length + t + 1) (p.length + t) = p ++ (ys.take t ++ x :: ys.drop t) ++ r := by
  have h := swp_parts (p ++ ys.take t) [] (ys.drop (t + 1) ++ r) ys[t] x
  have e1 : p ++ (ys.take t ++ x :: ys.drop t) ++ r = (p ++ ys.take t) ++ x :: ([] ++ ys[t] :: (ys.drop (t + 1) ++ r)) := by
    rw [List.drop_eq_getElem_cons ht]
    simp only [List.append_assoc, List.cons_append, List.nil_append]
  have e2 : p ++ (ys.take (t + 1) ++ x :: ys.drop (t + 1)) ++ r = (p ++ ys.take t) ++ ys[t] :: ([] ++ x :: (ys.drop (t + 1) ++ r)) := by
    rw [List.take_succ_eq_append_getElem ht]
    simp only [List.append_assoc, List.cons_append, List.nil_append]
  rw [e1, e2, ← h, swp_comm]
  congr 1
  · rw [List.length_append, List.length_take]; omega
  · rw [List.length_append, List.length_take, List.length_nil]; omega
theorem mid_at {α : Type} (p r ys : List α) (x : α) (t : Nat) (ht : t ≤ ys.length) : (p ++ (ys.take t ++ x :: ys.drop t) ++ r)[p.length + t]? = some x := by
  rw [List.append_assoc, List.getElem?_append_right (by omega), List.append_assoc, List.getElem?_append_right (by rw [List.length_take]; omega)]
  rw [show p.length + t - p.length - (ys.take t).length = 0 from by rw [List.length_take]; omega]
  rfl
theorem mid_under {α : Type} (p r ys : List α) (x : α) (t : Nat) (ht : t < ys.length) : (p ++ (ys.take (t + 1) ++ x :: ys.drop (t + 1)) ++ r)[p.length + t]? = some ys[t] := by
  rw [List.append_assoc, List.getElem?_append_right (by omega), List.append_assoc, List.getElem?_append_left (by rw [List.length_take]; omega)]
  rw [show p.length + t - p.length = t from by omega, List.getElem?_take_of_lt (by omega), List.getElem?_eq_getElem ht]
theorem getB {α : Type} [Inhabited α] {xs : List α} {i : Nat} {x : α} (h : xs[i]? = some x) : xs.toArray[i]! = x := by
  rw [List.getElem!_toArray]
  obtain ⟨h1, h2⟩ := List.getElem?_eq_some_iff.1 h
  rw [getElem!_pos xs i h1, h2]

theorem ins_inner {ρ : Type} [Inhabited (ρ × Nat)] (key : ρ → Int) (lt : ρ × Nat → ρ × Nat → Bool) (hlt : ∀ x y, lt x y = decide (key x.1 < key y.1)) (p ys r : List (ρ × Nat)) (x : ρ × Nat) (hy : ys.Pairwise (tlt key)) (htag : ∀ z ∈ ys, z.2 < x.2) :
    ∀ t, t ≤ ys.length → (t = ys.length ∨ ∃ h : t < ys.length, tlt key x ys[t]) → ∃ k, k ≤ ys.length ∧ Sort.insInner lt p.length (p.length + t) (p ++ (ys.take t ++ x :: ys.drop t) ++ r).toArray = (p ++ (ys.take k ++ x :: ys.drop k) ++ r).toArray ∧ (ys.take k ++ x :: ys.drop k).Pairwise (tlt key)
  | 0, h0, hd => ⟨0, h0, insInner_stop lt _ _ _ (.inl (by omega)), ins_sorted (tlt_trans key) h0 hy (.inl rfl) hd⟩
  | t + 1, h0, hd => by
    have g1 := getB (mid_at p r ys x (t + 1) h0)
    have g2 := getB (mid_under p r ys x t (by omega))
    by_cases hl : key x.1 < key (ys[t]).1
    · have e := insInner_go lt p.length (p.length + (t + 1)) (p ++ (ys.take (t + 1) ++ x :: ys.drop (t + 1)) ++ r).toArray (by omega) (by rw [g1, show p.length + (t + 1) - 1 = p.length + t from by omega, g2, hlt]; exact decide_eq_true hl)
      obtain ⟨k, hk, h1, h2⟩ := ins_inner key lt hlt p ys r x hy htag t (by omega) (.inr ⟨by omega, .inl hl⟩)
      refine ⟨k, hk, ?_, h2⟩
      rw [e, ← h1, show p.length + (t + 1) - 1 = p.length + t from by omega, swp_array _ _ _ (by simp; omega) (by simp; omega)]
      congr 2
      exact swp_down p r ys x t (by omega)
    · refine ⟨t + 1, h0, insInner_stop lt _ _ _ (.inr (by rw [g1, show p.length + (t + 1) - 1 = p.length + t from by omega, g2, hlt]; exact decide_eq_false hl)), ins_sorted (tlt_trans key) h0 hy (.inr ⟨by omega, ?_⟩) hd⟩
      have := htag (ys[t]) (List.getElem_mem _)
      show tlt key ys[t] x
      unfold tlt
      omega
theorem ins_outer {ρ : Type} [Inhabited (ρ × Nat)] (key : ρ → Int) (lt : ρ × Nat → ρ × Nat → Bool) (hlt : ∀ x y, lt x y = decide (key x.1 < key y.1)) (p r : List (ρ × Nat)) : ∀ (us zs : List (ρ × Nat)), zs.Pairwise (tlt key) → us.Pairwise (fun x y => x.2 < y.2) → (∀ z ∈ zs, ∀ u ∈ us, z.2 < u.2) →
    ∃ vs, Sort.insOuter lt p.length (p.length + zs.length + us.length) (p.length + zs.length) (p ++ zs ++ us ++ r).toArray = (p ++ vs ++ r).toArray ∧ vs.Perm (zs ++ us) ∧ vs.Pairwise (tlt key)
  | [], zs, hz, _, _ => ⟨zs, by rw [insOuter_stop lt _ _ _ _ (by simp), List.append_nil], by rw [List.append_nil], hz⟩
  | u :: us, zs, hz, hu, hzu => by
    rw [List.pairwise_cons] at hu
    obtain ⟨k, hk, h1, h2⟩ := ins_inner key lt hlt p zs (us ++ r) u hz (fun z hzm => hzu z hzm u (by simp)) zs.length (Nat.le_refl _) (.inl rfl)
    have hl : (zs.take k ++ u :: zs.drop k).length = zs.length + 1 := by simp; omega
    have hm : ∀ z ∈ zs.take k ++ u :: zs.drop k, z = u ∨ z ∈ zs := fun z hz => by
      rcases List.mem_append.1 hz with h | h
      · exact .inr (List.mem_of_mem_take h)
      · rcases List.mem_cons.1 h with h | h
        · exact .inl h
        · exact .inr (List.mem_of_mem_drop h)
    obtain ⟨vs, e, e2, e3⟩ := ins_outer key lt hlt p r us (zs.take k ++ u :: zs.drop k) h2 hu.2 (fun z hz v hv => by
      rcases hm z hz with rfl | h
      · exact hu.1 v hv
      · exact hzu z h v (by simp [hv]))
    refine ⟨vs, ?_, e2.trans ?_, e3⟩
    · rw [insOuter_go lt _ _ _ _ (by simp), ← e, hl]
      rw [List.take_of_length_le (Nat.le_refl _), List.drop_of_length_le (Nat.le_refl _)] at h1
      rw [show p ++ zs ++ u :: us ++ r = p ++ (zs ++ [u]) ++ (us ++ r) from by simp, h1, List.length_cons]
      congr 1
      · omega
      · simp
    · refine (List.Perm.append_right us (ins_perm zs u k)).trans ?_
      rw [List.cons_append]
      exact List.perm_middle.symm
/-- **The insertion sort of a piece: in order, those alike as they stood.** -/
theorem ins_stable {ρ : Type} [Inhabited (ρ × Nat)] (key : ρ → Int) (lt : ρ × Nat → ρ × Nat → Bool) (hlt : ∀ x y, lt x y = decide (key x.1 < key y.1)) (p us r : List (ρ × Nat)) (hu : us.Pairwise (fun x y => x.2 < y.2)) :
    ∃ vs, Sort.insertionSort lt (p ++ us ++ r).toArray p.length (p.length + us.length) = (p ++ vs ++ r).toArray ∧ vs.Perm us ∧ vs.Pairwise (tlt key) := by
  unfold Sort.insertionSort
  rcases us with _ | ⟨u, us⟩
  · exact ⟨[], insOuter_stop lt _ _ _ _ (by simp), List.Perm.refl _, List.Pairwise.nil⟩
  · rw [List.pairwise_cons] at hu
    obtain ⟨vs, e, e2, e3⟩ := ins_outer key lt hlt p r us [u] (List.pairwise_singleton _ _) hu.2 (fun z hz v hv => by
      rw [List.mem_singleton] at hz
      subst hz
      exact hu.1 v hv)
    refine ⟨vs, ?_, e2, e3⟩
    rw [← e, List.length_singleton, List.length_cons]
    congr 1
    · omega
    · simp
end Go.Proofs.Ytdjmhagclcfnfaa
/- The library's stable sort, at records: ranges that change places, and a range turned. -/
namespace Go.Proofs.Ytdjmhagclcfnfaa
open Go.Shelf Go.RowKit Go.Lib Go.Sort

/-- A record with a mark that is nowhere in the memory. -/
abbrev Tg := Rc × Nat
instance : Inhabited Tg := ⟨(⟨false, 0, ⟨#[]⟩⟩, 0)⟩
def tgE (x : Tg) : List Value := [.bool x.1.free, .int .i64 x.1.block, .string x.1.data]
def tgC (x y : Tg) : Int := Lib.compareInt x.1.block y.1.block
theorem tg_lt (x y : Tg) : ltOf tgC x y = decide (x.1.block < y.1.block) := by
  unfold ltOf tgC Lib.compareInt
  by_cases h1 : x.1.block < y.1.block
  · simp [h1]
  · by_cases h2 : y.1.block < x.1.block <;> simp [h1, h2]
theorem swr_length {α : Type} (u v p q r : List α) (t : Nat) (hv : v.length = u.length) : (swr u v p q r t).length = p.length + u.length + q.length + u.length + r.length := by
  unfold swr
  simp only [List.length_append, List.length_take, List.length_drop]
  omega

/-- What the walks ask of a program. The size of an element is not told: so that an element is loaded and stored at once. -/
structure StabL (P : Program) (k : Nat) : Prop where
  mixed : P.follows .mixedOrders = true
  fSwap : P.funcs[177]? = some Try.f177
  fRot : P.funcs[176]? = some Try.f176
  fSym : P.funcs[172]? = some Try.f172
  fCmp : P.funcs[136]? = some Try.f136
  t3 : P.underlying 3 = some (TypeDesc.int IntKind.i64)
  a3 : ∀ w, (isAgg 3).run P w = .ok false w
  z3 : ∀ w, (Go.sizeOf 3).run P w = .ok 1 w
  v3 : ∀ w, (zeroValue 3).run P w = .ok (Value.int IntKind.i64 0) w
  t4 : P.underlying 4 = some TypeDesc.bool
  a4 : ∀ w, (isAgg 4).run P w = .ok false w
  z4 : ∀ w, (Go.sizeOf 4).run P w = .ok 1 w
  v4 : ∀ w, (zeroValue 4).run P w = .ok (Value.bool false) w
  tU : P.underlying 161 = some (TypeDesc.int IntKind.u64)
  aU : ∀ w, (isAgg 161).run P w = .ok false w
  zU : ∀ w, (Go.sizeOf 161).run P w = .ok 1 w
  vU : ∀ w, (zeroValue 161).run P w = .ok (Value.int IntKind.u64 0) w
  tS : P.underlying 22 = some (TypeDesc.slice 34)
  aS : ∀ w, (isAgg 22).run P w = .ok false w
  zS : ∀ w, (Go.sizeOf 22).run P w = .ok 1 w
  vS : ∀ w, (zeroValue 22).run P w = .ok (Value.slice none 0 0) w
  aE : ∀ w, (isAgg 34).run P w = .ok true w
  zE : ∀ w, (Go.sizeOf 34).run P w = .ok k w
theorem Try.stabL : StabL Try.prog 3 :=
  ⟨by kernel_rfl, Try.func177, Try.func176, Try.func172, Try.func136,
    Try.underlying3, Try.isAgg3, Try.sizeOf3, Try.zeroValue3, Try.underlying4, Try.isAgg4, Try.sizeOf4, Try.zeroValue4, Try.underlying161, Try.isAgg161, Try.sizeOf161, Try.zeroValue161,
    Try.underlying22, Try.isAgg22, Try.sizeOf22, Try.zeroValue22, Try.isAgg34, Try.sizeOf34⟩

set_option maxHeartbeats 4000000 in
set_option maxRecDepth 1000000 in
theorem swapRange_any {P : Program} {k : Nat} (L : StabL P k) (g cap cf a b n : Nat) (p u q v r : List Tg) (d0 : Array Tg) (w0 W : World) (R : RowK tgE k w0 g 0 d0) (hs : d0.size = p.length + u.length + q.length + u.length + r.length) (hv : v.length = u.length) (ha : a = p.length) (hn : n = u.length) (hb : b = p.length + u.length + q.length)
    (S : SWK tgE k w0 g 0 (p ++ u ++ q ++ v ++ r).toArray W) (hsz : d0.size ≤ 400) :
    Calls P 177 #[.slice (some ⟨g, 0, none⟩) d0.size cap, .int .i64 a, .int .i64 b, .int .i64 n, .func (.func cf) #[] #[]] W fun e w' => e = .returned (.tuple #[]) ∧ SWK tgE k w0 g 0 (p ++ v ++ q ++ u ++ r).toArray w' := by
  have S0 : Aside (SWK tgE k w0 g 0 (swr u v p q r 0).toArray W) := by show SWK _ _ _ _ _ _ _; rw [swr_start]; exact S
  have HE : Hid _ := swr_end u v p q r hv
  have HL : Hid (∀ t, (swr u v p q r t).toArray.size = d0.size) := fun t => by rw [List.size_toArray, swr_length u v p q r t hv, hs]
  have HT : Hid (∀ t, t < n → Sort.swp (swr u v p q r t).toArray (a + t) (b + t) = (swr u v p q r (t + 1)).toArray) := fun t ht => by
    rw [swp_array _ _ _ (by rw [swr_length u v p q r t hv]; omega) (by rw [swr_length u v p q r t hv]; omega), ha, hb, swr_step u v p q r t (by omega) hv]
  have HB : b + n ≤ d0.size := by omega
  have HA : a + n ≤ b := by omega
  rw [← hn] at HE
  have mixed := L.mixed; have t3 := L.t3; have a3 := L.a3; have z3 := L.z3; have v3 := L.v3; have t4 := L.t4; have a4 := L.a4; have z4 := L.z4; have v4 := L.v4; have tS := L.tS; have aS := L.aS; have zS := L.zS; have vS := L.vS; have aE := L.aE; have zE := L.zE
  clear S hs ha hn hb
  go_enter L.fSwap, Try.ntmps177
  go_wp2
  go_loopg [10] n (fun kx s10 wr => ∃ (t : Nat), s10 = .int .i64 t ∧ t ≤ n ∧ n - t ≤ kx ∧ Aside (SWK tgE k w0 g 0 (swr u v p q r t).toArray wr))
  case atStart => exact ⟨0, rfl, Nat.zero_le _, Nat.sub_le _ _, S0⟩
  case round =>
    clear S0
    obtain ⟨t, rfl, ht, hkx, S1⟩ := hrel
    by_cases hlt : t < n
    · have hltz : (t : Int) < (n : Int) := by omega
      have hq := HL.out t
      have ea : ((a : Int) + (t : Int)).toNat = a + t := by omega
      have pa : (0 : Int) ≤ (a : Int) + (t : Int) := by omega
      have ba : (a : Int) + (t : Int) < (d0.size : Int) := by omega
      have ra : IntKind.i64.wrap ((a : Int) + (t : Int)) = (a : Int) + (t : Int) := by rw [IntKind.wrap_i64]; omega
      have ec : ((b : Int) + (t : Int)).toNat = b + t := by omega
      have pc : (0 : Int) ≤ (b : Int) + (t : Int) := by omega
      have bc : (b : Int) + (t : Int) < (d0.size : Int) := by omega
      have rc : IntKind.i64.wrap ((b : Int) + (t : Int)) = (b : Int) + (t : Int) := by rw [IntKind.wrap_i64]; omega
      have S2 : Aside (SWK tgE k w0 g 0 (Sort.swp (swr u v p q r t).toArray (a + t) (b + t)) ((wr.drew.setCells g (0 + (a + t) * k) (tgE (swr u v p q r t).toArray[b + t]!)).setCells g (0 + (b + t) * k) (tgE (swr u v p q r t).toArray[a + t]!))) := S1.out.swapped R (a + t) (b + t) (by omega) (by omega)
      rw [HT.out t hlt] at S2
      have la := S1.out.ld1 R hq P (a + t) (by omega)
      have lb := S1.out.ld1 R hq P (b + t) (by omega)
      have sa := S1.out.st1 R hq P (a + t) (by omega) (swr u v p q r t).toArray[b + t]!
      have sb := S1.out.st2 R hq P (a + t) (b + t) (by omega) (by omega) (swr u v p q r t).toArray[b + t]! (swr u v p q r t).toArray[a + t]!
      have na : (tgE (swr u v p q r t).toArray[a + t]!).length = k := R.hk _
      have nb : (tgE (swr u v p q r t).toArray[b + t]!).length = k := R.hk _
      generalize tgE (swr u v p q r t).toArray[a + t]! = cI at S2 la sb na
      generalize tgE (swr u v p q r t).toArray[b + t]! = cJ at S2 lb sa sb nb
      clear S1 hq
      rw [Nat.zero_add] at la lb sa
      rw [Nat.zero_add, Nat.zero_add] at sb
      rw [Nat.zero_add, Nat.zero_add] at S2
      go_wp2_with fail
      go_big_region_o
      clear la lb sa sb
      generalize (wr.drew.setCells g ((a + t) * k) cJ).setCells g ((b + t) * k) cI = w2 at S2 ⊢
      go_wp2
      go_roundg (n - (t + 1))
      case measure => omega
      case rel => exact ⟨t + 1, by go_num, by omega, Nat.le_refl _, S2⟩
    · have hltz : ¬ (t : Int) < (n : Int) := by omega
      obtain rfl : t = n := by omega
      go_wp2
      go_end0
      have S3 : Aside (SWK tgE k w0 g 0 (p ++ v ++ q ++ u ++ r).toArray wr) := by show SWK _ _ _ _ _ _ _; rw [← HE.out]; exact S1.out
      clear S1
      simp only [List.append_assoc] at S3
      exact ⟨rfl, S3.out⟩

end Go.Proofs.Ytdjmhagclcfnfaa
/- The library's stable sort, at records: a range turned. -/
namespace Go.Proofs.Ytdjmhagclcfnfaa
open Go.Shelf Go.RowKit Go.Lib Go.Sort

set_option maxHeartbeats 4000000 in
set_option maxRecDepth 1000000 in
/-- 'x u v y' becomes 'x v u y'. -/
theorem rotate_any {P : Program} {k : Nat} (L : StabL P k) (g cap cf a m b : Nat) (p u v r : List Tg) (d0 : Array Tg) (w0 W : World) (R : RowK tgE k w0 g 0 d0) (hs : d0.size = p.length + u.length + v.length + r.length) (ha : a = p.length) (hm : m = p.length + u.length) (hb : b = p.length + u.length + v.length) (hu : 1 ≤ u.length) (hv : 1 ≤ v.length)
    (S : SWK tgE k w0 g 0 (p ++ u ++ v ++ r).toArray W) (hsz : d0.size ≤ 400) :
    Calls P 176 #[.slice (some ⟨g, 0, none⟩) d0.size cap, .int .i64 a, .int .i64 m, .int .i64 b, .func (.func cf) #[] #[]] W fun e w' => e = .returned (.tuple #[]) ∧ SWK tgE k w0 g 0 (p ++ v ++ u ++ r).toArray w' := by
  have S0 : Aside (SWK tgE k w0 g 0 (p ++ u ++ v ++ r).toArray W) := S
  have HC : Hid (∀ (a b n : Int) (p u q v r : List Tg) W, d0.size = p.length + u.length + q.length + u.length + r.length → v.length = u.length → a = p.length → n = u.length → b = (p.length + u.length + q.length : Nat) → SWK tgE k w0 g 0 (p ++ u ++ q ++ v ++ r).toArray W →
      Calls P 177 #[.slice (some ⟨g, 0, none⟩) d0.size cap, .int .i64 a, .int .i64 b, .int .i64 n, .func (.func cf) #[] #[]] W fun e w' => e = .returned (.tuple #[]) ∧ SWK tgE k w0 g 0 (p ++ v ++ q ++ u ++ r).toArray w') := fun a b n p u q v r W h1 h2 h3 h4 h5 h6 => by
    subst h3 h4 h5
    exact swapRange_any L g cap cf _ _ _ p u q v r d0 w0 W R h1 h2 rfl rfl rfl h6 hsz
  obtain ⟨hs1, hs2⟩ : d0.size ≤ p.length + u.length + v.length + r.length ∧ p.length + u.length + v.length + r.length ≤ d0.size := ⟨by omega, by omega⟩
  obtain ⟨ha1, ha2⟩ : a ≤ p.length ∧ p.length ≤ a := ⟨by omega, by omega⟩
  obtain ⟨hm1, hm2⟩ : m ≤ p.length + u.length ∧ p.length + u.length ≤ m := ⟨by omega, by omega⟩
  obtain ⟨hb1, hb2⟩ : b ≤ p.length + u.length + v.length ∧ p.length + u.length + v.length ≤ b := ⟨by omega, by omega⟩
  clear hs ha hm hb
  have mixed := L.mixed; have t3 := L.t3; have a3 := L.a3; have z3 := L.z3; have v3 := L.v3; have t4 := L.t4; have a4 := L.a4; have z4 := L.z4; have v4 := L.v4; have tS := L.tS; have aS := L.aS; have zS := L.zS; have vS := L.vS; have aE := L.aE; have zE := L.zE
  have eS : ∀ args w, (callFunc 177 args).run P w = .ok (.enter 177 args) w := enters_of L.fSwap (by kernel_rfl) rfl
  clear S
  go_enter L.fRot, Try.ntmps176
  go_wp2
  go_loopg [10, 11] (u.length + v.length) (fun kx s10 s11 wr => ∃ (A x y B : List Tg), s10 = .int .i64 x.length ∧ s11 = .int .i64 y.length ∧ 1 ≤ x.length ∧ 1 ≤ y.length ∧ x.length + y.length ≤ kx ∧ Hid (p ++ v ++ u ++ r = A ++ y ++ x ++ B) ∧ A.length + x.length ≤ m ∧ m ≤ A.length + x.length ∧ Aside (SWK tgE k w0 g 0 (A ++ x ++ y ++ B).toArray wr))
  case atStart => exact ⟨p, u, v, r, by simp; omega, by simp; omega, hu, hv, Nat.le_refl _, rfl, hm2, hm1, S0⟩
  case round =>
    clear S0
    obtain ⟨A, x, y, B, rfl, rfl, hx, hy, hkx, HEQ, hA1, hA2, S1⟩ := hrel
    obtain ⟨hlen1, hlen2⟩ : p.length + v.length + u.length + r.length ≤ A.length + y.length + x.length + B.length ∧ A.length + y.length + x.length + B.length ≤ p.length + v.length + u.length + r.length := by
      have := congrArg List.length HEQ.out
      simp only [List.length_append] at this
      omega
    by_cases hne : x.length = y.length
    · have hz : ((x.length : Int) != (y.length : Int)) = false := by simp; omega
      have HNE : Hid (x.length = y.length) := hne
      obtain ⟨hn1, hn2⟩ : x.length ≤ y.length ∧ y.length ≤ x.length := ⟨by omega, by omega⟩
      clear hne
      have S2 : Aside (SWK tgE k w0 g 0 (A ++ x ++ [] ++ y ++ B).toArray wr) := by show SWK _ _ _ _ _ _ _; rw [List.append_nil]; exact S1.out
      clear S1
      go_wp2_with fail
      refine (HC.out _ _ _ A x [] y B wr (by simp; omega) HNE.out.symm (by omega) rfl (by simp; omega) S2.out).mono ?_
      rintro e w2 ⟨rfl, S3⟩
      rw [List.append_nil] at S3
      have S4 : Aside (SWK tgE k w0 g 0 (p ++ v ++ u ++ r).toArray w2) := by show SWK _ _ _ _ _ _ _; rw [HEQ.out]; exact S3
      clear S2 S3
      go_wp2
      go_end0
      exact ⟨rfl, S4.out⟩
    · have hz : ((x.length : Int) != (y.length : Int)) = true := by simp; omega
      by_cases hgt : y.length < x.length
      · have hg1 : (y.length : Int) < (x.length : Int) := by omega
        have hg2 : decide ((y.length : Int) < (x.length : Int)) = true := decide_eq_true hg1
        have S2 : Aside (SWK tgE k w0 g 0 (A ++ x.take y.length ++ x.drop y.length ++ y ++ B).toArray wr) := by show SWK _ _ _ _ _ _ _; rw [List.append_assoc A, List.take_append_drop]; exact S1.out
        have HL1 : Hid ((x.take y.length).length = y.length) := by show _ = _; rw [List.length_take]; omega
        have HL2 : Hid ((x.drop y.length).length = x.length - y.length) := List.length_drop
        clear S1
        go_wp2_with fail
        refine (HC.out _ _ _ A (x.take y.length) (x.drop y.length) y B wr (by rw [HL1.out, HL2.out]; omega) HL1.out.symm (by omega) (by rw [HL1.out]) (by rw [HL1.out, HL2.out]; omega) S2.out).mono ?_
        rintro e w2 ⟨rfl, S3⟩
        have S4 : Aside (SWK tgE k w0 g 0 ((A ++ y) ++ x.drop y.length ++ x.take y.length ++ B).toArray w2) := S3
        have HQ : Hid (p ++ v ++ u ++ r = (A ++ y) ++ x.take y.length ++ x.drop y.length ++ B) := by show _ = _; rw [HEQ.out, List.append_assoc (A ++ y) (x.take y.length), List.take_append_drop]
        clear S2 S3
        go_wp2
        go_roundg (x.length - y.length + y.length)
        case measure => omega
        case rel => exact ⟨A ++ y, x.drop y.length, x.take y.length, B, by rw [HL2.out]; go_num, by rw [HL1.out], by rw [HL2.out]; omega, by rw [HL1.out]; omega, by rw [HL1.out, HL2.out]; omega, HQ, by rw [HL2.out, List.length_append]; omega, by rw [HL2.out, List.length_append]; omega, S4⟩
      · have hg1 : ¬ (y.length : Int) < (x.length : Int) := by omega
        have hg2 : decide ((y.length : Int) < (x.length : Int)) = false := decide_eq_false hg1
        have S2 : Aside (SWK tgE k w0 g 0 (A ++ x ++ y.take (y.length - x.length) ++ y.drop (y.length - x.length) ++ B).toArray wr) := by show SWK _ _ _ _ _ _ _; rw [List.append_assoc (A ++ x), List.take_append_drop]; exact S1.out
        have HL1 : Hid ((y.take (y.length - x.length)).length = y.length - x.length) := by show _ = _; rw [List.length_take]; omega
        have HL2 : Hid ((y.drop (y.length - x.length)).length = x.length) := by show _ = _; rw [List.length_drop]; omega
        clear S1
        go_wp2_with fail
        refine (HC.out _ _ _ A x (y.take (y.length - x.length)) (y.drop (y.length - x.length)) B wr (by rw [HL1.out]; omega) HL2.out (by omega) rfl (by rw [HL1.out]; omega) S2.out).mono ?_
        rintro e w2 ⟨rfl, S3⟩
        have S4 : Aside (SWK tgE k w0 g 0 (A ++ y.drop (y.length - x.length) ++ y.take (y.length - x.length) ++ (x ++ B)).toArray w2) := by show SWK _ _ _ _ _ _ _; rw [← List.append_assoc]; exact S3
        have HQ : Hid (p ++ v ++ u ++ r = A ++ y.take (y.length - x.length) ++ y.drop (y.length - x.length) ++ (x ++ B)) := by show _ = _; rw [HEQ.out, List.append_assoc A (y.take (y.length - x.length)), List.take_append_drop, List.append_assoc (A ++ y)]
        clear S2 S3
        go_wp2
        go_roundg (y.length)
        case measure => omega
        case rel => exact ⟨A, y.drop (y.length - x.length), y.take (y.length - x.length), x ++ B, by rw [HL2.out], by rw [HL1.out]; go_num, by rw [HL2.out]; omega, by rw [HL1.out]; omega, by rw [HL1.out, HL2.out]; omega, HQ, by rw [HL2.out]; omega, by rw [HL2.out]; omega, S4⟩
end Go.Proofs.Ytdjmhagclcfnfaa
/- A stable sort by blocks, purely: blocks in order, merged two by two. -/
namespace Go.Proofs.Ytdjmhagclcfnfaa

/-- Blocks of so many, the last perhaps of fewer, each in order; all marks of one below those of what stands behind. -/
inductive BS {ρ : Type} (key : ρ → Int) (n : Nat) : List (ρ × Nat) → Prop
  | last (u : List (ρ × Nat)) (h1 : u.length ≤ n) (h2 : u.Pairwise (tlt key)) : BS key n u
  | cons (u v : List (ρ × Nat)) (h1 : u.length = n) (h2 : u.Pairwise (tlt key)) (h3 : ∀ x ∈ u, ∀ y ∈ v, x.2 < y.2) (h4 : BS key n v) : BS key n (u ++ v)
theorem BS.nil {ρ : Type} (key : ρ → Int) (n : Nat) : BS key n [] := .last [] (by simp) List.Pairwise.nil
/-- The first block. -/
theorem BS.first {ρ : Type} {key : ρ → Int} {n : Nat} {z : List (ρ × Nat)} (h : BS key n z) (hn : n ≤ z.length) : ∃ u v, z = u ++ v ∧ u.length = n ∧ u.Pairwise (tlt key) ∧ (∀ x ∈ u, ∀ y ∈ v, x.2 < y.2) ∧ BS key n v := by
  cases h with
  | last _ h1 h2 => exact ⟨z, [], by simp, by omega, h2, by simp, BS.nil key n⟩
  | cons u v h1 h2 h3 h4 => exact ⟨u, v, rfl, h1, h2, h3, h4⟩
theorem BS.one {ρ : Type} {key : ρ → Int} {n : Nat} {z : List (ρ × Nat)} (h : BS key n z) (hn : z.length ≤ n) : z.Pairwise (tlt key) := by
  cases h with
  | last _ h1 h2 => exact h2
  | cons u v h1 h2 h3 h4 =>
    rw [List.length_append] at hn
    have : v = [] := List.eq_nil_of_length_eq_zero (by omega)
    subst this
    rw [List.append_nil]
    exact h2
/-- What is done: whatever blocks stand behind it, it is blocks with them. -/
def Ahead {ρ : Type} (key : ρ → Int) (n : Nat) (d : List (ρ × Nat)) : Prop := ∀ t, BS key n t → (∀ x ∈ d, ∀ y ∈ t, x.2 < y.2) → BS key n (d ++ t)
theorem Ahead.nil {ρ : Type} (key : ρ → Int) (n : Nat) : Ahead key n [] := fun _ h _ => h
theorem Ahead.more {ρ : Type} {key : ρ → Int} {n : Nat} {d u : List (ρ × Nat)} (h : Ahead key n d) (h1 : u.length = n) (h2 : u.Pairwise (tlt key)) (h3 : ∀ x ∈ d, ∀ y ∈ u, x.2 < y.2) : Ahead key n (d ++ u) := fun t ht hd => by
  rw [List.append_assoc]
  refine h _ (.cons u t h1 h2 (fun x hx y hy => hd x (by simp [hx]) y hy) ht) fun x hx y hy => ?_
  rcases List.mem_append.1 hy with hy | hy
  · exact h3 x hx y hy
  · exact hd x (by simp [hx]) y hy
theorem Ahead.whole {ρ : Type} {key : ρ → Int} {n : Nat} {d u : List (ρ × Nat)} (h : Ahead key n d) (h1 : u.length ≤ n) (h2 : u.Pairwise (tlt key)) (h3 : ∀ x ∈ d, ∀ y ∈ u, x.2 < y.2) : BS key n (d ++ u) := h u (.last u h1 h2) h3
/-- Marks that rise, taken apart. -/
theorem rise_parts {ρ : Type} {u v : List (ρ × Nat)} (h : (u ++ v).Pairwise (fun x y => x.2 < y.2)) : u.Pairwise (fun x y => x.2 < y.2) ∧ v.Pairwise (fun x y => x.2 < y.2) ∧ ∀ x ∈ u, ∀ y ∈ v, x.2 < y.2 := List.pairwise_append.1 h
theorem marks_perm {ρ : Type} {u u' v v' : List (ρ × Nat)} (h : ∀ x ∈ u, ∀ y ∈ v, x.2 < y.2) (hu : u'.Perm u) (hv : v'.Perm v) : ∀ x ∈ u', ∀ y ∈ v', x.2 < y.2 := fun x hx y hy => h x (hu.mem_iff.1 hx) y (hv.mem_iff.1 hy)
/-- Where the marks of the first stand below those of the second, the keys alone tell. -/
theorem tlt_of_lt {ρ : Type} {key : ρ → Int} {x y : ρ × Nat} (h : key y.1 < key x.1) : tlt key y x := .inl h
theorem tlt_of_ge {ρ : Type} {key : ρ → Int} {x y : ρ × Nat} (ht : x.2 < y.2) (h : ¬ key y.1 < key x.1) : tlt key x y := by
  unfold tlt
  omega
theorem app_at {α : Type} {u v : List α} {i j : Nat} (h : j = u.length + i) (hi : i < v.length) : (u ++ v)[j]? = some v[i] := by
  subst h
  rw [List.getElem?_append_right (by omega), Nat.add_sub_cancel_left, List.getElem?_eq_getElem hi]
theorem mid_left {α : Type} (p u v r : List α) (i j : Nat) (h : j = p.length + i) (hi : i < u.length) : (p ++ u ++ v ++ r)[j]? = some u[i] := by
  subst h
  rw [List.append_assoc, List.append_assoc, List.getElem?_append_right (by omega), Nat.add_sub_cancel_left, List.getElem?_append_left hi, List.getElem?_eq_getElem hi]
theorem mid_right {α : Type} (p u v r : List α) (i j : Nat) (h : j = p.length + u.length + i) (hi : i < v.length) : (p ++ u ++ v ++ r)[j]? = some v[i] := by
  subst h
  rw [List.append_assoc, List.getElem?_append_right (by rw [List.length_append]; omega), List.length_append, Nat.add_sub_cancel_left, List.getElem?_append_left hi, List.getElem?_eq_getElem hi]
end Go.Proofs.Ytdjmhagclcfnfaa
