/- The program's iterator over the records of an unsorted text. -/
import Derived.Test.YtkmeingnhaomaaaPSeq2
import Derived.Test.YtkmeingnhaomaaaPRead3
import Derived.Test.YtkmeingnhaomaaaPCollect2
namespace Go.Proofs.Ytkmeingnhaomaaa
open Go.RowKit Go.Shelf

attribute [local go_sem] Oper.semAt_some

/-- All are read, and nothing is left; or what can't be read, or is left. -/
def FinU (b z m : Nat) (q : List UInt8) (xs : List Rc) : Prop := ∃ q', walkS (stepG true b z) m (-1) q = (xs, .inr q') ∧ q'.length = 0
def PanU (b z m : Nat) (q : List UInt8) (ch : List PanicEntry) (xs : List Rc) : Prop := ∃ k, ch = gave k ∧ (walkS (stepG true b z) m (-1) q = (xs, .inl k) ∨ (k = 8 ∧ ∃ q', walkS (stepG true b z) m (-1) q = (xs, .inr q') ∧ q'.length ≠ 0))

set_option maxRecDepth 100000 in
set_option maxHeartbeats 2000000 in
theorem unsorted_seq (n : Nat) (hn : 2 ≤ n) (R Bh Bi f t b z m : Nat) (l : List UInt8) (p0 : Nat) (w : World)
    (hr : Rd w R l p0) (hp : p0 ≤ l.length) (hl : l.length ≤ 4611686018427387904) (hz : z ≤ 64) (hm : m ≤ 400)
    (hBh : w.heap[Bh]? = some (.cells #[.int .i64 f, .int .i64 t, .int .i64 b, .int .i64 z, .int .i64 m] 101 (0, 0)))
    (hBi : w.heap[Bi]? = some (.cells #[.pointer (some ⟨R, 0, none⟩)] 122 (0, 0))) :
    SeqW Fence.wide n Try.prog 133 #[.pointer (some ⟨Bi, 0, none⟩), .pointer (some ⟨Bh, 0, none⟩)] encRc (KSeq R Bh Bi Bi) (some R) 6
      (fun pre x => ∃ q', walkS (stepG true b z) (pre.length + 1) (-1) (l.drop p0) = (pre ++ [x], .inr q') ∧ pre.length < m)
      (FinU b z m (l.drop p0))
      (fun pre => pre.length ≤ m ∧ ∃ q', walkS (stepG true b z) pre.length (-1) (l.drop p0) = (pre, .inr q'))
      (PanU b z m (l.drop p0)) w := by
  intro lp J Jx W hW hJ hJx hY h0
  have lt := fun {k : Nat} {o : Obj} (e : w.heap[k]? = some o) => (Array.getElem?_eq_some_iff.1 e).1
  have hws := hW.size
  have lR := hr.lt
  have lh := lt hBh
  have li := lt hBi
  have hr' : Rd W R l p0 := (hW.block R lR).trans hr
  have hBh' := (hW.block Bh lh).trans hBh
  have hBi' := (hW.block Bi li).trans hBi
  have hRi : R ≠ Bi := by
    rintro rfl
    have h := hr
    unfold Rd at h
    rw [hBi] at h
    cases h
  have i0 := boxed_cell (i := 0) (v := .pointer (some ⟨R, 0, none⟩)) hBi' rfl
  have g0 := boxed_cell (i := 0) (v := .int .i64 f) hBh' rfl
  have g1 := boxed_cell (i := 1) (v := .int .i64 t) hBh' rfl
  have g2 := boxed_cell (i := 2) (v := .int .i64 b) hBh' rfl
  have g3 := boxed_cell (i := 3) (v := .int .i64 z) hBh' rfl
  have g4 := boxed_cell (i := 4) (v := .int .i64 m) hBh' rfl
  have lR' : R < W.heap.size := Nat.lt_of_lt_of_le lR hws
  have li' : Bi < W.heap.size := Nat.lt_of_lt_of_le li hws
  have lh' : Bh < W.heap.size := Nat.lt_of_lt_of_le lh hws
  have HJ : Hid (OwnItW (some R) W.heap.size (W.heap.size + 6) W.heap.size J) := hJ
  have HJX : Hid (OwnItW (some R) W.heap.size (W.heap.size + 6) W.heap.size Jx) := hJx
  have HY : Hid _ := hY
  have H0 : Hid (J [] W) := h0
  have HR : Hid (Rd W R l p0) := hr'
  have HBI : Hid _ := hBi'
  clear hJ hJx hY h0 hBh hBi hBh' hBi' hr hr' hW lt
  refine callsIn_of_wpAt Try.func133 rfl trivial ?_ rfl
  simp only [Try.ntmps133, List.size_toArray, List.length_cons, List.length_nil, Nat.reduceAdd, Nat.reduceSub, Array.replicate_succ, Array.replicate_zero, List.push_toArray, List.append_toArray, List.nil_append, List.cons_append]
  refine wpAt_seq_k (fun K0 hK0 => ?_)
  gi_wp2
  refine wpAt_seq ?_
  refine wpAt_seq_k (fun K2 hK2 => ?_)
  gi_wp2_with fail
  obtain ⟨WA, hWA⟩ : ∃ WA, WA = W.alloc (.cells #[.func (.yield lp) #[] #[]] 132) := ⟨_, rfl⟩
  have hsA : WA.heap.size = W.heap.size + 1 := by rw [hWA]; simp
  have hyA : WA.heap[W.heap.size]? = some (.cells #[.func (.yield lp) #[] #[]] 132 (0, 0)) := by rw [hWA]; exact World.alloc_heap_new _ _
  have hgA : W.grownBy WA none := by rw [hWA]; exact galloc _ _ _
  have hjA : J [] WA := by rw [hWA]; exact OwnItW.alloc HJ.out _ H0.out
  rw [← hWA]
  clear hWA
  refine ⟨trivial, fun h => by omega, (callsIn_wide.2 (loose_any R f t b z m m WA)).mono ?_⟩
  rintro e W2 ⟨rfl, hW2⟩
  have hs2 : W2.heap.size = W.heap.size + 4 := by rw [hW2]; simp; omega
  have hg2 : WA.grownBy W2 none := by rw [hW2]; exact gallocR (gallocR (galloc _ _ _) _) _
  have hi2 : W2.heap[W.heap.size + 1]? = some (.cells #[.pointer (some ⟨R, 0, none⟩)] 122 (0, 0)) := by
    rw [hW2, ← hsA]
    exact (Below.heap_alloc _ _ _ (by simp; omega)).trans ((Below.heap_alloc _ _ _ (by simp)).trans (World.alloc_heap_new _ _))
  have hh2 : W2.heap[W.heap.size + 2]? = some (.cells #[.int .i64 f, .int .i64 t, .int .i64 b, .int .i64 z, .int .i64 m] 101 (0, 0)) := by
    rw [hW2, show W.heap.size + 2 = WA.heap.size + 1 from by omega]
    refine (Below.heap_alloc _ _ _ (by simp)).trans ?_
    have h := World.alloc_heap_new (WA.alloc (.cells #[.pointer (some ⟨R, 0, none⟩)] 122)) (.cells #[.int .i64 f, .int .i64 t, .int .i64 b, .int .i64 z, .int .i64 m] 101)
    rwa [World.size_alloc] at h
  have hn2 : W2.heap[W.heap.size + 3]? = some (.cells #[.int .i64 m] 3 (0, 0)) := by
    rw [hW2, show W.heap.size + 3 = WA.heap.size + 1 + 1 from by omega]
    have h := World.alloc_heap_new ((WA.alloc (.cells #[.pointer (some ⟨R, 0, none⟩)] 122)).alloc (.cells #[.int .i64 f, .int .i64 t, .int .i64 b, .int .i64 z, .int .i64 m] 101)) (.cells #[.int .i64 m] 3)
    rwa [World.size_alloc, World.size_alloc] at h
  have hj2 : J [] W2 := by rw [hW2]; exact OwnItW.alloc HJ.out _ (OwnItW.alloc HJ.out _ (OwnItW.alloc HJ.out _ hjA))
  rw [show WA.heap.size + 1 = W.heap.size + 2 from by omega, show WA.heap.size + 2 = W.heap.size + 3 from by omega, hsA]
  clear hW2
  have hy2 := (hg2.block W.heap.size (by omega) (by simp)).trans hyA
  have hr2 : Rd W2 R l p0 := Rd.kept (Rd.kept HR.out hgA) hg2
  have hb2 := (hg2.block Bi (by omega) (by simp)).trans ((hgA.block Bi li' (by simp)).trans HBI.out)
  clear hyA hjA hgA hg2 g0 g1 g2 g3 g4 i0
  gi_wp2
  refine wpAt_block ?_
  refine range_lawP (n := n) (f := 133) Try.func133 trivial rfl (by omega) (gf := 136) (lb := #[.pointer (some ⟨W.heap.size + 3, 0, none⟩), .pointer (some ⟨W.heap.size + 1, 0, none⟩), .pointer (some ⟨W.heap.size + 2, 0, none⟩)]) rfl trivial (enters_of Try.func136 (by kernel_rfl) rfl)
    (loose_seq (n - 1) (by omega) R (W.heap.size + 2) (W.heap.size + 1) (W.heap.size + 3) f t b z m m l p0 W2 hr2 hp hl hz (by omega) hh2 hi2 hn2)
    (Below.refl _ _) (fun k hk => by rcases hk with rfl | rfl | rfl | rfl <;> omega) (fun b e => by cases e; omega) (fun _ => rfl)
    (fun ys A => J ys A ∧ (∃ q, walkS (stepG true b z) ys.length (-1) (l.drop p0) = (ys, .inr q)) ∧ A.heap[W.heap.size]? = some (.cells #[.func (.yield lp) #[] #[]] 132 (0, 0)) ∧ A.heap[Bi]? = some (.cells #[.pointer (some ⟨R, 0, none⟩)] 122 (0, 0)))
    (fun cd ys A => cd = .ret ∧ Jx ys A ∧ ys.length ≤ m ∧ ∃ q', walkS (stepG true b z) ys.length (-1) (l.drop p0) = (ys, .inr q'))
    (fun _ _ _ => False)
    ?hI ?hIx ?hIp ?hFin ⟨hj2, ⟨_, rfl⟩, hy2, hb2⟩
    (fun (x : Rc) (a' : Act) (A : World) => ∃ Bx : Nat, W.heap.size + 6 ≤ Bx ∧ A.heap[Bx]? = some (.cells #[.bool x.free, .int .i64 x.block, .string x.data] 34 (0, 0)) ∧ a' = { tmps := #[.func (.yield lp) #[] #[], .pointer (some ⟨Bi, 0, none⟩), .pointer (some ⟨Bh, 0, none⟩), .pointer (some ⟨W.heap.size, 0, none⟩), .pointer (some ⟨Bx, 0, none⟩), .pointer (some ⟨R, 0, none⟩), .agg #[.int .i64 f, .int .i64 t, .int .i64 b, .int .i64 z, .int .i64 m], .pointer (some ⟨Bh, 4, none⟩), .int .i64 m, .func (.func 136) #[] #[.pointer (some ⟨W.heap.size + 3, 0, none⟩), .pointer (some ⟨W.heap.size + 1, 0, none⟩), .pointer (some ⟨W.heap.size + 2, 0, none⟩)], .agg #[.bool x.free, .int .i64 x.block, .string x.data], undef, undef, undef, undef, undef, undef], defers := [] })
    ?ax ?assign ?body ?done ?stop ?panic
  case hI =>
    rw [hs2]
    exact OwnIt.and (OwnItW.it HJ.out (by omega)) (OwnIt.and (OwnIt.pure _ _ _) (OwnIt.and (ownIt_blockN _ (fun _ => _) (fun _ => rfl) (by simp; omega)) (ownIt_blockN _ (fun _ => _) (fun _ => rfl) (by simpa using hRi))))
  case hIx =>
    rw [hs2]
    intro cd
    exact OwnIt.and (OwnIt.pure _ _ (fun _ => cd = .ret)) (OwnIt.and (OwnItW.it HJX.out (by omega)) (OwnIt.pure _ _ _))
  case hIp =>
    intro ch s A A' row h
    exact h.elim
  case hFin =>
    rintro s A A' row ⟨q', p, h1, h2, h3⟩ hg hr
    refine ⟨q', p, h1, ?_, h3⟩
    refine (hg.block R h2.lt (fun e => ?_)).trans h2
    rcases hr R e.symm with e2 | ⟨_, o, ho', hc⟩
    · cases e2
    · have h2' := h2
      unfold Rd at h2'
      rw [h2'] at ho'; cases ho'; cases hc
  case ax =>
    rintro x a' s A A' row ⟨Bx, h1, h2, h3⟩ hg hr
    refine ⟨Bx, h1, (hg.block Bx (Array.getElem?_eq_some_iff.1 h2).1 (fun e => ?_)).trans h2, h3⟩
    rcases hr Bx e.symm with e2 | ⟨_, o, ho', hc⟩
    · cases e2; omega
    · rw [h2] at ho'; cases ho'; cases hc
  case assign =>
    rintro l' pre x A K1 hAN ⟨h1, h2, h3, h5⟩ hK
    have lt := fun {k : Nat} {o : Obj} (e : A.heap[k]? = some o) => (Array.getElem?_eq_some_iff.1 e).1
    gi_wp2
    refine hK _ _ ((KeepsOthers.alloc _ _).from _) ?_ ⟨OwnItW.alloc HJ.out _ h1, h2, (Below.heap_alloc _ _ _ (lt h3)).trans h3, (Below.heap_alloc _ _ _ (lt h5)).trans h5⟩ ⟨A.heap.size, by omega, World.alloc_heap_new _ _, rfl⟩
    refine (KeptOn.refl _ _).alloc (fun k hk => ?_) _
    rcases hk with rfl | rfl | rfl | rfl <;> omega
  case body =>
    rintro l' ys x a' A ⟨h1, ⟨q, h2⟩, h3, h5⟩ ⟨Bx, hx1, hx, rfl⟩ ⟨q', hq', hlm⟩
    have lt := fun {k : Nat} {o : Obj} (e : A.heap[k]? = some o) => (Array.getElem?_eq_some_iff.1 e).1
    have lx := lt hx
    have c2 := boxed_cell (i := 0) (v := .func (.yield lp) #[] #[]) h3 rfl
    have r0 := boxed_cell (i := 0) (v := .bool x.free) hx rfl
    have r1 := boxed_cell (i := 1) (v := .int .i64 x.block) hx rfl
    have r2 := boxed_cell (i := 2) (v := .string x.data) hx rfl
    obtain ⟨fn, tmps, assign, body, hy, hRd⟩ := HY.out ys x A (by omega) h1 ⟨q', hq', hlm⟩
    have HWK : Hid _ := hq'
    have Y3 : Hid _ := h3
    have Y5 : Hid _ := h5
    clear h1 h2 h3 h5 hx hq'
    gi_wp2
    refine ⟨fun h => by simp [Fence.wide] at h, (roundIn_any hRd).mono ?_⟩
    rintro e A2 (⟨rfl, hj2, hkf, hkp⟩ | ⟨rfl, hjx, hkf⟩)
    · have J2 : Hid _ := hj2
      have KF : Hid (KeepsFrom W2.heap.size A A2) := keeps_up hkf (by omega)
      have KP : Hid _ := hkp
      clear hj2 hkf hkp
      gi_wp2
      refine ⟨KF.out, KeptOn.imp KP.out ?_, J2.out, ⟨q', by rw [List.length_append]; exact HWK.out⟩, ?_, ?_⟩
      · intro k hk
        rcases hk with rfl | rfl | rfl | rfl
        · exact .inl (.inl rfl)
        · exact .inr ⟨by omega, by omega⟩
        · exact .inr ⟨by omega, by omega⟩
        · exact .inr ⟨by omega, by omega⟩
      · exact (KP.out _ (.inr ⟨by omega, by omega⟩)).trans Y3.out
      · exact (KP.out _ (.inl (.inr (.inr (.inl rfl))))).trans Y5.out
    · have J2 : Hid _ := hjx
      have KF : Hid (KeepsFrom W2.heap.size A A2) := keeps_up hkf (by omega)
      clear hjx hkf
      gi_wp2
      exact ⟨KF.out, rfl, J2.out, by rw [List.length_append]; exact hlm, q', by rw [List.length_append]; exact HWK.out⟩
  case done =>
    rintro D ys A hD ⟨q', p, hw, hrd, hpl, hq⟩ ⟨h1, ⟨q, h2⟩, h3, h5⟩ hK
    have hlq : q'.length = l.length - p := by rw [← hq, List.length_drop]
    have H1 : Hid (J ys A) := h1
    have H2 : Hid _ := hw
    have HRD : Hid (Rd A R l p) := hrd
    have i0 := boxed_cell (i := 0) (v := .pointer (some ⟨R, 0, none⟩)) h5 rfl
    have HDK : Hid (A.heap[D]? = some (.deferred (some []))) := hK
    clear h1 h2 h3 h5 hw hrd hq hK
    refine wpAt_of ?_
    gi_wp2_with fail
    refine ⟨trivial, fun h => by omega, (callsIn_wide.2 (nothing_any R l p A HRD.out hpl hl)).mono ?_⟩
    rintro e A2 ⟨hg, (⟨he, rfl⟩ | ⟨he, rfl⟩)⟩
    · have hK2 := (hg.block D (Array.getElem?_eq_some_iff.1 HDK.out).1 (by simp)).trans HDK.out
      have hJ2 : J ys A2 := HJ.out _ A A2 none H1.out hg (fun r e => nomatch e)
      refine ⟨by simp, .inl ⟨_, _, rfl, run_takeDeferred hK2, ?_⟩⟩
      exact .inr ⟨_, rfl, ys, ⟨8, rfl, .inr ⟨rfl, q', H2.out, by omega⟩⟩, OwnItW.putObj HJ.out _ hJ2 (by omega) hK2 rfl⟩
    · have hK2 := (hg.block D (Array.getElem?_eq_some_iff.1 HDK.out).1 (by simp)).trans HDK.out
      have hJ2 : J ys A2 := HJ.out _ A A2 none H1.out hg (fun r e => nomatch e)
      have HK2 : Hid _ := hK2
      have HJ2 : Hid (J ys A2) := hJ2
      have hq0 : q'.length = 0 := by omega
      clear hK2 hJ2 hg he
      gi_wp2
      refine ⟨by simp, .inl ⟨_, _, rfl, run_takeDeferred HK2.out, ?_⟩⟩
      exact ⟨_, results_none rfl _ _ _, .inl ⟨⟨_, rfl⟩, (.inl ⟨ys, ⟨q', H2.out, hq0⟩, OwnItW.putObj HJ.out _ HJ2.out (by omega) HK2.out rfl⟩)⟩⟩
  case stop =>
    rintro D cd ys A hD _ ⟨rfl, h2, h3⟩ hK
    have H2 : Hid (Jx ys A) := h2
    have H3 : Hid _ := h3
    clear h2 h3
    gi_wp2
    refine ⟨by simp, .inl ⟨_, _, rfl, run_takeDeferred hK, ?_⟩⟩
    exact ⟨_, results_none rfl _ _ _, .inl ⟨⟨_, rfl⟩, (.inr ⟨_, H3.out, OwnItW.putObj HJX.out _ H2.out (by omega) hK rfl⟩)⟩⟩
  case panic =>
    rintro D ch ys A hD (⟨⟨k, rfl, hw⟩, h1, ⟨q, h2⟩, _⟩ | ⟨_, h⟩) hK
    · refine ⟨by simp, .inl ⟨_, _, rfl, run_takeDeferred hK, ?_⟩⟩
      exact .inr ⟨_, rfl, ys, ⟨k, rfl, .inl hw⟩, OwnItW.putObj HJ.out _ h1 (by omega) hK rfl⟩
    · exact h.elim
end Go.Proofs.Ytkmeingnhaomaaa
