/- The program's iterator over the records of a stream's or a chunk's text. -/
import Derived.Test.YtdjmhagclcfnfaaPSeq
namespace Go.Proofs.Ytdjmhagclcfnfaa
open Go.RowKit Go.Shelf

attribute [local go_sem] Oper.semAt_some

theorem roundIn_any {l' n n' l : Nat} {P : Program} {f : FuncId} {tmps : Array Value} {assign body : Code} {w : World} {R : Ending → World → Prop} (h : RoundIn Fence.wide n P l f tmps assign body w R) : RoundIn (Fence.wide.inRound l') n' P l f tmps assign body w R :=
  ⟨trivial, fun c cs _ => h.2 c cs (room_wide _)⟩

theorem OwnItW.it {β : Type} {bi : Option Nat} {lo hi B B' : Nat} {I : β → World → Prop} (h : OwnItW bi lo hi B I) (hB : B ≤ B') : OwnIt bi B' I :=
  fun s W W' row hs hg hr => h s W W' row hs hg (fun r e => (hr r e).imp id (fun ⟨a, b⟩ => .inr ⟨Nat.le_trans hB a, b⟩))
/-- A block of cells that is not the iterator's own. -/
theorem ownIt_blockN {β : Type} {bi : Option Nat} {B : Nat} (k : Nat) (o : β → Obj) (ho : ∀ s, (o s).isCells = true) (h1 : bi ≠ some k) : OwnIt bi B (fun s W => W.heap[k]? = some (o s)) := by
  intro s W W' row h hg hr
  refine (hg.block k (Array.getElem?_eq_some_iff.1 h).1 (fun e => ?_)).trans h
  rcases hr k e.symm with e2 | ⟨_, o', ho', hc⟩
  · exact h1 e2.symm
  · rw [h] at ho'
    cases ho'
    rw [ho s] at hc
    cases hc

set_option maxRecDepth 100000 in
set_option maxHeartbeats 2000000 in
theorem records_seq (n : Nat) (hn : 2 ≤ n) (R Bh Bi Bn f t b z mm m : Nat) (l : List UInt8) (p0 : Nat) (w : World)
    (hr : Rd w R l p0) (hp : p0 ≤ l.length) (hp1 : p0 ≤ 50) (hl : l.length ≤ 4611686018427387904) (hz : z ≤ 64) (hm : m ≤ 100)
    (hBh : w.heap[Bh]? = some (.cells #[.int .i64 f, .int .i64 t, .int .i64 b, .int .i64 z, .int .i64 mm] 101 (0, 0)))
    (hBi : w.heap[Bi]? = some (.cells #[.pointer (some ⟨R, 0, none⟩)] 122 (0, 0)))
    (hBn : w.heap[Bn]? = some (.cells #[.int .i64 m] 3 (0, 0))) :
    SeqW Fence.wide n Try.prog 117 #[.pointer (some ⟨Bi, 0, none⟩), .pointer (some ⟨Bh, 0, none⟩), .pointer (some ⟨Bn, 0, none⟩)] encRc (KSeq R Bh Bi Bn) (some R) 7
      (fun pre x => ∃ q', walkR b z (pre.length + 1) (-1) (l.drop p0) = (pre ++ [x], .inr q') ∧ pre.length < m)
      (fun xs => ∃ q', walkR b z m (-1) (l.drop p0) = (xs, .inr q') ∧ endR l (l.length - q'.length) = none)
      (fun pre => pre.length ≤ m ∧ ∃ q', walkR b z pre.length (-1) (l.drop p0) = (pre, .inr q'))
      (fun ch xs => ∃ k, ch = gave k ∧ (walkR b z m (-1) (l.drop p0) = (xs, .inl k) ∨ ∃ q', walkR b z m (-1) (l.drop p0) = (xs, .inr q') ∧ endR l (l.length - q'.length) = some k)) w := by
  intro lp J Jx W hW hJ hJx hY h0
  have lt := fun {k : Nat} {o : Obj} (e : w.heap[k]? = some o) => (Array.getElem?_eq_some_iff.1 e).1
  have hws := hW.size
  have lR := hr.lt
  have lh := lt hBh
  have li := lt hBi
  have ln := lt hBn
  have hr' : Rd W R l p0 := hr.of (hW.block R lR) (hW.block (R - 1) (by omega))
  have hBh' := (hW.block Bh lh).trans hBh
  have hBi' := (hW.block Bi li).trans hBi
  have hBn' := (hW.block Bn ln).trans hBn
  have hRi : R ≠ Bi := fun e => hr.not_box hBi (by decide) e.symm
  have i0 := boxed_cell (i := 0) (v := .pointer (some ⟨R, 0, none⟩)) hBi' rfl
  have g0 := boxed_cell (i := 0) (v := .int .i64 f) hBh' rfl
  have g1 := boxed_cell (i := 1) (v := .int .i64 t) hBh' rfl
  have g2 := boxed_cell (i := 2) (v := .int .i64 b) hBh' rfl
  have g3 := boxed_cell (i := 3) (v := .int .i64 z) hBh' rfl
  have g4 := boxed_cell (i := 4) (v := .int .i64 mm) hBh' rfl
  have n0 := boxed_cell (i := 0) (v := .int .i64 m) hBn' rfl
  have lR' : R < W.heap.size := Nat.lt_of_lt_of_le lR hws
  have li' : Bi < W.heap.size := Nat.lt_of_lt_of_le li hws
  have lh' : Bh < W.heap.size := Nat.lt_of_lt_of_le lh hws
  have ln' : Bn < W.heap.size := Nat.lt_of_lt_of_le ln hws
  have HJ : Hid (OwnItW (some R) W.heap.size (W.heap.size + 7) W.heap.size J) := hJ
  have HJX : Hid (OwnItW (some R) W.heap.size (W.heap.size + 7) W.heap.size Jx) := hJx
  have HY : Hid _ := hY
  have H0 : Hid (J [] W) := h0
  have HR : Hid (Rd W R l p0) := hr'
  have HBI : Hid _ := hBi'
  clear hJ hJx hY h0 hBh hBi hBn hBh' hBi' hBn' hr hr' hW lt
  refine callsIn_of_wpAt Try.func117 rfl trivial ?_ rfl
  simp only [Try.ntmps117, List.size_toArray, List.length_cons, List.length_nil, Nat.reduceAdd, Nat.reduceSub, Array.replicate_succ, Array.replicate_zero, List.push_toArray, List.append_toArray, List.nil_append, List.cons_append]
  refine wpAt_seq_k (fun K0 hK0 => ?_)
  gi_wp2
  refine wpAt_seq_k (fun K1 hK1 => ?_)
  gi_wp2
  refine wpAt_seq ?_
  refine wpAt_seq_k (fun K2 hK2 => ?_)
  gi_wp2_with fail
  obtain ⟨WA, hWA⟩ : ∃ WA, WA = (W.alloc (.cells #[.func (.yield lp) #[] #[]] 131)).alloc (.cells #[.int .i64 (-1)] 3) := ⟨_, rfl⟩
  have hsA : WA.heap.size = W.heap.size + 2 := by rw [hWA]; simp
  have hyA : WA.heap[W.heap.size]? = some (.cells #[.func (.yield lp) #[] #[]] 131 (0, 0)) := by rw [hWA]; exact (Below.heap_alloc _ _ _ (by simp)).trans (World.alloc_heap_new _ _)
  have hpA : WA.heap[W.heap.size + 1]? = some (.cells #[.int .i64 (-1)] 3 (0, 0)) := by
    rw [hWA]
    have h := World.alloc_heap_new (W.alloc (.cells #[.func (.yield lp) #[] #[]] 131)) (.cells #[.int .i64 (-1)] 3)
    rwa [World.size_alloc] at h
  have hgA : W.grownBy WA none := by rw [hWA]; exact gallocR (galloc _ _ _) _
  have hjA : J [] WA := by rw [hWA]; exact OwnItW.alloc HJ.out _ (OwnItW.alloc HJ.out _ H0.out)
  rw [← hWA]
  clear hWA
  refine ⟨trivial, fun h => by omega, (callsIn_wide.2 (loose_any R f t b z mm m WA)).mono ?_⟩
  rintro e W2 ⟨rfl, hW2⟩
  have hs2 : W2.heap.size = W.heap.size + 5 := by rw [hW2]; simp; omega
  have hg2 : WA.grownBy W2 none := by rw [hW2]; exact gallocR (gallocR (galloc _ _ _) _) _
  have hi2 : W2.heap[W.heap.size + 2]? = some (.cells #[.pointer (some ⟨R, 0, none⟩)] 122 (0, 0)) := by
    rw [hW2, ← hsA]
    exact (Below.heap_alloc _ _ _ (by simp; omega)).trans ((Below.heap_alloc _ _ _ (by simp)).trans (World.alloc_heap_new _ _))
  have hh2 : W2.heap[W.heap.size + 3]? = some (.cells #[.int .i64 f, .int .i64 t, .int .i64 b, .int .i64 z, .int .i64 mm] 101 (0, 0)) := by
    rw [hW2, show W.heap.size + 3 = WA.heap.size + 1 from by omega]
    refine (Below.heap_alloc _ _ _ (by simp)).trans ?_
    have h := World.alloc_heap_new (WA.alloc (.cells #[.pointer (some ⟨R, 0, none⟩)] 122)) (.cells #[.int .i64 f, .int .i64 t, .int .i64 b, .int .i64 z, .int .i64 mm] 101)
    rwa [World.size_alloc] at h
  have hn2 : W2.heap[W.heap.size + 4]? = some (.cells #[.int .i64 m] 3 (0, 0)) := by
    rw [hW2, show W.heap.size + 4 = WA.heap.size + 1 + 1 from by omega]
    have h := World.alloc_heap_new ((WA.alloc (.cells #[.pointer (some ⟨R, 0, none⟩)] 122)).alloc (.cells #[.int .i64 f, .int .i64 t, .int .i64 b, .int .i64 z, .int .i64 mm] 101)) (.cells #[.int .i64 m] 3)
    rwa [World.size_alloc, World.size_alloc] at h
  have hj2 : J [] W2 := by rw [hW2]; exact OwnItW.alloc HJ.out _ (OwnItW.alloc HJ.out _ (OwnItW.alloc HJ.out _ hjA))
  rw [show WA.heap.size + 1 = W.heap.size + 3 from by omega, show WA.heap.size + 2 = W.heap.size + 4 from by omega, hsA]
  clear hW2
  have hy2 := (hg2.block W.heap.size (by omega) (by simp)).trans hyA
  have hl2 := (hg2.block (W.heap.size + 1) (by omega) (by simp)).trans hpA
  have hr2 : Rd W2 R l p0 := Rd.kept (Rd.kept HR.out hgA) hg2
  have hb2 := (hg2.block Bi (by omega) (by simp)).trans ((hgA.block Bi li' (by simp)).trans HBI.out)
  clear hyA hpA hjA hgA hg2 g0 g1 g2 g3 g4 n0 i0
  gi_wp2
  refine wpAt_block ?_
  refine range_lawP (n := n) (f := 117) Try.func117 trivial rfl (by omega) (gf := 142) (lb := #[.pointer (some ⟨W.heap.size + 4, 0, none⟩), .pointer (some ⟨W.heap.size + 2, 0, none⟩), .pointer (some ⟨W.heap.size + 3, 0, none⟩)]) rfl trivial (enters_of Try.func142 (by kernel_rfl) rfl)
    (loose_seq (n - 1) (by omega) R (W.heap.size + 3) (W.heap.size + 2) (W.heap.size + 4) f t b z mm m l p0 W2 hr2 hp hl hz (by omega) hh2 hi2 hn2)
    (Below.refl _ _) (fun k hk => by rcases hk with rfl | rfl | rfl | rfl | rfl <;> omega) (fun b e => by cases e; omega) (fun _ => rfl)
    (fun ys A => J ys A ∧ (∃ q, walkR b z ys.length (-1) (l.drop p0) = (ys, .inr q)) ∧ A.heap[W.heap.size]? = some (.cells #[.func (.yield lp) #[] #[]] 131 (0, 0)) ∧ A.heap[W.heap.size + 1]? = some (.cells #[.int .i64 (lastOf (-1) ys)] 3 (0, 0)) ∧ A.heap[Bi]? = some (.cells #[.pointer (some ⟨R, 0, none⟩)] 122 (0, 0)))
    (fun cd ys A => cd = .ret ∧ Jx ys A ∧ ys.length ≤ m ∧ ∃ q', walkR b z ys.length (-1) (l.drop p0) = (ys, .inr q'))
    (fun ch _ A => ∃ xs, J xs A ∧ ch = gave 6 ∧ walkR b z m (-1) (l.drop p0) = (xs, .inl 6))
    ?hI ?hIx ?hIp ?hFin ⟨hj2, ⟨_, rfl⟩, hy2, hl2, hb2⟩
    (fun (x : Rc) (a' : Act) (A : World) => ∃ Bx : Nat, W.heap.size + 7 ≤ Bx ∧ A.heap[Bx]? = some (.cells #[.bool x.free, .int .i64 x.block, .string x.data] 34 (0, 0)) ∧ a' = { tmps := #[.func (.yield lp) #[] #[], .pointer (some ⟨Bi, 0, none⟩), .pointer (some ⟨Bh, 0, none⟩), .pointer (some ⟨Bn, 0, none⟩), .pointer (some ⟨W.heap.size, 0, none⟩), .pointer (some ⟨W.heap.size + 1, 0, none⟩), .pointer (some ⟨Bx, 0, none⟩), .pointer (some ⟨R, 0, none⟩), .agg #[.int .i64 f, .int .i64 t, .int .i64 b, .int .i64 z, .int .i64 mm], .int .i64 m, .func (.func 142) #[] #[.pointer (some ⟨W.heap.size + 4, 0, none⟩), .pointer (some ⟨W.heap.size + 2, 0, none⟩), .pointer (some ⟨W.heap.size + 3, 0, none⟩)], .agg #[.bool x.free, .int .i64 x.block, .string x.data], undef, undef, undef, undef, undef, undef, undef, undef, undef, undef, undef, undef, undef], defers := [] })
    ?ax ?assign ?body ?done ?stop ?panic
  case hI =>
    rw [hs2]
    exact OwnIt.and (OwnItW.it HJ.out (by omega)) (OwnIt.and (OwnIt.pure _ _ _) (OwnIt.and (ownIt_blockN _ (fun _ => _) (fun _ => rfl) (by simp; omega)) (OwnIt.and (ownIt_blockN _ (fun ys : List Rc => .cells #[.int .i64 (lastOf (-1) ys)] 3 (0, 0)) (fun _ => rfl) (by simp; omega)) (ownIt_blockN _ (fun _ => _) (fun _ => rfl) (by simpa using hRi)))))
  case hIx =>
    rw [hs2]
    intro cd
    exact OwnIt.and (OwnIt.pure _ _ (fun _ => cd = .ret)) (OwnIt.and (OwnItW.it HJX.out (by omega)) (OwnIt.pure _ _ _))
  case hIp =>
    rw [hs2]
    rintro ch s A A' row ⟨xs, h1, h2⟩ hg hr
    exact ⟨xs, OwnItW.it HJ.out (B' := W.heap.size + 5) (by omega) _ A A' row h1 hg hr, h2⟩
  case hFin =>
    rintro s A A' row ⟨q', p, h1, h2, h3⟩ hg hr
    refine ⟨q', p, h1, ?_, h3⟩
    refine h2.of (hg.block R h2.lt (fun e => ?_)) (hg.block (R - 1) (by have := h2.lt; omega) (fun e => ?_))
    · rcases hr R e.symm with e2 | ⟨_, o, ho', hc⟩
      · cases e2
      · rw [h2.1] at ho'; cases ho'; cases hc
    · rcases hr (R - 1) e.symm with e2 | ⟨_, o, ho', hc⟩
      · cases e2
      · rw [h2.2] at ho'; cases ho'; cases hc
  case ax =>
    rintro x a' s A A' row ⟨Bx, h1, h2, h3⟩ hg hr
    refine ⟨Bx, h1, (hg.block Bx (Array.getElem?_eq_some_iff.1 h2).1 (fun e => ?_)).trans h2, h3⟩
    rcases hr Bx e.symm with e2 | ⟨_, o, ho', hc⟩
    · cases e2; omega
    · rw [h2] at ho'; cases ho'; cases hc
  case assign =>
    rintro l' pre x A K1 hAN ⟨h1, h2, h3, h4, h5⟩ hK
    have lt := fun {k : Nat} {o : Obj} (e : A.heap[k]? = some o) => (Array.getElem?_eq_some_iff.1 e).1
    gi_wp2
    refine hK _ _ ((KeepsOthers.alloc _ _).from _) ?_ ⟨OwnItW.alloc HJ.out _ h1, h2, (Below.heap_alloc _ _ _ (lt h3)).trans h3, (Below.heap_alloc _ _ _ (lt h4)).trans h4, (Below.heap_alloc _ _ _ (lt h5)).trans h5⟩ ⟨A.heap.size, by omega, World.alloc_heap_new _ _, rfl⟩
    refine (KeptOn.refl _ _).alloc (fun k hk => ?_) _
    rcases hk with rfl | rfl | rfl | rfl | rfl <;> omega
  case body =>
    rintro l' ys x a' A ⟨h1, ⟨q, h2⟩, h3, h4, h5⟩ ⟨Bx, hx1, hx, rfl⟩ ⟨q', hq', hlm⟩
    have lt := fun {k : Nat} {o : Obj} (e : A.heap[k]? = some o) => (Array.getElem?_eq_some_iff.1 e).1
    have lx := lt hx
    obtain ⟨s1, s2⟩ := loose_step b z ys.length (l.drop p0) ys q q' x h2 hq'
    have r1 := boxed_cell (i := 1) (v := .int .i64 x.block) hx rfl
    have c4 := boxed_cell (i := 0) (v := .int .i64 (lastOf (-1) ys)) h4 rfl
    by_cases hle : x.block ≤ lastOf (-1) ys
    · have e1 : decide (x.block ≤ lastOf (-1) ys) = true := by simpa using hle
      have hst : stepR b z (lastOf (-1) ys) q = .inl 6 := by
        rw [stepR, s1]
        exact if_neg (fun h => absurd h.1 (by omega))
      have hwm : walkR b z m (-1) (l.drop p0) = (ys, .inl 6) := by
        have := walk_stays b z (ys.length + 1) (-1) _ (walk_bad b z ys.length (-1) _ h2 hst) (m - (ys.length + 1))
        rwa [show ys.length + 1 + (m - (ys.length + 1)) = m from by omega] at this
      have HP1 : Hid (J ys A) := h1
      have HP2 : Hid (walkR b z m (-1) (l.drop p0) = (ys, .inl 6)) := hwm
      clear h1 h2 h3 h4 h5 hx hq' s1 s2 hst hwm
      gi_wp2
      exact ⟨rfl, KeepsFrom.refl _ _, ys, HP1.out, rfl, HP2.out⟩
    have e1 : decide (x.block ≤ lastOf (-1) ys) = false := by simpa using hle
    have hst : stepR b z (lastOf (-1) ys) q = .inr (x, q') := by
      rw [stepR, s1]
      simp only [if_pos (And.intro (show lastOf (-1) ys < x.block by omega) s2)]
    have hwk := walk_ok b z ys.length (-1) _ h2 hst
    have f4 := boxed_frozen (i := 0) h4
    obtain ⟨A1, hA1⟩ : ∃ A1, A1 = A.setCell ⟨W.heap.size + 1, 0, none⟩ (.int .i64 x.block) := ⟨_, rfl⟩
    have y3 : A1.heap[W.heap.size]? = some (.cells #[.func (.yield lp) #[] #[]] 131 (0, 0)) := by rw [hA1]; exact (Below.heap_setCell _ _ _ _ (by show W.heap.size ≠ W.heap.size + 1; omega)).trans h3
    have y4 : A1.heap[W.heap.size + 1]? = some (.cells #[.int .i64 x.block] 3 (0, 0)) := by rw [hA1]; exact block_set (i := 0) h4 _
    have y5 : A1.heap[Bi]? = some (.cells #[.pointer (some ⟨R, 0, none⟩)] 122 (0, 0)) := by rw [hA1]; exact (Below.heap_setCell _ _ _ _ (by show Bi ≠ W.heap.size + 1; omega)).trans h5
    have yx : A1.heap[Bx]? = some (.cells #[.bool x.free, .int .i64 x.block, .string x.data] 34 (0, 0)) := by rw [hA1]; exact (Below.heap_setCell _ _ _ _ (by show Bx ≠ W.heap.size + 1; omega)).trans hx
    have yJ : J ys A1 := by rw [hA1]; exact HJ.out _ A _ (some (W.heap.size + 1)) h1 (gset _ _ _ _) (fun r e => by cases e; exact .inr (.inl ⟨by omega, by omega⟩))
    have yK : Hid (KeptOn (KSeq R (W.heap.size + 3) (W.heap.size + 2) (W.heap.size + 4)) A A1) := by
      intro k hk
      rw [hA1]
      refine Below.heap_setCell _ _ _ _ ?_
      show k ≠ W.heap.size + 1
      rcases hk with rfl | rfl | rfl | rfl | rfl <;> omega
    have yF : Hid (KeepsFrom W2.heap.size A A1) := by rw [hA1]; exact (KeepsOthers.setCell _ _ _).from _
    have yz : A1.heap.size = A.heap.size := by rw [hA1]; simp
    have c2 := boxed_cell (i := 0) (v := .func (.yield lp) #[] #[]) y3 rfl
    have r0 := boxed_cell (i := 0) (v := .bool x.free) yx rfl
    have r1' := boxed_cell (i := 1) (v := .int .i64 x.block) yx rfl
    have r2 := boxed_cell (i := 2) (v := .string x.data) yx rfl
    obtain ⟨fn, tmps, assign, body, hy, hRd⟩ := HY.out ys x A1 (by omega) yJ ⟨q', hwk, hlm⟩
    have HWK : Hid _ := hwk
    have Y3 : Hid _ := y3
    have Y4 : Hid _ := y4
    have Y5 : Hid _ := y5
    clear h1 h2 h3 h4 h5 hx y3 y4 y5 yx yJ hwk hst s1 s2 hq'
    rw [hA1] at hy c2 r0 r1' r2
    gi_wp2
    rw [← hA1]
    refine ⟨fun h => by simp [Fence.wide] at h, (roundIn_any hRd).mono ?_⟩
    rintro e A2 (⟨rfl, hj2, hkf, hkp⟩ | ⟨rfl, hjx, hkf⟩)
    · have J2 : Hid _ := hj2
      have KF : Hid (KeepsFrom W2.heap.size A A2) := yF.out.trans (keeps_up hkf (by omega))
      have KP : Hid _ := hkp
      clear hj2 hkf hkp
      gi_wp2
      refine ⟨KF.out, KeptOn.trans yK.out (KeptOn.imp KP.out ?_), J2.out, ⟨q', by rw [List.length_append]; exact HWK.out⟩, ?_, ?_, ?_⟩
      · intro k hk
        rcases hk with rfl | rfl | rfl | rfl | rfl
        · exact .inl (.inl rfl)
        · exact .inr ⟨by omega, by omega⟩
        · exact .inr ⟨by omega, by omega⟩
        · exact .inr ⟨by omega, by omega⟩
        · exact .inl (.inr (.inr (.inr (.inr rfl))))
      · exact (KP.out _ (.inr ⟨by omega, by omega⟩)).trans Y3.out
      · rw [lastOf_snoc]
        exact (KP.out _ (.inr ⟨by omega, by omega⟩)).trans Y4.out
      · exact (KP.out _ (.inl (.inr (.inr (.inl rfl))))).trans Y5.out
    · have J2 : Hid _ := hjx
      have KF : Hid (KeepsFrom W2.heap.size A A2) := yF.out.trans (keeps_up hkf (by omega))
      clear hjx hkf
      gi_wp2
      exact ⟨KF.out, rfl, J2.out, by rw [List.length_append]; exact hlm, q', by rw [List.length_append]; exact HWK.out⟩
  case done =>
    rintro D ys A hD ⟨q', p, hw, hrd, hpl, hq⟩ ⟨h1, ⟨q, h2⟩, h3, h4, h5⟩ hK
    have hlen := walkS_len _ _ _ _ _ _ hw
    have hlen2 := hlen
    obtain rfl : m = ys.length := hlen.symm
    have e0 := walk_loose b z ys.length (-1) (-1) _ ys q h2
    rw [hw] at e0
    simp only [Prod.mk.injEq, Sum.inr.injEq, true_and] at e0
    subst e0
    have hpos := walk_pos b z ys.length hz l p0 p hp hpl h2 hq
    have hpe : l.length - q'.length = p := by rw [← hq, List.length_drop]; omega
    have H1 : Hid (J ys A) := h1
    have H2 : Hid _ := h2
    have HRD : Hid (Rd A R l p) := hrd
    have HPE : Hid _ := hpe
    have i0 := boxed_cell (i := 0) (v := .pointer (some ⟨R, 0, none⟩)) h5 rfl
    have HDK : Hid (A.heap[D]? = some (.deferred (some []))) := hK
    have hDR : R ≠ D := by
      rintro rfl
      have h := hrd.1
      rw [hK] at h
      cases h
    clear h1 h2 h3 h4 h5 hw hrd hq hpe hK
    refine wpAt_of ?_
    gi_wp2_with fail
    refine ⟨trivial, fun h => by omega, (callsIn_wide.2 (pend R l p A HRD.out hpl hl (by omega))).mono ?_⟩
    rintro e A2 ⟨hg, (⟨ke, he, rfl⟩ | ⟨he, rfl⟩)⟩
    · have hK2 := (hg.block D (Array.getElem?_eq_some_iff.1 HDK.out).1 (by simpa using fun e : D = R => hDR e.symm)).trans HDK.out
      have hJ2 : J ys A2 := HJ.out _ A A2 (some R) H1.out hg (fun r e => .inl e.symm)
      refine ⟨by simp, .inl ⟨_, _, rfl, run_takeDeferred hK2, ?_⟩⟩
      exact .inr ⟨_, rfl, ys, ⟨ke, rfl, .inr ⟨q', H2.out, by rw [HPE.out]; exact he⟩⟩, OwnItW.putObj HJ.out _ hJ2 (by omega) hK2 rfl⟩
    · have hK2 := (hg.block D (Array.getElem?_eq_some_iff.1 HDK.out).1 (by simpa using fun e : D = R => hDR e.symm)).trans HDK.out
      have hJ2 : J ys A2 := HJ.out _ A A2 (some R) H1.out hg (fun r e => .inl e.symm)
      have HK2 : Hid _ := hK2
      have HJ2 : Hid (J ys A2) := hJ2
      have HE : Hid _ := he
      clear hK2 hJ2 hg he
      gi_wp2
      refine ⟨by simp, .inl ⟨_, _, rfl, run_takeDeferred HK2.out, ?_⟩⟩
      exact ⟨_, results_none rfl _ _ _, .inl ⟨⟨_, rfl⟩, (.inl ⟨ys, ⟨q', H2.out, by rw [HPE.out]; exact HE.out⟩, OwnItW.putObj HJ.out _ HJ2.out (by omega) HK2.out rfl⟩)⟩⟩
  case stop =>
    rintro D cd ys A hD _ ⟨rfl, h2, h3⟩ hK
    have H2 : Hid (Jx ys A) := h2
    have H3 : Hid _ := h3
    clear h2 h3
    gi_wp2
    refine ⟨by simp, .inl ⟨_, _, rfl, run_takeDeferred hK, ?_⟩⟩
    exact ⟨_, results_none rfl _ _ _, .inl ⟨⟨_, rfl⟩, (.inr ⟨_, H3.out, OwnItW.putObj HJX.out _ H2.out (by omega) hK rfl⟩)⟩⟩
  case panic =>
    rintro D ch ys A hD (⟨⟨k, rfl, hw⟩, h1, ⟨q, h2⟩, _⟩ | ⟨_, xs, h1, rfl, hw⟩) hK
    · refine ⟨by simp, .inl ⟨_, _, rfl, run_takeDeferred hK, ?_⟩⟩
      exact .inr ⟨_, rfl, ys, ⟨k, rfl, .inl (loose_bad b z m ys.length (-1) (-1) _ ys q k h2 hw)⟩, OwnItW.putObj HJ.out _ h1 (by omega) hK rfl⟩
    · refine ⟨by simp, .inl ⟨_, _, rfl, run_takeDeferred hK, ?_⟩⟩
      exact .inr ⟨_, rfl, xs, ⟨6, rfl, .inl hw⟩, OwnItW.putObj HJ.out _ h1 (by omega) hK rfl⟩
end Go.Proofs.Ytdjmhagclcfnfaa
