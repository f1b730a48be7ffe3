/- The program's behind: all records but the first n. -/
import Derived.Test.YtdjmhagclcfnfabSeq2
import Derived.Test.YtdjmhagclcfnfabPFace
namespace Go.Proofs.Ytdjmhagclcfnfab
open Go.RowKit Go.Shelf

attribute [local go_sem] Oper.semAt_some

theorem ownItW_block {β : Type} {bi : Option Nat} {lo hi B : Nat} (k : Nat) (o : β → Obj) (ho : ∀ s, (o s).isCells = true) (h1 : bi ≠ some k) (h2 : ¬ (lo ≤ k ∧ k < hi)) : OwnItW bi lo hi B (fun s W => W.heap[k]? = some (o s)) := by
  intro s W W' row h hg hr
  refine (hg.block k (Array.getElem?_eq_some_iff.1 h).1 (fun e => ?_)).trans h
  rcases hr k e.symm with e2 | e2 | ⟨_, o', ho', hc⟩
  · exact h1 e2.symm
  · exact h2 e2
  · rw [h] at ho'
    cases ho'
    rw [ho s] at hc
    cases hc

set_option maxRecDepth 100000 in
set_option maxHeartbeats 2000000 in
theorem behind_seq (n : Nat) (hn : 1 ≤ n) (N Br Bn : Nat) {gf : Nat} {lb : Array Value} {K : Nat → Prop} {bi : Option Nat} {wd : Nat} {G : List Rc → Rc → Prop} {Fin Stop : List Rc → Prop} {Pan : List PanicEntry → List Rc → Prop} (w : World)
    (eg : ∀ args w, (callFunc gf args).run Try.prog w = .ok (.enter gf args) w)
    (hseq : SeqW Fence.wide (n - 1) Try.prog gf lb encRc K bi wd G Fin Stop Pan w) (hKK : ∀ k, K k → k < w.heap.size) (hbi : ∀ b, bi = some b → b < w.heap.size) (hG : ∀ pre x, G pre x → pre.length < 1000)
    (hBr : w.heap[Br]? = some (.cells #[.func (.func gf) #[] lb] 53 (0, 0))) (hBn : w.heap[Bn]? = some (.cells #[.int .i64 N] 3 (0, 0))) (hr1 : bi ≠ some Br) (hr2 : bi ≠ some Bn) :
    SeqW Fence.wide n Try.prog 41 #[.pointer (some ⟨Br, 0, none⟩), .pointer (some ⟨Bn, 0, none⟩)] encRc (fun k => K k ∨ k = Br ∨ k = Bn) bi (wd + 4)
      (fun pre x => ∃ p0, p0.length = N ∧ G (p0 ++ pre) x) (fun xs => ∃ ys, Fin ys ∧ xs = ys.drop N) (fun xs => ∃ ys, Stop ys ∧ xs = ys.drop N) (fun ch xs => ∃ ys, Pan ch ys ∧ xs = ys.drop N) w := by
  intro l J Jx W hW hJ hJx hY h0
  have lr := (Array.getElem?_eq_some_iff.1 hBr).1
  have ln := (Array.getElem?_eq_some_iff.1 hBn).1
  have hBr' := (hW.block Br lr).trans hBr
  have hBn' := (hW.block Bn ln).trans hBn
  have hws := hW.size
  have q1 := boxed_cell (i := 0) (v := .func (.func gf) #[] lb) hBr' rfl
  have lr' : Br < W.heap.size := Nat.lt_of_lt_of_le lr hws
  have ln' : Bn < W.heap.size := Nat.lt_of_lt_of_le ln hws
  have HSEQ : Hid _ := hseq
  have HJ : Hid (OwnItW bi W.heap.size (W.heap.size + (wd + 4)) W.heap.size J) := hJ
  have HJX : Hid (OwnItW bi W.heap.size (W.heap.size + (wd + 4)) W.heap.size Jx) := hJx
  have HY : Hid _ := hY
  have H0 : Hid _ := h0
  have HKK : Hid _ := hKK
  have HBI : Hid _ := hbi
  have HGL : Hid _ := hG
  have HBR : Hid _ := hBr'
  have HBN : Hid _ := hBn'
  have HW : Hid _ := hW
  have HEG : Hid _ := eg
  clear hseq hJ hJx hY h0 hKK hbi hG hBr hBn hBr' hBn' hW eg
  refine callsIn_of_wp_marks Try.func41 rfl trivial ?_ rfl
  simp only [Try.ntmps41, List.size_toArray, List.length_cons, List.length_nil, Nat.reduceAdd, Nat.reduceSub, Array.replicate_succ, Array.replicate_zero, List.push_toArray, List.append_toArray, List.nil_append, List.cons_append]
  gi_wp2
  obtain ⟨W2, hW2⟩ : ∃ W2, W2 = (W.alloc (.cells #[.func (.yield l) #[] #[]] 66)).alloc (.cells #[.int .i64 0] 3) := ⟨_, rfl⟩
  have hs2 : W2.heap.size = W.heap.size + 2 := by rw [hW2]; simp
  have hy2 : W2.heap[W.heap.size]? = some (.cells #[.func (.yield l) #[] #[]] 66 (0, 0)) := by rw [hW2]; exact (Below.heap_alloc _ _ _ (by simp)).trans (World.alloc_heap_new _ _)
  have hp2 : W2.heap[W.heap.size + 1]? = some (.cells #[.int .i64 0] 3 (0, 0)) := by
    rw [hW2]
    have h := World.alloc_heap_new (W.alloc (.cells #[.func (.yield l) #[] #[]] 66)) (.cells #[.int .i64 0] 3)
    rwa [World.size_alloc] at h
  have hg2 : W.grownBy W2 none := by rw [hW2]; exact gallocR (galloc _ _ _) _
  have hbr2 := (hg2.block Br lr' (by simp)).trans HBR.out
  have hbn2 := (hg2.block Bn ln' (by simp)).trans HBN.out
  have hj2 : J [] W2 := by rw [hW2]; exact OwnItW.alloc HJ.out _ (OwnItW.alloc HJ.out _ H0.out)
  have hb2 : Below w.heap.size w W2 := HW.out.grown hg2 (by omega) (by simp)
  rw [← hW2]
  clear hW2
  have hbiW : ∀ b, bi = some b → b < W.heap.size := fun b e => Nat.lt_of_lt_of_le (HBI.out b e) hws
  refine range_lawW (n := n) rfl hn (gf := gf) (lb := lb) rfl trivial HEG.out HSEQ.out hb2 (fun k hk => by have := HKK.out k hk; omega) (fun b hb => by have := HBI.out b hb; omega) (fun _ => rfl)
    (fun ys A => J (ys.drop N) A ∧ A.heap[W.heap.size]? = some (.cells #[.func (.yield l) #[] #[]] 66 (0, 0)) ∧ A.heap[W.heap.size + 1]? = some (.cells #[.int .i64 (min N ys.length : Nat)] 3 (0, 0)) ∧ A.heap[Br]? = some (.cells #[.func (.func gf) #[] lb] 53 (0, 0)) ∧ A.heap[Bn]? = some (.cells #[.int .i64 N] 3 (0, 0)))
    (fun cd ys A => cd = .ret ∧ Jx (ys.drop N) A)
    ?hI ?hIx ⟨by simpa using hj2, hy2, by rw [show min N ([] : List Rc).length = 0 from by simp]; exact hp2, hbr2, hbn2⟩
    (fun x a' A => ∃ Bx, W.heap.size + 4 + wd ≤ Bx ∧ A.heap[Bx]? = some (.cells #[.bool x.free, .int .i64 x.block, .string x.data] 35 (0, 0)) ∧ a' = { tmps := #[.func (.yield l) #[] #[], .pointer (some ⟨Br, 0, none⟩), .pointer (some ⟨Bn, 0, none⟩), .pointer (some ⟨W.heap.size, 0, none⟩), .pointer (some ⟨W.heap.size + 1, 0, none⟩), .pointer (some ⟨Bx, 0, none⟩), .func (.func gf) #[] lb, .agg #[.bool x.free, .int .i64 x.block, .string x.data], undef, undef, undef, undef, undef, undef, undef, undef, undef], defers := [] })
    ?ax ?assign ?body ?done ?stop ?panic
  case hI =>
    rw [hs2]
    refine OwnItW.and (fun s A A' row h hg hr => ?_) (OwnItW.and (ownItW_block _ (fun _ => _) (fun _ => rfl) (fun e => by have := hbiW _ e; omega) (by omega)) (OwnItW.and (ownItW_block _ (fun ys : List Rc => .cells #[.int .i64 (min N ys.length : Nat)] 3 (0, 0)) (fun _ => rfl) (fun e => by have := hbiW _ e; omega) (by omega)) (OwnItW.and (ownItW_block _ (fun _ => _) (fun _ => rfl) hr1 (by omega)) (ownItW_block _ (fun _ => _) (fun _ => rfl) hr2 (by omega)))))
    exact OwnItW.mono HJ.out (lo' := W.heap.size + 2 + 2) (hi' := W.heap.size + 2 + 2 + wd) (B' := W.heap.size + 2) (by omega) (by omega) (by omega) _ A A' row h hg hr
  case hIx =>
    rw [hs2]
    rintro cd s A A' row ⟨h1, h2⟩ hg hr
    exact ⟨h1, OwnItW.mono HJX.out (lo' := W.heap.size + 2 + 2) (hi' := W.heap.size + 2 + 2 + wd) (B' := W.heap.size + 2) (by omega) (by omega) (by omega) _ A A' row h2 hg hr⟩
  case ax =>
    rintro x a' s A A' row ⟨Bx, h1, h2, h3⟩ hg hr
    refine ⟨Bx, h1, (hg.block Bx (Array.getElem?_eq_some_iff.1 h2).1 (fun e => ?_)).trans h2, h3⟩
    rcases hr Bx e.symm with e2 | e2 | ⟨_, o, ho', hc⟩
    · have := hbiW Bx e2.symm; omega
    · omega
    · rw [h2] at ho'; cases ho'; cases hc
  case assign =>
    rintro l' pre x A K1 hAN ⟨h1, h2, h3, h4, h5⟩ hK
    have lt := fun {k : Nat} {o : Obj} (e : A.heap[k]? = some o) => (Array.getElem?_eq_some_iff.1 e).1
    gi_wp2
    refine hK _ _ ((KeepsOthers.alloc _ _).from _) ?_ ⟨OwnItW.alloc HJ.out _ h1, (Below.heap_alloc _ _ _ (lt h2)).trans h2, (Below.heap_alloc _ _ _ (lt h3)).trans h3, (Below.heap_alloc _ _ _ (lt h4)).trans h4, (Below.heap_alloc _ _ _ (lt h5)).trans h5⟩ ⟨A.heap.size, by omega, World.alloc_heap_new _ _, rfl⟩
    refine (KeptOn.refl _ _).alloc (fun k hk => ?_) _
    rcases hk with hk | hk
    · have := HKK.out k hk
      omega
    · omega
  case body =>
    rintro l' ys x a' A hAN ⟨h1, h2, h3, h4, h5⟩ ⟨Bx, hx1, hx, rfl⟩ hGx
    have hgl := HGL.out ys x hGx
    have c2 := boxed_cell (i := 0) (v := .func (.yield l) #[] #[]) h2 rfl
    have c5 := boxed_cell (i := 0) (v := .int .i64 N) h5 rfl
    have r0 := boxed_cell (i := 0) (v := .bool x.free) hx rfl
    have r1 := boxed_cell (i := 1) (v := .int .i64 x.block) hx rfl
    have r2 := boxed_cell (i := 2) (v := .string x.data) hx rfl
    by_cases hlt : ys.length < N
    · have hm : min N ys.length = ys.length := by omega
      rw [hm] at h3
      have c3 := boxed_cell (i := 0) (v := .int .i64 (ys.length : Nat)) h3 rfl
      have f3 := boxed_frozen (i := 0) h3
      have H1 : Hid _ := h1
      have H2 : Hid _ := h2
      have H3 : Hid _ := h3
      have H4 : Hid _ := h4
      have H5 : Hid _ := h5
      clear h1 h2 h3 h4 h5 hx
      gi_wp2
      have e0 : ys.drop N = [] := List.drop_of_length_le (by omega)
      have e1 : (ys ++ [x]).drop N = [] := List.drop_of_length_le (by rw [List.length_append]; simp; omega)
      have e2 : min N (ys ++ [x]).length = ys.length + 1 := by rw [List.length_append]; simp; omega
      refine ⟨(KeepsOthers.setCell _ _ _).from _, ?_, ?_, ?_, ?_, ?_, ?_⟩
      · intro k hk
        refine Below.heap_setCell _ _ _ _ ?_
        show k ≠ W.heap.size + 1
        rcases hk with hk | hk
        · have := HKK.out k hk
          omega
        · omega
      · rw [e1, ← e0]
        exact HJ.out _ A _ (some (W.heap.size + 1)) H1.out (gset _ _ _ _) (fun r e => by cases e; exact .inr (.inl ⟨by omega, by omega⟩))
      · exact (Below.heap_setCell _ _ _ _ (by show W.heap.size ≠ W.heap.size + 1; omega)).trans H2.out
      · rw [e2]
        exact block_set (i := 0) H3.out _
      · exact (Below.heap_setCell _ _ _ _ (by show Br ≠ W.heap.size + 1; omega)).trans H4.out
      · exact (Below.heap_setCell _ _ _ _ (by show Bn ≠ W.heap.size + 1; omega)).trans H5.out
    · have hm : min N ys.length = N := by omega
      rw [hm] at h3
      have c3 := boxed_cell (i := 0) (v := .int .i64 (N : Nat)) h3 rfl
      have e1 : (ys ++ [x]).drop N = ys.drop N ++ [x] := List.drop_append_of_le_length (by omega)
      have e2 : min N (ys ++ [x]).length = N := by rw [List.length_append]; simp; omega
      obtain ⟨fn, tmps, assign, body, hy, hRd⟩ := HY.out (ys.drop N) x A (by omega) h1 ⟨ys.take N, by rw [List.length_take]; omega, by rw [List.take_append_drop]; exact hGx⟩
      have H2 : Hid _ := h2
      have H3 : Hid _ := h3
      have H4 : Hid _ := h4
      have H5 : Hid _ := h5
      clear h1 h2 h3 h4 h5 hx
      gi_wp2
      refine ⟨fun h => by simp [Fence.wide] at h, (roundIn_any hRd).mono ?_⟩
      rintro e A2 (⟨rfl, hj2, hkf, hkp⟩ | ⟨rfl, hjx, hkf⟩)
      · have J2 : Hid _ := hj2
        have KF : Hid _ := hkf
        have KP : Hid _ := hkp
        clear hj2 hkf hkp
        gi_wp2
        refine ⟨keeps_up KF.out (by omega), ?_, ?_, ?_, ?_, ?_, ?_⟩
        · intro k hk
          refine KP.out k ?_
          rcases hk with hk | hk
          · exact .inl (.inl hk)
          · exact .inr ⟨by omega, by omega⟩
        · rw [e1]
          exact J2.out
        · exact (KP.out _ (.inr ⟨by omega, by omega⟩)).trans H2.out
        · rw [e2]
          exact (KP.out _ (.inr ⟨by omega, by omega⟩)).trans H3.out
        · exact (KP.out _ (.inl (.inr (.inl rfl)))).trans H4.out
        · exact (KP.out _ (.inl (.inr (.inr rfl)))).trans H5.out
      · have J2 : Hid _ := hjx
        have KF : Hid _ := hkf
        clear hjx hkf
        gi_wp2
        refine ⟨keeps_up KF.out (by omega), rfl, ?_⟩
        rw [e1]
        exact J2.out
  case done =>
    rintro D ys A hD hF ⟨h1, h2, h3, h4, h5⟩ hK
    have H1 : Hid _ := h1
    have HF : Hid _ := hF
    clear h1 h2 h3 h4 h5 hF
    gi_wp2
    refine ⟨by simp, .inl ⟨_, _, rfl, run_takeDeferred hK, ?_⟩⟩
    exact ⟨_, results_none rfl _ _ _, .inl ⟨_, rfl, .inl ⟨_, ⟨ys, HF.out, rfl⟩, OwnItW.putObj HJ.out _ H1.out (by omega) hK rfl⟩⟩⟩
  case stop =>
    rintro D cd ys A hD hS ⟨rfl, h2⟩ hK
    have H2 : Hid _ := h2
    have HS : Hid _ := hS
    clear h2 hS
    gi_wp2
    refine ⟨by simp, .inl ⟨_, _, rfl, run_takeDeferred hK, ?_⟩⟩
    exact ⟨_, results_none rfl _ _ _, .inl ⟨_, rfl, .inr ⟨_, ⟨ys, HS.out, rfl⟩, OwnItW.putObj HJX.out _ H2.out (by omega) hK rfl⟩⟩⟩
  case panic =>
    rintro D ch ys A hD hP ⟨h1, h2, h3, h4, h5⟩ hK
    refine ⟨by simp, .inl ⟨_, _, rfl, run_takeDeferred hK, ?_⟩⟩
    exact .inr ⟨ch, _, rfl, ⟨ys, hP, rfl⟩, OwnItW.putObj HJ.out _ h1 (by omega) hK rfl⟩
end Go.Proofs.Ytdjmhagclcfnfab
