/- slices.Collect over records. -/
import Derived.Test.YtdjmhagclcfnfaaPHeadR
import Derived.RangeFuncBox
namespace Go.Proofs.Ytdjmhagclcfnfaa
open Go.RowKit Go.Shelf

attribute [local go_sem] Oper.semAt_some

theorem Try.infoRec : (Try.prog.info? 34).map (fun i => (i.zero, i.size, i.bytes)) = some (some (.agg #[.bool false, .int .i64 0, .string ⟨#[]⟩]), 3, 32) := by kernel_rfl
/-- The cells of records. -/
def recVals (rs : List Rc) : List Value := rs.flatMap fun r => [.bool r.free, .int .i64 r.block, .string r.data]
theorem recVals_snoc (rs : List Rc) (r : Rc) : recVals (rs ++ [r]) = recVals rs ++ [.bool r.free, .int .i64 r.block, .string r.data] := by simp [recVals]
/-- v owns the records rs, in a block from B on. -/
def OwnsR (B : Nat) (w : World) (v : Value) (rs : List Rc) : Prop := w.ownsRow B 34 3 v rs.length (recVals rs)

theorem ownsR_snoc {B : Nat} {W : World} {v : Value} {pre : List Rc} {x : Rc} (h : W.ownsRow B 34 3 v (pre.length + 1) (recVals pre ++ [.bool x.free, .int .i64 x.block, .string x.data])) : OwnsR B W v (pre ++ [x]) := by
  unfold OwnsR
  rw [recVals_snoc, List.length_append]
  exact h

theorem ownIt_rows {β : Type} (bi : Option Nat) (B' B k : Nat) (f : β → List Rc) (hbi : ∀ r, bi = some r → r < B) (hk : B ≤ k) : OwnIt bi B' (fun s W => ∃ v, W.heap[k]? = some (.cells #[v] 22 (0, 0)) ∧ OwnsR B W v (f s)) := by
  rintro s W W' row ⟨v, hv, ho⟩ hg hr
  refine ⟨v, (hg.block k (Array.getElem?_eq_some_iff.1 hv).1 (fun e => ?_)).trans hv, World.ownsRow.kept ho hg ?_⟩
  · rcases hr k e.symm with e2 | ⟨_, o, ho', hc⟩
    · have := hbi k e2.symm; omega
    · rw [hv] at ho'; cases ho'; cases hc
  · rcases ho.2 with ⟨rfl, _⟩ | ⟨g, cap, cur, rfl, hb, hgb, _⟩
    · exact .inl rfl
    · refine .inr fun e => ?_
      rcases hr g (by simpa [Value.ownBlock] using e.symm) with e2 | ⟨_, o, ho', hc⟩
      · have := hbi g e2.symm; omega
      · rw [hgb] at ho'; cases ho'; cases hc

/-- 'Nothing but the iterator's block has turned' abides the iterator. -/
theorem ownIt_grown {β : Type} {bi : Option Nat} {B : Nat} {w₀ : World} (hB : w₀.heap.size ≤ B) : OwnIt bi B (fun (_ : β) W => w₀.grownBy W bi) := by
  rintro s W W' row h hg hr
  refine ⟨hg.os.trans h.os, hg.tape.trans h.tape, hg.output.trans h.output, Nat.le_trans h.size hg.size, fun j hj hne => ?_⟩
  refine (hg.block j (Nat.lt_of_lt_of_le hj h.size) (fun e => ?_)).trans (h.block j hj hne)
  rcases hr j e.symm with e2 | ⟨h2, _⟩
  · exact hne e2
  · omega

theorem cells_new (W : World) (l : List Value) (t : TypeId) : ∀ (j : Nat) (u : Value), l[j]? = some u → (W.alloc (.cells l.toArray t)).cell? ((⟨W.heap.size, 0, none⟩ : Addr).add j) = some u := by
  intro j u h
  rw [Addr.add_lit]
  exact boxed_cell (World.alloc_heap_new _ _) (by simpa using h)
theorem gbelowR {A B C : World} {row : Option Nat} (h : A.grownBy B row) (k : Below A.heap.size B C) : A.grownBy C row :=
  ⟨k.os.trans h.os, k.tape.trans h.tape, k.output.trans h.output, Nat.le_trans h.size k.size, fun j hj hne => (k.block j hj).trans (h.block j hj hne)⟩

set_option maxRecDepth 100000 in
set_option maxHeartbeats 2000000 in
theorem appendSeq_any {gf : Nat} {lb : Array Value} {KK : Nat → Prop} {bi : Option Nat} {G : List Rc → Rc → Prop} {Fin Stop : List Rc → Prop} {Pan : List PanicEntry → List Rc → Prop} (w : World)
    (eg : ∀ args w, (callFunc gf args).run Try.prog w = .ok (.enter gf args) w)
    (hseq : SeqC Fence.wide 8 Try.prog gf lb encRc KK bi G Fin Stop Pan w) (hKK : ∀ k, KK k → k < w.heap.size) (hbi : ∀ b, bi = some b → b < w.heap.size) (hG : ∀ pre x, G pre x → pre.length < 1000) :
    Calls Try.prog 116 #[.slice none 0 0, .func (.func gf) #[] lb] w fun e w' => w.grownBy w' bi ∧ ((∃ xs v, Fin xs ∧ e = .returned v ∧ OwnsR w.heap.size w' v xs) ∨ (∃ ch xs, Pan ch xs ∧ e = .panicked ch)) := by
  obtain ⟨i0, hi, hz0, hz1, hz2⟩ := info_parts Try.infoRec
  refine (callsIn_wide (n := 9)).1 ?_
  refine callsIn_of_wp_marks Try.func116 rfl trivial ?_ rfl
  simp only [Try.ntmps116, List.size_toArray, List.length_cons, List.length_nil, Nat.reduceAdd, Nat.reduceSub, Array.replicate_succ, Array.replicate_zero, List.push_toArray, List.append_toArray, List.nil_append, List.cons_append]
  gi_wp2
  have hO3 : (w.alloc (.cells #[.slice none 0 0] 22)).heap[w.heap.size]? = some (.cells #[.slice none 0 0] 22 (0, 0)) := World.alloc_heap_new _ _
  have hs3 : (w.alloc (.cells #[.slice none 0 0] 22)).heap.size = w.heap.size + 1 := by simp
  have hg3 : w.grownBy (w.alloc (.cells #[.slice none 0 0] 22)) bi := galloc _ _ _
  have hb3 : Below w.heap.size w (w.alloc (.cells #[.slice none 0 0] 22)) := (Below.refl _ _).alloc (Nat.le_refl _) _
  generalize w.alloc (.cells #[.slice none 0 0] 22) = W3 at *
  refine range_law (n := 9) rfl (by decide) (gf := gf) (lb := lb) rfl trivial eg hseq hb3 (fun k hk => by have := hKK k hk; omega) (fun b hb => by have := hbi b hb; omega) (fun _ => rfl)
    (fun pre W => (∃ v, W.heap[w.heap.size]? = some (.cells #[v] 22 (0, 0)) ∧ OwnsR w.heap.size W v pre) ∧ w.grownBy W bi)
    (fun _ _ _ => False)
    (OwnIt.and (ownIt_rows bi _ w.heap.size w.heap.size (fun pre => pre) hbi (Nat.le_refl _)) (ownIt_grown (by omega)))
    (fun cd => OwnIt.pure _ _ _)
    ⟨⟨_, hO3, World.ownsRow_nil _ _ _ _⟩, hg3⟩
    (fun x a' W => ∃ Bx, w.heap.size ≤ Bx ∧ W.heap[Bx]? = some (.cells #[.bool x.free, .int .i64 x.block, .string x.data] 34 (0, 0)) ∧ a' = { tmps := #[.slice none 0 0, .func (.func gf) #[] lb, .pointer (some ⟨w.heap.size, 0, none⟩), undef, .slice none 0 0, .pointer (some ⟨Bx, 0, none⟩), .func (.func gf) #[] lb, .agg #[.bool x.free, .int .i64 x.block, .string x.data], undef, undef, undef, undef, undef], defers := [] })
    ?ax
    ?assign ?body ?done ?stop ?panic
  case ax =>
    rintro x a' s W W' row ⟨Bx, h1, h2, h3⟩ hg hr
    refine ⟨Bx, h1, (hg.block Bx (Array.getElem?_eq_some_iff.1 h2).1 (fun e => ?_)).trans h2, h3⟩
    rcases hr Bx e.symm with e2 | ⟨_, o, ho', hc⟩
    · have := hbi Bx e2.symm; omega
    · rw [h2] at ho'; cases ho'; cases hc
  case assign =>
    rintro l pre x W K ⟨⟨v, h1, h2⟩, h5⟩ hK
    have lt := fun {k : Nat} {o : Obj} (e : W.heap[k]? = some o) => (Array.getElem?_eq_some_iff.1 e).1
    gi_wp2
    refine hK _ _ ((KeepsOthers.alloc _ _).from _) ?_ ⟨⟨v, (Below.heap_alloc _ _ _ (lt h1)).trans h1, World.ownsRow.alloc h2 _⟩, gallocR h5 _⟩ ⟨W.heap.size, h5.size, World.alloc_heap_new _ _, rfl⟩
    exact (KeptOn.refl _ _).alloc (fun k hk => Nat.lt_of_lt_of_le (hKK k hk) h5.size) _
  case body =>
    rintro l pre x a' W ⟨⟨v, h1, h2⟩, h5⟩ ⟨Bx, hx1, hx, rfl⟩ hGx
    have hln := hG pre x hGx
    have hml : pre.length + 1 ≤ maxLen := Nat.le_trans (show pre.length + 1 ≤ 1001 by omega) (by decide)
    have r0 := boxed_cell (i := 0) hx rfl
    have r1 := boxed_cell (i := 1) hx rfl
    have r2 := boxed_cell (i := 2) hx rfl
    have o0 := boxed_cell (i := 0) h1 rfl
    gi_wp2_with (gi_at_builtin; refine wpListIn_append_own _ rfl _ _ 22 rfl w.heap.size 34 i0 _ 3 32 Try.underlying22 hi hz0 hz1 hz2 rfl (by decide) _ _ _ rfl (World.ownsRow.alloc h2 _) ⟨W.heap.size, 0, none⟩ 1 1 [.bool x.free, .int .i64 x.block, .string x.data] rfl rfl (cells_new _ _ _) (by simp [Value.oneCell']) hml (by omega) (by have := h5.size; simp; omega) ?_; intro v' w3 hown' hg3' hnil'; obtain ⟨k1, k2, k3, k4, k5⟩ := Boxed.appended (t := 22) h1 (by decide) h2 h5.size (Nat.le_refl _) hown' hg3'; obtain ⟨g', cap', rfl⟩ := ownsRow_succ hown'; have p0 := boxed_cell (i := 0) k1 rfl; have pf := boxed_frozen (i := 0) k1)
    exact ⟨k4.from _, KeptOn.of_below k5 hKK, ⟨_, k2, ownsR_snoc k3⟩, gbelowR h5 k5⟩
  case done =>
    rintro D ys W hD hF ⟨⟨v, h1, h2⟩, h5⟩ hK
    have o0 := boxed_cell (i := 0) h1 rfl
    have hgp : w.grownBy (W.putObj D (.deferred none)) bi := ⟨h5.os, h5.tape, h5.output, by simpa using h5.size, fun j hj hne => (World.putObj_heap_other (by omega)).trans (h5.block j hj hne)⟩
    obtain ⟨a, ln, cp, rfl⟩ : ∃ a ln cp, v = .slice a ln cp := by
      rcases h2.2 with ⟨rfl, _⟩ | ⟨g, cap, cur, rfl, _⟩
      · exact ⟨_, _, _, rfl⟩
      · exact ⟨_, _, _, rfl⟩
    gi_wp2
    refine ⟨by simp, .inl ⟨_, _, rfl, run_takeDeferred hK, ?_⟩⟩
    refine ⟨_, results_tmp rfl _ _ _, hgp, .inl ⟨ys, .slice a ln cp, hF, ?_, ownsRow_putObj h2 _ hK rfl⟩⟩
    rfl
  case panic =>
    rintro D ch xs W hD hP ⟨_, h5⟩ hK
    have hgp : w.grownBy (W.putObj D (.deferred none)) bi := ⟨h5.os, h5.tape, h5.output, by simpa using h5.size, fun j hj hne => (World.putObj_heap_other (by omega)).trans (h5.block j hj hne)⟩
    refine ⟨by simp, .inl ⟨_, _, rfl, run_takeDeferred hK, ?_⟩⟩
    exact ⟨hgp, .inr ⟨ch, xs, hP, rfl⟩⟩
  case stop =>
    rintro D cd pre W _ _ h
    exact h.elim

set_option maxHeartbeats 1000000 in
theorem collect_any {gf : Nat} {lb : Array Value} {KK : Nat → Prop} {bi : Option Nat} {G : List Rc → Rc → Prop} {Fin Stop : List Rc → Prop} {Pan : List PanicEntry → List Rc → Prop} (w : World)
    (eg : ∀ args w, (callFunc gf args).run Try.prog w = .ok (.enter gf args) w)
    (hseq : SeqC Fence.wide 8 Try.prog gf lb encRc KK bi G Fin Stop Pan w) (hKK : ∀ k, KK k → k < w.heap.size) (hbi : ∀ b, bi = some b → b < w.heap.size) (hG : ∀ pre x, G pre x → pre.length < 1000) :
    Calls Try.prog 85 #[.func (.func gf) #[] lb] w fun e w' => w.grownBy w' bi ∧ ((∃ xs v, Fin xs ∧ e = .returned v ∧ OwnsR w.heap.size w' v xs) ∨ (∃ ch xs, Pan ch xs ∧ e = .panicked ch)) := by
  have HC : Hid (∀ u : Unit, _) := fun _ => appendSeq_any w eg hseq hKK hbi hG
  clear hseq eg
  go_enter Try.func85, Try.ntmps85
  go_wp2_with fail
  refine (HC.out ()).mono ?_
  rintro e w1 ⟨hg, (⟨xs, v, hF, rfl, ho⟩ | ⟨ch, xs, hP, rfl⟩)⟩
  · have HO : Hid _ := ho
    have HG : Hid _ := hg
    have HF : Hid _ := hF
    clear ho hg hF
    go_wp2
    go_ret
    exact ⟨HG.out, .inl ⟨xs, v, HF.out, rfl, HO.out⟩⟩
  · exact ⟨rfl, hg, .inr ⟨ch, xs, hP, rfl⟩⟩
end Go.Proofs.Ytdjmhagclcfnfaa
