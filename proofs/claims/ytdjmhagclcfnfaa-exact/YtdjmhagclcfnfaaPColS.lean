/- slices.Collect over texts, by an iterator with cells of its own. -/
import Derived.Test.YtdjmhagclcfnfaaPText
namespace Go.Proofs.Ytdjmhagclcfnfaa
open Go.RowKit Go.Shelf

attribute [local go_sem] Oper.semAt_some

theorem Try.infoStr : (Try.prog.info? 9).map (fun i => (i.zero, i.size, i.bytes)) = some (some (.string ⟨#[]⟩), 1, 16) := by kernel_rfl
/-- v owns the texts cs, in a block from B on. -/
def OwnsT (B : Nat) (w : World) (v : Value) (cs : List ByteArray) : Prop := w.ownsRow B 9 1 v cs.length (cs.map Value.string)
theorem ownsT_snoc {B : Nat} {W : World} {v : Value} {pre : List ByteArray} {x : ByteArray} (h : W.ownsRow B 9 1 v (pre.length + 1) (pre.map Value.string ++ [.string x])) : OwnsT B W v (pre ++ [x]) := by
  unfold OwnsT
  rw [List.map_append, List.length_append]
  exact h

theorem ownItW_strs {β : Type} (bi : Option Nat) (lo hi B' B k : Nat) (f : β → List ByteArray) (hbi : ∀ r, bi = some r → r < B) (hk : B ≤ k) (hkw : ¬ (lo ≤ k ∧ k < hi)) : OwnItW bi lo hi B' (fun s W => ∃ v, W.heap[k]? = some (.cells #[v] 52 (0, 0)) ∧ OwnsT B W v (f s) ∧ ∀ g, v.ownBlock = some g → ¬ (lo ≤ g ∧ g < hi)) := by
  rintro s W W' row ⟨v, hv, ho, hw⟩ hg hr
  refine ⟨v, (hg.block k (Array.getElem?_eq_some_iff.1 hv).1 (fun e => ?_)).trans hv, World.ownsRow.kept ho hg ?_, hw⟩
  · rcases hr k e.symm with e2 | e2 | ⟨_, o, ho', hc⟩
    · have := hbi k e2.symm; omega
    · exact hkw e2
    · rw [hv] at ho'; cases ho'; cases hc
  · rcases ho.2 with ⟨rfl, _⟩ | ⟨g, cap, cur, rfl, hb, hgb, _⟩
    · exact .inl rfl
    · refine .inr fun e => ?_
      rcases hr g (by simpa [Value.ownBlock] using e.symm) with e2 | e2 | ⟨_, o, ho', hc⟩
      · have := hbi g e2.symm; omega
      · exact hw g rfl e2
      · rw [hgb] at ho'; cases ho'; cases hc
set_option maxRecDepth 100000 in
set_option maxHeartbeats 2000000 in
theorem appendSeqS_wide {gf : Nat} {lb : Array Value} {KK : Nat → Prop} {bi : Option Nat} {wd : Nat} {G : List ByteArray → ByteArray → Prop} {Fin Stop : List ByteArray → Prop} {Pan : List PanicEntry → List ByteArray → Prop} (w : World)
    (eg : ∀ args w, (callFunc gf args).run Try.prog w = .ok (.enter gf args) w)
    (hseq : SeqW Fence.wide 8 Try.prog gf lb encS KK bi wd G Fin Stop Pan w) (hKK : ∀ k, KK k → k < w.heap.size) (hbi : ∀ b, bi = some b → b < w.heap.size) (hG : ∀ pre x, G pre x → pre.length < 1000) :
    Calls Try.prog 148 #[.slice none 0 0, .func (.func gf) #[] lb] w fun e w' => w.grownBy w' bi ∧ ((∃ xs v, Fin xs ∧ e = .returned v ∧ OwnsT w.heap.size w' v xs) ∨ (∃ ch xs, Pan ch xs ∧ e = .panicked ch)) := by
  obtain ⟨i0, hi, hz0, hz1, hz2⟩ := info_parts Try.infoStr
  refine (callsIn_wide (n := 9)).1 ?_
  refine callsIn_of_wp_marks Try.func148 rfl trivial ?_ rfl
  simp only [Try.ntmps148, List.size_toArray, List.length_cons, List.length_nil, Nat.reduceAdd, Nat.reduceSub, Array.replicate_succ, Array.replicate_zero, List.push_toArray, List.append_toArray, List.nil_append, List.cons_append]
  gi_wp2
  have hO3 : (w.alloc (.cells #[.slice none 0 0] 52)).heap[w.heap.size]? = some (.cells #[.slice none 0 0] 52 (0, 0)) := World.alloc_heap_new _ _
  have hs3 : (w.alloc (.cells #[.slice none 0 0] 52)).heap.size = w.heap.size + 1 := by simp
  have hg3 : w.grownBy (w.alloc (.cells #[.slice none 0 0] 52)) bi := galloc _ _ _
  have hb3 : Below w.heap.size w (w.alloc (.cells #[.slice none 0 0] 52)) := (Below.refl _ _).alloc (Nat.le_refl _) _
  generalize w.alloc (.cells #[.slice none 0 0] 52) = W3 at *
  refine range_lawW (n := 9) rfl (by decide) (gf := gf) (lb := lb) rfl trivial eg hseq hb3 (fun k hk => by have := hKK k hk; omega) (fun b hb => by have := hbi b hb; omega) (fun _ => rfl)
    (fun pre W => (∃ v, W.heap[w.heap.size]? = some (.cells #[v] 52 (0, 0)) ∧ OwnsT w.heap.size W v pre ∧ ∀ g, v.ownBlock = some g → ¬ (w.heap.size + 3 ≤ g ∧ g < w.heap.size + 3 + wd)) ∧ w.grownBy W bi)
    (fun _ _ _ => False)
    (by rw [hs3]; exact OwnItW.and (ownItW_strs bi _ _ _ w.heap.size w.heap.size (fun pre => pre) hbi (Nat.le_refl _) (by omega)) (ownItW_grown (by omega) (by omega)))
    (fun cd => OwnItW.pure _ _ _ _ _)
    ⟨⟨_, hO3, World.ownsRow_nil _ _ _ _, fun g e => by simp [Value.ownBlock] at e⟩, hg3⟩
    (fun (x : ByteArray) (a' : Act) (_ : World) => a' = { tmps := #[.slice none 0 0, .func (.func gf) #[] lb, .pointer (some ⟨w.heap.size, 0, none⟩), undef, .slice none 0 0, .string x, .func (.func gf) #[] lb, .string x, undef, undef, undef, undef, undef], defers := [] })
    ?ax
    ?assign ?body ?done ?stop ?panic
  case ax =>
    exact fun x a' => OwnItW.pure _ _ _ _ _
  case assign =>
    rintro l pre x W K hAN ⟨⟨v, h1, h2, h2'⟩, h5⟩ hK
    gi_wp2
    exact hK _ _ (KeepsFrom.refl _ _) (KeptOn.refl _ _) ⟨⟨v, h1, h2, h2'⟩, h5⟩ rfl
  case body =>
    rintro l pre x a' W hAN ⟨⟨v, h1, h2, h2'⟩, h5⟩ rfl hGx
    have hln := hG pre x hGx
    have hml : pre.length + 1 ≤ maxLen := Nat.le_trans (show pre.length + 1 ≤ 1001 by omega) (by decide)
    have o0 := boxed_cell (i := 0) h1 rfl
    gi_wp2_with (gi_at_builtin; refine wpListIn_append_own_at _ rfl _ _ 52 rfl w.heap.size 9 i0 _ 1 16 Try.underlying52 hi hz0 hz1 hz2 rfl (by decide) _ _ _ rfl (World.ownsRow.alloc h2 _) ⟨W.heap.size, 0, none⟩ 1 1 [.string x] rfl rfl (cells_new _ _ _) (by simp [Value.oneCell']) hml (by omega) (by have := h5.size; simp; omega) ?_; intro v' w3 hown' hg3' hnil' hat'; obtain ⟨k1, k2, k3, k4, k5⟩ := Boxed.appended (t := 52) h1 (by decide) h2 h5.size (Nat.le_refl _) hown' hg3'; obtain ⟨g', cap', rfl⟩ := ownsRow_succ hown'; have p0 := boxed_cell (i := 0) k1 rfl; have pf := boxed_frozen (i := 0) k1)
    refine ⟨k4.from _, ?_, ⟨_, k2, ownsT_snoc k3, ?_⟩, gbelowR h5 k5⟩
    · intro k hk
      rcases hk with hk | hk
      · exact k5.block k (hKK k hk)
      · have hkW : k < W.heap.size := by omega
        refine (Below.heap_setCell _ _ _ _ (by show k ≠ w.heap.size; omega)).trans ((hg3'.block k (by simp; omega) (fun e => ?_)).trans (Below.heap_alloc _ _ _ hkW))
        exact h2' k e.symm (by omega)
    · intro g e
      rcases hat' with h | h
      · exact h2' g (h.symm.trans e)
      · rw [h] at e
        simp at e
        omega
  case done =>
    rintro D ys W hD hF ⟨⟨v, h1, h2, _⟩, h5⟩ hK
    have o0 := boxed_cell (i := 0) h1 rfl
    have hgp : w.grownBy (W.putObj D (.deferred none)) bi := ⟨h5.os, h5.tape, h5.output, by simpa using h5.size, fun j hj hne => (World.putObj_heap_other (by omega)).trans (h5.block j hj hne)⟩
    obtain ⟨a, ln, cp, rfl⟩ : ∃ a ln cp, v = .slice a ln cp := by
      rcases h2.2 with ⟨rfl, _⟩ | ⟨g, cap, cur, rfl, _⟩
      · exact ⟨_, _, _, rfl⟩
      · exact ⟨_, _, _, rfl⟩
    gi_wp2
    refine ⟨by simp, .inl ⟨_, _, rfl, run_takeDeferred hK, ?_⟩⟩
    refine ⟨_, results_tmp rfl _ _ _, hgp, .inl ⟨ys, .slice a ln cp, hF, ?_, ownsRow_putObj h2 _ hK rfl⟩⟩
    rfl
  case panic =>
    rintro D ch xs W hD hP ⟨_, h5⟩ hK
    have hgp : w.grownBy (W.putObj D (.deferred none)) bi := ⟨h5.os, h5.tape, h5.output, by simpa using h5.size, fun j hj hne => (World.putObj_heap_other (by omega)).trans (h5.block j hj hne)⟩
    refine ⟨by simp, .inl ⟨_, _, rfl, run_takeDeferred hK, ?_⟩⟩
    exact ⟨hgp, .inr ⟨ch, xs, hP, rfl⟩⟩
  case stop =>
    rintro D cd pre W _ _ h
    exact h.elim

set_option maxHeartbeats 1000000 in
theorem collectS_wide {gf : Nat} {lb : Array Value} {KK : Nat → Prop} {bi : Option Nat} {wd : Nat} {G : List ByteArray → ByteArray → Prop} {Fin Stop : List ByteArray → Prop} {Pan : List PanicEntry → List ByteArray → Prop} (w : World)
    (eg : ∀ args w, (callFunc gf args).run Try.prog w = .ok (.enter gf args) w)
    (hseq : SeqW Fence.wide 8 Try.prog gf lb encS KK bi wd G Fin Stop Pan w) (hKK : ∀ k, KK k → k < w.heap.size) (hbi : ∀ b, bi = some b → b < w.heap.size) (hG : ∀ pre x, G pre x → pre.length < 1000) :
    Calls Try.prog 122 #[.func (.func gf) #[] lb] w fun e w' => w.grownBy w' bi ∧ ((∃ xs v, Fin xs ∧ e = .returned v ∧ OwnsT w.heap.size w' v xs) ∨ (∃ ch xs, Pan ch xs ∧ e = .panicked ch)) := by
  have HC : Hid (∀ u : Unit, _) := fun _ => appendSeqS_wide w eg hseq hKK hbi hG
  clear hseq eg
  go_enter Try.func122, Try.ntmps122
  go_wp2_with fail
  refine (HC.out ()).mono ?_
  rintro e w1 ⟨hg, (⟨xs, v, hF, rfl, ho⟩ | ⟨ch, xs, hP, rfl⟩)⟩
  · have HO : Hid _ := ho
    have HG : Hid _ := hg
    have HF : Hid _ := hF
    clear ho hg hF
    go_wp2
    go_ret
    exact ⟨HG.out, .inl ⟨xs, v, HF.out, rfl, HO.out⟩⟩
  · exact ⟨rfl, hg, .inr ⟨ch, xs, hP, rfl⟩⟩
end Go.Proofs.Ytdjmhagclcfnfaa
