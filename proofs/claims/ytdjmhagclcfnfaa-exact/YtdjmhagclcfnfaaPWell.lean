/- The program's wellMade. -/
import Derived.Test.YtdjmhagclcfnfaaValues
import Derived.Test.YtdjmhagclcfnfaaPSmall
namespace Go.Proofs.Ytdjmhagclcfnfaa
open Go.RowKit Go.Shelf

attribute [local go_sem] Oper.semAt_some

/-- A block of cells is what no iterator without cells of its own turns. -/
theorem ownIt_block {β : Type} (B k : Nat) (o : β → Obj) (ho : ∀ s, (o s).isCells = true) : OwnIt none B (fun s W => W.heap[k]? = some (o s)) := by
  intro s W W' row h hg hr
  refine (hg.block k (Array.getElem?_eq_some_iff.1 h).1 (fun e => ?_)).trans h
  rcases hr k e.symm with e2 | ⟨_, o', ho', hc⟩
  · cases e2
  · rw [h] at ho'
    cases ho'
    rw [ho s] at hc
    cases hc
theorem ownIt_below {β : Type} {n₀ B : Nat} {w₀ : World} (hn : n₀ ≤ w₀.heap.size) (hB : n₀ ≤ B) : OwnIt none B (fun (_ : β) W => Below n₀ w₀ W) :=
  fun _ _ _ _ hs hg hr => hs.grown hg (Nat.le_trans hn hs.size) (fun k e => by
    rcases hr k e with e2 | ⟨h2, _⟩
    · cases e2
    · omega)

theorem boxed_cell {W : World} {k i : Nat} {cs : Array Value} {t : TypeId} {v : Value} (h : W.heap[k]? = some (.cells cs t (0, 0))) (hi : cs[i]? = some v) : W.cell? ⟨k, i, none⟩ = some v := by
  simp [World.cell?, h, hi]
theorem boxed_frozen {W : World} {k i : Nat} {cs : Array Value} {t : TypeId} (h : W.heap[k]? = some (.cells cs t (0, 0))) : W.frozen? ⟨k, i, none⟩ = false := by
  simp [World.frozen?, h]
theorem block_set {w : World} {g i : Nat} {cs : Array Value} {t : TypeId} (h : w.heap[g]? = some (.cells cs t (0, 0))) (v : Value) : (w.setCell ⟨g, i, none⟩ v).heap[g]? = some (.cells (cs.setIfInBounds i v) t (0, 0)) := by
  obtain ⟨hlt, hk⟩ := Array.getElem?_eq_some_iff.1 h
  show (w.heap.modify g _)[g]? = _
  rw [Array.getElem?_eq_getElem (by rw [Array.size_modify]; exact hlt), Array.getElem_modify_self, hk]
  rfl

set_option maxRecDepth 100000 in
set_option maxHeartbeats 1000000 in
theorem pwell_badHead (f t b z : Int) (a : Option Addr) (l c : Nat) (w : World) (h : headOk f t b z l = false) :
    Calls Try.prog 51 #[.agg #[.int .i64 f, .int .i64 t, .int .i64 b, .int .i64 z, .slice a l c]] w fun e w' => e = .returned (.bool false) ∧ Below w.heap.size w w' := by
  refine (callsIn_wide (n := 9)).1 ?_
  refine callsIn_of_wp_marks Try.func51 rfl trivial ?_ rfl
  simp only [Try.ntmps51, List.size_toArray, List.length_cons, List.length_nil, Nat.reduceAdd, Nat.reduceSub, Array.replicate_succ, Array.replicate_zero, List.push_toArray, List.append_toArray, List.nil_append, List.cons_append]
  gi_wp2_with fail
  refine ⟨trivial, (callsIn_wide.2 (headOf_any _ _ _ _ _ _ _ _)).mono ?_⟩
  rintro e w1 ⟨rfl, hb1⟩
  generalize hO : (Obj.cells #[.int .i64 f, .int .i64 t, .int .i64 b, .int .i64 z, .slice a l c] 24) = O at *
  have hB0 : Below w.heap.size w ((w.alloc O).alloc (.cells #[.bool false] 4)) := ((Below.refl _ _).alloc (Nat.le_refl _) _).alloc (by simp) _
  have hR0 : ((w.alloc O).alloc (.cells #[.bool false] 4)).heap[w.heap.size + 1]? = some (.cells #[.bool false] 4 (0, 0)) := by
    have := World.alloc_heap_new (w.alloc O) (.cells #[.bool false] 4)
    rwa [World.size_alloc] at this
  have hs0 : ((w.alloc O).alloc (.cells #[.bool false] 4)).heap.size = w.heap.size + 2 := by simp
  generalize (w.alloc O).alloc (.cells #[.bool false] 4) = W0 at *
  have hR1 : w1.heap[w.heap.size + 1]? = some (.cells #[.bool false] 4 (0, 0)) := (hb1.block _ (by omega)).trans hR0
  have hB1 : Below w.heap.size w w1 := hB0.trans (hb1.mono (by omega))
  have hs1 : w.heap.size + 2 ≤ w1.heap.size := by have := hb1.size; omega
  clear hO hR0 hB0 hb1 hs0
  gi_wp2_with fail
  refine ⟨trivial, (callsIn_wide.2 (hwell_bad _ _ _ _ _ _ h)).mono ?_⟩
  rintro e w2 ⟨rfl, hb2⟩
  have hR2 : w2.heap[w.heap.size + 1]? = some (.cells #[.bool false] 4 (0, 0)) := (hb2.block _ (by omega)).trans hR1
  have hB2 : Below w.heap.size w w2 := hB1.trans (hb2.mono (by omega))
  have c2 := boxed_cell (i := 0) (v := .bool false) hR2 rfl
  have f2 := boxed_frozen (i := 0) hR2
  clear hb2 hR1 hB1
  gi_wp2
  have c3 := World.cell?_setCell_same' w2 ⟨w.heap.size + 1, 0, none⟩ (.bool false) (by rw [c2]; rfl)
  refine ⟨.bool false, by simp [results, Try.f51, go_sem, c3], rfl, hB2.setCell (p := ⟨w.heap.size + 1, 0, none⟩) (by simp) _⟩
end Go.Proofs.Ytdjmhagclcfnfaa
