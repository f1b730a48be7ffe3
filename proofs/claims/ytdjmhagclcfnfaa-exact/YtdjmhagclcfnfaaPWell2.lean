/- The program's wellMade, where the head may be. -/
import Derived.Test.YtdjmhagclcfnfaaPWell
namespace Go.Proofs.Ytdjmhagclcfnfaa
open Go.RowKit Go.Shelf

attribute [local go_sem] Oper.semAt_some

theorem Recs.block_lt {B : Nat} {W : World} {a : Option Addr} {l cap : Nat} {rs : List Rc} (h : Recs B W (.slice a l cap) rs) (hne : rs ≠ []) {k off : Nat} (e : a = some ⟨k, off, none⟩) : k < B := by
  rcases h with ⟨e2, _⟩ | ⟨b, off', cap', e2, hb, _⟩
  · exact absurd e2 hne
  · simp only [Value.slice.injEq] at e2; rw [e2.1] at e; cases e; exact hb
theorem ownIt_some {β γ : Type} {bi : Option Nat} {B : Nat} (I : γ → β → World → Prop) (h : ∀ y, OwnIt bi B (I y)) : OwnIt bi B (fun s W => ∃ y, I y s W) :=
  fun s W W' row ⟨y, hs⟩ hg hr => ⟨y, h y s W W' row hs hg hr⟩

set_option maxRecDepth 100000 in
set_option maxHeartbeats 2000000 in
theorem pwell_goodHead (f t b z : Int) (sv : Value) (rs : List Rc) (w : World) (hR : Recs w.heap.size w sv rs) (hlen : rs.length ≤ 4611686018427387904) (h : headOk f t b z rs.length = true) :
    Calls Try.prog 51 #[.agg #[.int .i64 f, .int .i64 t, .int .i64 b, .int .i64 z, sv]] w fun e w' => e = .returned (.bool (recsOk b z (-1) rs)) ∧ Below w.heap.size w w' := by
  obtain ⟨a, c, rfl⟩ := hR.slice
  refine (callsIn_wide (n := 9)).1 ?_
  refine callsIn_of_wp_marks Try.func51 rfl trivial ?_ rfl
  simp only [Try.ntmps51, List.size_toArray, List.length_cons, List.length_nil, Nat.reduceAdd, Nat.reduceSub, Array.replicate_succ, Array.replicate_zero, List.push_toArray, List.append_toArray, List.nil_append, List.cons_append]
  gi_wp2_with fail
  refine ⟨trivial, (callsIn_wide.2 (headOf_any _ _ _ _ _ _ _ _)).mono ?_⟩
  rintro e w1 ⟨rfl, hb1⟩
  generalize hO : (Obj.cells #[.int .i64 f, .int .i64 t, .int .i64 b, .int .i64 z, .slice a rs.length c] 24) = O at *
  have hB0 : Below w.heap.size w ((w.alloc O).alloc (.cells #[.bool false] 4)) := ((Below.refl _ _).alloc (Nat.le_refl _) _).alloc (by simp) _
  have hR0 : ((w.alloc O).alloc (.cells #[.bool false] 4)).heap[w.heap.size + 1]? = some (.cells #[.bool false] 4 (0, 0)) := by
    have := World.alloc_heap_new (w.alloc O) (.cells #[.bool false] 4)
    rwa [World.size_alloc] at this
  have hS0 : ((w.alloc O).alloc (.cells #[.bool false] 4)).heap[w.heap.size]? = some O := by
    exact (Below.heap_alloc _ _ _ (by simp)).trans (World.alloc_heap_new w O)
  have hs0 : ((w.alloc O).alloc (.cells #[.bool false] 4)).heap.size = w.heap.size + 2 := by simp
  generalize (w.alloc O).alloc (.cells #[.bool false] 4) = W0 at *
  have hR1 : w1.heap[w.heap.size + 1]? = some (.cells #[.bool false] 4 (0, 0)) := (hb1.block _ (by omega)).trans hR0
  have hS1 : w1.heap[w.heap.size]? = some O := (hb1.block _ (by omega)).trans hS0
  have hB1 : Below w.heap.size w w1 := hB0.trans (hb1.mono (by omega))
  have hs1 : w.heap.size + 2 ≤ w1.heap.size := by have := hb1.size; omega
  clear hR0 hB0 hb1 hs0 hS0
  gi_wp2_with fail
  refine ⟨trivial, (callsIn_wide.2 (hwell_good _ _ _ _ _ _ h)).mono ?_⟩
  rintro e w2 ⟨rfl, hb2⟩
  have hR2 : w2.heap[w.heap.size + 1]? = some (.cells #[.bool false] 4 (0, 0)) := (hb2.block _ (by omega)).trans hR1
  have hS2 : w2.heap[w.heap.size]? = some O := (hb2.block _ (by omega)).trans hS1
  have hH2 : w2.heap[w.heap.size]? = some (.cells #[.int .i64 f, .int .i64 t, .int .i64 b, .int .i64 z, .slice a rs.length c] 24 (0, 0)) := by subst hO; exact hS2
  have hB2 : Below w.heap.size w w2 := hB1.trans (hb2.mono (by omega))
  have hs2 : w1.heap.size ≤ w2.heap.size := hb2.size
  have c4 : w2.cell? ⟨w.heap.size, 4, none⟩ = some (.slice a rs.length c) := by subst hO; exact boxed_cell hS2 rfl
  clear hb2 hR1 hB1 hS1 hS2 hO
  have hsw : w.heap.size < w2.heap.size := by omega
  gi_wp2_with fail
  refine ⟨trivial, (callsIn_wide.2 (values_any _ _ _ _)).mono ?_⟩
  rintro e w3 ⟨rfl, rfl⟩
  gi_wp2_with fail
  have hB3 : Below w.heap.size w ((w2.alloc (.cells #[.int .i64 (-1)] 3)).alloc (.cells #[.slice a rs.length c] 22)) := (hB2.alloc (by omega) _).alloc (by simp; omega) _
  have hold : ∀ k, k < w2.heap.size → ((w2.alloc (.cells #[.int .i64 (-1)] 3)).alloc (.cells #[.slice a rs.length c] 22)).heap[k]? = w2.heap[k]? := fun k hk => (Below.heap_alloc _ _ _ (by simp; omega)).trans (Below.heap_alloc _ _ _ hk)
  have hLa : ((w2.alloc (.cells #[.int .i64 (-1)] 3)).alloc (.cells #[.slice a rs.length c] 22)).heap[w2.heap.size]? = some (.cells #[.int .i64 (-1)] 3 (0, 0)) := (Below.heap_alloc _ _ _ (by simp)).trans (World.alloc_heap_new _ _)
  have hV : ((w2.alloc (.cells #[.int .i64 (-1)] 3)).alloc (.cells #[.slice a rs.length c] 22)).heap[w2.heap.size + 1]? = some (.cells #[.slice a rs.length c] 22 (0, 0)) := by
    have := World.alloc_heap_new (w2.alloc (.cells #[.int .i64 (-1)] 3)) (.cells #[.slice a rs.length c] 22)
    rwa [World.size_alloc] at this
  have hs3 : ((w2.alloc (.cells #[.int .i64 (-1)] 3)).alloc (.cells #[.slice a rs.length c] 22)).heap.size = w2.heap.size + 2 := by simp
  generalize (w2.alloc (.cells #[.int .i64 (-1)] 3)).alloc (.cells #[.slice a rs.length c] 22) = W3 at *
  have hR3 := (hold _ (by omega)).trans hR2
  have hH3 := (hold _ (by omega)).trans hH2
  clear hold c4 hR2 hH2 hB2
  have hKW : ∀ k, (rs ≠ [] ∧ ∃ off, a = some ⟨k, off, none⟩) → k < w.heap.size := fun k ⟨hne, off, e⟩ => hR.block_lt hne e
  refine range_law (n := 9) rfl (by decide) (gf := 93) (lb := #[.pointer (some ⟨w2.heap.size + 1, 0, none⟩)]) rfl trivial (enters_of Try.func93 (by kernel_rfl) rfl)
    (values_seq 8 (by decide) (w2.heap.size + 1) (.slice a rs.length c) rs hlen W3 (by omega) (boxed_cell hV rfl) (hR.moved hB3) (fun k => rs ≠ [] ∧ ∃ off, a = some ⟨k, off, none⟩) (fun k hk => Nat.lt_of_lt_of_le (hKW k hk) hB3.size) (fun hne b off l cap e => by simp only [Value.slice.injEq] at e; exact ⟨hne, off, e.1⟩))
    (Below.refl _ _) (fun k hk => Nat.lt_of_lt_of_le (hKW k hk) hB3.size) (fun b e => by cases e) (fun _ => rfl)
    (fun pre W => W.heap[w.heap.size + 1]? = some (.cells #[.bool false] 4 (0, 0)) ∧ W.heap[w.heap.size]? = some (.cells #[.int .i64 f, .int .i64 t, .int .i64 b, .int .i64 z, .slice a rs.length c] 24 (0, 0)) ∧ W.heap[w2.heap.size]? = some (.cells #[.int .i64 (lastOf (-1) pre)] 3 (0, 0)) ∧ recsOk b z (-1) pre = true ∧ Below w.heap.size w W)
    (fun cd pre W => cd = .ret ∧ W.heap[w.heap.size + 1]? = some (.cells #[.bool false] 4 (0, 0)) ∧ recsOk b z (-1) pre = false ∧ Below w.heap.size w W)
    (OwnIt.and (ownIt_block _ _ (fun _ => _) (fun _ => rfl)) (OwnIt.and (ownIt_block _ _ (fun _ => _) (fun _ => rfl)) (OwnIt.and (ownIt_block _ _ (fun pre => .cells #[.int .i64 (lastOf (-1) pre)] 3 (0, 0)) (fun _ => rfl)) (OwnIt.and (OwnIt.pure _ _ _) (ownIt_below (Nat.le_refl _) (by omega))))))
    (fun cd => OwnIt.and (OwnIt.pure _ _ (fun _ => cd = .ret)) (OwnIt.and (ownIt_block _ _ (fun _ => _) (fun _ => rfl)) (OwnIt.and (OwnIt.pure _ _ _) (ownIt_below (Nat.le_refl _) (by omega)))))
    ⟨hR3, hH3, hLa, rfl, hB3⟩
    (fun x a' W => ∃ Bx, W.heap[Bx]? = some (.cells #[.bool x.free, .int .i64 x.block, .string x.data] 34 (0, 0)) ∧ a' = { tmps := #[(.agg #[.int .i64 f, .int .i64 t, .int .i64 b, .int .i64 z, .slice a rs.length c]), .pointer (some ⟨w.heap.size, 0, none⟩), .pointer (some ⟨w.heap.size + 1, 0, none⟩), .pointer (some ⟨w2.heap.size, 0, none⟩), .pointer (some ⟨Bx, 0, none⟩), (.agg #[.int .i64 f, .int .i64 t, .int .i64 b, .int .i64 z, .slice a rs.length c]), (.agg #[.int .i64 f, .int .i64 t, .int .i64 b, .int .i64 z, .int .i64 rs.length]), .bool true, .bool false, .pointer (some ⟨w.heap.size, 4, none⟩), .slice a rs.length c, .func (.func 93) #[] #[.pointer (some ⟨w2.heap.size + 1, 0, none⟩)], .agg #[.bool x.free, .int .i64 x.block, .string x.data], undef, undef, undef, undef, undef, undef, undef, undef, undef, undef, undef, undef, undef, undef, undef, undef, undef, undef, undef, undef, undef, undef, undef, undef], defers := [] })
    (fun x a' => ownIt_some _ fun Bx => OwnIt.and (ownIt_block _ _ (fun _ => _) (fun _ => rfl)) (OwnIt.pure _ _ _))
    ?assign ?body ?done ?stop ?panic
  case assign =>
    rintro l pre x W K ⟨h1, h2, h3, h4, h5⟩ hK
    have lt := fun {k : Nat} {o : Obj} (e : W.heap[k]? = some o) => (Array.getElem?_eq_some_iff.1 e).1
    gi_wp2
    refine hK _ _ ((KeepsOthers.alloc _ _).from _) ?_ ⟨(Below.heap_alloc _ _ _ (lt h1)).trans h1, (Below.heap_alloc _ _ _ (lt h2)).trans h2, (Below.heap_alloc _ _ _ (lt h3)).trans h3, h4, h5.alloc h5.size _⟩ ⟨W.heap.size, World.alloc_heap_new _ _, rfl⟩
    exact (KeptOn.refl _ _).alloc (fun k hk => Nat.lt_of_lt_of_le (hKW k hk) h5.size) _
  case body =>
    rintro l pre x a' W ⟨h1, h2, h3, h4, h5⟩ ⟨Bx, hx, rfl⟩ hG
    have r0 := boxed_cell (i := 0) hx rfl
    have r1 := boxed_cell (i := 1) hx rfl
    have r2 := boxed_cell (i := 2) hx rfl
    have g0 := boxed_cell (i := 0) h2 rfl
    have g1 := boxed_cell (i := 1) h2 rfl
    have g2 := boxed_cell (i := 2) h2 rfl
    have g3 := boxed_cell (i := 3) h2 rfl
    have g4 := boxed_cell (i := 4) h2 rfl
    have la := boxed_cell (i := 0) h3 rfl
    have lt := fun {k : Nat} {o : Obj} (e : W.heap[k]? = some o) => (Array.getElem?_eq_some_iff.1 e).1
    have HK1 : Hid (KeptOn (fun k => rs ≠ [] ∧ ∃ off, a = some ⟨k, off, none⟩) W W) := KeptOn.refl _ _
    have HS : Hid (recsOk b z (-1) (pre ++ [x]) = recOk b z (lastOf (-1) pre) x) := by
      show _ = _
      rw [recsOk_append, h4]; simp [recsOk]
    have HL : Hid (lastOf (-1) (pre ++ [x]) = x.block) := lastOf_snoc _ _ _
    have HX : Hid (recOk b z (lastOf (-1) pre) x = ((decide (lastOf (-1) pre < x.block) && decide (x.block < b)) && decide ((x.data.size : Int) = if (!x.free) then z else 0))) := by
      show _ = _
      simp only [recOk]
      cases x.free <;> simp [Bool.and_assoc]
    clear h4
    generalize lastOf (-1) pre = lst at *
    obtain ⟨fr, bl, da⟩ := x
    dsimp only at *
    have keep := fun {k : Nat} {o : Obj} (e : W.heap[k]? = some o) => e
    have c1' := boxed_cell (i := 0) (keep h1) rfl
    have f1' := boxed_frozen (i := 0) (keep h1)
    have fl1' := boxed_frozen (i := 0) (keep h3)
    have HN : Hid (recOk b z lst ⟨fr, bl, da⟩ = false → ∀ a0 : Act, roundEnd W3.heap.size (fun k => rs ≠ [] ∧ ∃ off, a = some ⟨k, off, none⟩) (fun pre W => W.heap[w.heap.size + 1]? = some (.cells #[.bool false] 4 (0, 0)) ∧ W.heap[w.heap.size]? = some (.cells #[.int .i64 f, .int .i64 t, .int .i64 b, .int .i64 z, .slice a rs.length c] 24 (0, 0)) ∧ W.heap[w2.heap.size]? = some (.cells #[.int .i64 (lastOf (-1) pre)] 3 (0, 0)) ∧ recsOk b z (-1) pre = true ∧ Below w.heap.size w W)
        (fun cd pre W => cd = .ret ∧ W.heap[w.heap.size + 1]? = some (.cells #[.bool false] 4 (0, 0)) ∧ recsOk b z (-1) pre = false ∧ Below w.heap.size w W) (pre ++ [⟨fr, bl, da⟩]) W .ret a0 (W.setCell ⟨w.heap.size + 1, 0, none⟩ (.bool false))) := by
      intro hrk a0
      exact ⟨(KeepsOthers.setCell _ _ _).from _, rfl, Boxed.set _ (keep h1), by rw [HS.out, hrk], h5.setCell (p := ⟨w.heap.size + 1, 0, none⟩) (by simp) _⟩
    have HP : Hid (recOk b z lst ⟨fr, bl, da⟩ = true → ∀ a0 : Act, roundEnd W3.heap.size (fun k => rs ≠ [] ∧ ∃ off, a = some ⟨k, off, none⟩) (fun pre W => W.heap[w.heap.size + 1]? = some (.cells #[.bool false] 4 (0, 0)) ∧ W.heap[w.heap.size]? = some (.cells #[.int .i64 f, .int .i64 t, .int .i64 b, .int .i64 z, .slice a rs.length c] 24 (0, 0)) ∧ W.heap[w2.heap.size]? = some (.cells #[.int .i64 (lastOf (-1) pre)] 3 (0, 0)) ∧ recsOk b z (-1) pre = true ∧ Below w.heap.size w W)
        (fun cd pre W => cd = .ret ∧ W.heap[w.heap.size + 1]? = some (.cells #[.bool false] 4 (0, 0)) ∧ recsOk b z (-1) pre = false ∧ Below w.heap.size w W) (pre ++ [⟨fr, bl, da⟩]) W .normal a0 (W.setCell ⟨w2.heap.size, 0, none⟩ (.int .i64 bl))) := by
      intro hrk a0
      refine ⟨(KeepsOthers.setCell _ _ _).from _, KeptOn.of_below (N := w.heap.size) (((Below.refl _ _).mono h5.size).setCell (p := ⟨w2.heap.size, 0, none⟩) (by simp; omega) _) hKW, ?_, ?_, ?_, by rw [HS.out, hrk], h5.setCell (p := ⟨w2.heap.size, 0, none⟩) (by simp; omega) _⟩
      · exact (Below.heap_setCell _ _ _ _ (by simp; omega)).trans (keep h1)
      · exact (Below.heap_setCell _ _ _ _ (by simp; omega)).trans (keep h2)
      · rw [HL.out]; exact Boxed.set _ (keep h3)
    clear hx h1 h2 h3 keep HS HL
    by_cases hfa : lst < bl
    · have d1 : decide (bl ≤ lst) = false := by simp; omega
      by_cases hfb : bl < b
      · have d2 : decide (b ≤ bl) = false := by simp; omega
        have hfo : (decide (lst < bl) && decide (bl < b)) = true := by simp [hfa, hfb]
        clear hfa hfb
        gi_wp2_with fail
        refine ⟨trivial, (CallsIn.inRound l (callsIn_wide.2 (filled_any _ _ _ _))).mono ?_⟩
        rintro e W2 ⟨rfl, rfl⟩
        cases hfi : decide ((da.size : Int) = if (!fr) = true then z else 0) with
        | false =>
          gi_wp2
          exact HN.out (by rw [HX.out, hfo, hfi]; rfl) _
        | true =>
          gi_wp2
          exact HP.out (by rw [HX.out, hfo, hfi]; rfl) _
      · have d2 : decide (b ≤ bl) = true := by simp; omega
        have hfo : (decide (lst < bl) && decide (bl < b)) = false := by simp [hfb]
        clear hfa hfb
        gi_wp2
        refine ⟨trivial, ?_⟩
        gi_wp2
        exact HN.out (by rw [HX.out, hfo]; rfl) _
    · have d1 : decide (bl ≤ lst) = true := by simp; omega
      have hfo : (decide (lst < bl) && decide (bl < b)) = false := by simp [hfa]
      clear hfa
      gi_wp2
      refine ⟨trivial, ?_⟩
      gi_wp2
      exact HN.out (by rw [HX.out, hfo]; rfl) _
  case done =>
    rintro D ys W hD rfl ⟨h1, h2, h3, h4, h5⟩ hK
    have c1' := boxed_cell (i := 0) h1 rfl
    have f1' := boxed_frozen (i := 0) h1
    gi_wp2
    have hK' := (KeepsOthers.setCell W ⟨w.heap.size + 1, 0, none⟩ (.bool true)).same D _ hK rfl
    refine ⟨by simp, .inl ⟨_, _, rfl, run_takeDeferred hK', ?_⟩⟩
    have c5 := boxed_cell (i := 0) ((World.putObj_heap_other (w := W.setCell ⟨w.heap.size + 1, 0, none⟩ (.bool true)) (o := .deferred none) (show w.heap.size + 1 ≠ D by omega)).trans (Boxed.set (.bool true) h1)) rfl
    refine ⟨.bool true, by simp [results, Try.f51, go_sem, c5], by rw [h4], ?_⟩
    exact (h5.setCell (p := ⟨w.heap.size + 1, 0, none⟩) (by simp) _).trans (belowK_b (w := w) (Nat.le_refl _) _ D _ _ (by omega) hK' rfl rfl)
  case stop =>
    rintro D cd pre W hD ⟨suf, hp⟩ ⟨rfl, h1, h4, h5⟩ hK
    gi_wp2
    refine ⟨by simp, .inl ⟨_, _, rfl, run_takeDeferred hK, ?_⟩⟩
    have c5 := boxed_cell (i := 0) ((World.putObj_heap_other (w := W) (o := .deferred none) (show w.heap.size + 1 ≠ D by omega)).trans h1) rfl
    have hrs : recsOk b z (-1) rs = false := by
      rw [← hp, recsOk_append, h4]; rfl
    refine ⟨.bool false, by simp [results, Try.f51, go_sem, c5], by rw [hrs], ?_⟩
    exact h5.trans (belowK_b (w := w) (Nat.le_refl _) _ D _ _ (by omega) hK rfl rfl)
  case panic =>
    rintro D ch xs W _ hp
    exact hp.elim
end Go.Proofs.Ytdjmhagclcfnfaa
