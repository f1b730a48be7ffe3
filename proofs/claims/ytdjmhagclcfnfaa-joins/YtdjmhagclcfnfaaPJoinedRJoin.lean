/- PJoined, RJoin -/
import Derived.Test.YtdjmhagclcfnfaaPAllToPCollect3
import Derived.Test.YtdjmhagclcfnfaaJoinMToPRow8
import Derived.Test.YtdjmhagclcfnfaaLExact2ToRJoinM
/- The program's joined. -/
namespace Go.Proofs.Ytdjmhagclcfnfaa
open Go.Shelf Go.RowKit

theorem complete_whole (ys : List Sk) : completeR (ys.map skP) ↔ wholeC (ys.map (·.1)) := by
  unfold completeR wholeC
  constructor
  · intro h k c hk
    rw [List.getElem?_map] at hk
    cases hy : ys[k]? with
    | none => rw [hy] at hk; cases hk
    | some y =>
      rw [hy] at hk
      simp only [Option.map_some, Option.some.injEq] at hk
      subst hk
      obtain ⟨a, ha, h5, h6, h7⟩ := h k (skP y) (by rw [List.getElem?_map, hy]; rfl)
      rw [List.getElem?_map] at ha
      cases hz : ys[0]? with
      | none => rw [hz] at ha; cases ha
      | some z =>
        rw [hz] at ha
        simp only [Option.map_some, Option.some.injEq] at ha
        subst ha
        rw [List.length_map] at h6 ⊢
        exact ⟨⟨z.1, by rw [List.getElem?_map, hz]; rfl, h5⟩, h6, h7⟩
  · intro h k p hk
    rw [List.getElem?_map] at hk
    cases hy : ys[k]? with
    | none => rw [hy] at hk; cases hk
    | some y =>
      rw [hy] at hk
      simp only [Option.map_some, Option.some.injEq] at hk
      subst hk
      obtain ⟨⟨a, ha, h5⟩, h6, h7⟩ := h k y.1 (by rw [List.getElem?_map, hy]; rfl)
      rw [List.getElem?_map] at ha
      cases hz : ys[0]? with
      | none => rw [hz] at ha; cases ha
      | some z =>
        rw [hz] at ha
        simp only [Option.map_some, Option.some.injEq] at ha
        subst ha
        rw [List.length_map] at h6 ⊢
        exact ⟨skP z, by rw [List.getElem?_map, hz]; rfl, h5, h6, h7⟩
theorem turn_whole (ys : List Sk) : turnR (ys.map skP) = (ys.map (·.1)).flatMap Ck.rs := by
  unfold turnR
  rw [List.flatMap_map, List.flatMap_map]
  rfl
theorem turn_length : ∀ (ps : List (Ck × Value)), (∀ p ∈ ps, p.1.rs.length ≤ 100) → (turnR ps).length ≤ 100 * ps.length
  | [], _ => by simp [turnR]
  | p :: ps, h => by
    have h1 := turn_length ps (fun q hq => h q (List.mem_cons_of_mem _ hq))
    have h2 := h p (by simp)
    unfold turnR at *
    rw [List.flatMap_cons, List.length_append, List.length_cons]
    omega
theorem kept_cells {A W : World} (h : A.grownBy W none) : (∀ X i, X < A.heap.size → W.cell? ⟨X, i, none⟩ = A.cell? ⟨X, i, none⟩) ∧ (∀ X i, X < A.heap.size → W.frozen? ⟨X, i, none⟩ = A.frozen? ⟨X, i, none⟩) :=
  ⟨fun X i hX => World.cell?_of_block (a := ⟨X, i, none⟩) (h.block X hX (by simp)), fun X i hX => by
    have := h.block X hX (by simp)
    simp only [World.frozen?, this]⟩
theorem stream_head {W : World} {X Y : Nat} {t t' : TypeId} {v0 v1 v2 v3 v4 u0 u1 u2 u3 u4 : Value} (h : W.heap[X]? = some (.cells #[v0, v1, v2, v3, v4] t (0, 0))) (h' : W.heap[Y]? = some (.cells #[u0, u1, u2, u3, u4] t' (0, 0))) :
    W.cell? ⟨X, 0, none⟩ = some v0 ∧ W.cell? ⟨X, 1, none⟩ = some v1 ∧ W.cell? ⟨X, 2, none⟩ = some v2 ∧ W.cell? ⟨X, 3, none⟩ = some v3 ∧ W.cell? ⟨X, 4, none⟩ = some v4 ∧ W.cell? ⟨Y, 4, none⟩ = some u4 :=
  ⟨boxed_cell (i := 0) h rfl, boxed_cell (i := 1) h rfl, boxed_cell (i := 2) h rfl, boxed_cell (i := 3) h rfl, boxed_cell (i := 4) h rfl, boxed_cell (i := 4) h' rfl⟩
theorem OwnsR.setT {B : Nat} {W : World} {v : Value} {rs : List Rc} (h : OwnsR B W v rs) {X o : Nat} {x : Value} {cs : Array Value} {t : TypeId} (hX : W.heap[X]? = some (.cells cs t (0, 0))) (ht : t ≠ 34) : OwnsR B (W.setCell ⟨X, o, none⟩ x) v rs :=
  OwnsR.beside h (gset W X o x) fun k cs' fr hk e => by
    cases e
    rw [hX] at hk
    simp only [Option.some.injEq, Obj.cells.injEq] at hk
    exact ht hk.2.1
theorem below_set {M X o : Nat} {W0 W : World} {x : Value} (h : Below M W0 W) (hX : M ≤ X) : Below M W0 (W.setCell ⟨X, o, none⟩ x) :=
  Below.setCell h (p := ⟨X, o, none⟩) hX x
theorem below_set5 {M X : Nat} {W0 W : World} {x0 x1 x2 x3 x4 : Value} (h : Below M W0 W) (hX : M ≤ X) : Below M W0 (((((W.setCell ⟨X, 0, none⟩ x0).setCell ⟨X, 1, none⟩ x1).setCell ⟨X, 2, none⟩ x2).setCell ⟨X, 3, none⟩ x3).setCell ⟨X, 4, none⟩ x4) :=
  below_set (below_set (below_set (below_set (below_set h hX) hX) hX) hX) hX
theorem fill5 {X : Nat} {W : World} {x0 x1 x2 x3 x4 a0 a1 a2 a3 a4 : Value} {t : TypeId} (hz : W.heap[X]? = some (.cells #[a0, a1, a2, a3, a4] t (0, 0))) :
    (((((W.setCell ⟨X, 0, none⟩ x0).setCell ⟨X, 1, none⟩ x1).setCell ⟨X, 2, none⟩ x2).setCell ⟨X, 3, none⟩ x3).setCell ⟨X, 4, none⟩ x4).heap[X]? = some (.cells #[x0, x1, x2, x3, x4] t (0, 0)) :=
  block_set (i := 4) (block_set (i := 3) (block_set (i := 2) (block_set (i := 1) (block_set (i := 0) hz x0) x1) x2) x3) x4
theorem OwnsR.setT5 {B X : Nat} {W : World} {v : Value} {rs : List Rc} {x0 x1 x2 x3 x4 a0 a1 a2 a3 a4 : Value} {t : TypeId} (ho : OwnsR B W v rs) (hz : W.heap[X]? = some (.cells #[a0, a1, a2, a3, a4] t (0, 0))) (ht : t ≠ 34) :
    OwnsR B (((((W.setCell ⟨X, 0, none⟩ x0).setCell ⟨X, 1, none⟩ x1).setCell ⟨X, 2, none⟩ x2).setCell ⟨X, 3, none⟩ x3).setCell ⟨X, 4, none⟩ x4) v rs := by
  have b1 := block_set (i := 0) hz x0
  have b2 := block_set (i := 1) b1 x1
  have b3 := block_set (i := 2) b2 x2
  have b4 := block_set (i := 3) b3 x3
  exact OwnsR.setT (OwnsR.setT (OwnsR.setT (OwnsR.setT (OwnsR.setT ho hz ht) b1 ht) b2 ht) b3 ht) b4 ht
theorem keepSet5 {W0 W : World} {b X : Nat} {v0 v1 v2 v3 v4 x0 x1 x2 x3 x4 : Value}
    (hS : W.cell? ⟨b, 0, none⟩ = some v0 ∧ W.cell? ⟨b, 1, none⟩ = some v1 ∧ W.cell? ⟨b, 2, none⟩ = some v2 ∧ W.cell? ⟨b, 3, none⟩ = some v3 ∧ W.cell? ⟨b, 4, none⟩ = some v4 ∧ Below W0.heap.size W0 W) (hp : b < W0.heap.size) (hX : W0.heap.size ≤ X) :
    (((((W.setCell ⟨X, 0, none⟩ x0).setCell ⟨X, 1, none⟩ x1).setCell ⟨X, 2, none⟩ x2).setCell ⟨X, 3, none⟩ x3).setCell ⟨X, 4, none⟩ x4).cell? ⟨b, 0, none⟩ = some v0 ∧ (((((W.setCell ⟨X, 0, none⟩ x0).setCell ⟨X, 1, none⟩ x1).setCell ⟨X, 2, none⟩ x2).setCell ⟨X, 3, none⟩ x3).setCell ⟨X, 4, none⟩ x4).cell? ⟨b, 1, none⟩ = some v1 ∧ (((((W.setCell ⟨X, 0, none⟩ x0).setCell ⟨X, 1, none⟩ x1).setCell ⟨X, 2, none⟩ x2).setCell ⟨X, 3, none⟩ x3).setCell ⟨X, 4, none⟩ x4).cell? ⟨b, 2, none⟩ = some v2 ∧ (((((W.setCell ⟨X, 0, none⟩ x0).setCell ⟨X, 1, none⟩ x1).setCell ⟨X, 2, none⟩ x2).setCell ⟨X, 3, none⟩ x3).setCell ⟨X, 4, none⟩ x4).cell? ⟨b, 3, none⟩ = some v3 ∧ (((((W.setCell ⟨X, 0, none⟩ x0).setCell ⟨X, 1, none⟩ x1).setCell ⟨X, 2, none⟩ x2).setCell ⟨X, 3, none⟩ x3).setCell ⟨X, 4, none⟩ x4).cell? ⟨b, 4, none⟩ = some v4 ∧ Below W0.heap.size W0 (((((W.setCell ⟨X, 0, none⟩ x0).setCell ⟨X, 1, none⟩ x1).setCell ⟨X, 2, none⟩ x2).setCell ⟨X, 3, none⟩ x3).setCell ⟨X, 4, none⟩ x4) := by
  have hne : b ≠ X := by omega
  have e : ∀ o, (((((W.setCell ⟨X, 0, none⟩ x0).setCell ⟨X, 1, none⟩ x1).setCell ⟨X, 2, none⟩ x2).setCell ⟨X, 3, none⟩ x3).setCell ⟨X, 4, none⟩ x4).cell? ⟨b, o, none⟩ = W.cell? ⟨b, o, none⟩ := fun o => World.cell?_of_block (a := ⟨b, o, none⟩) ((Below.heap_setCell _ _ _ _ hne).trans ((Below.heap_setCell _ _ _ _ hne).trans ((Below.heap_setCell _ _ _ _ hne).trans ((Below.heap_setCell _ _ _ _ hne).trans (Below.heap_setCell _ _ _ _ hne)))))
  exact ⟨(e 0).trans hS.1, (e 1).trans hS.2.1, (e 2).trans hS.2.2.1, (e 3).trans hS.2.2.2.1, (e 4).trans hS.2.2.2.2.1, below_set5 hS.2.2.2.2.2 hX⟩
theorem keepAl {W0 W : World} {b : Nat} {o o' : Obj} {v0 v1 v2 v3 v4 : Value}
    (hS : (W.alloc o).cell? ⟨b, 0, none⟩ = some v0 ∧ (W.alloc o).cell? ⟨b, 1, none⟩ = some v1 ∧ (W.alloc o).cell? ⟨b, 2, none⟩ = some v2 ∧ (W.alloc o).cell? ⟨b, 3, none⟩ = some v3 ∧ (W.alloc o).cell? ⟨b, 4, none⟩ = some v4 ∧ Below W0.heap.size W0 (W.alloc o)) (hp : b < W0.heap.size) (hl : W0.heap.size ≤ W.heap.size) :
    (W.alloc o').cell? ⟨b, 0, none⟩ = some v0 ∧ (W.alloc o').cell? ⟨b, 1, none⟩ = some v1 ∧ (W.alloc o').cell? ⟨b, 2, none⟩ = some v2 ∧ (W.alloc o').cell? ⟨b, 3, none⟩ = some v3 ∧ (W.alloc o').cell? ⟨b, 4, none⟩ = some v4 ∧ Below W0.heap.size W0 (W.alloc o') := by
  have e : ∀ k, k < W.heap.size → (W.alloc o').heap[k]? = (W.alloc o).heap[k]? := fun k hk => (Below.heap_alloc W o' k hk).trans (Below.heap_alloc W o k hk).symm
  have c : ∀ i, (W.alloc o').cell? ⟨b, i, none⟩ = (W.alloc o).cell? ⟨b, i, none⟩ := fun i => World.cell?_of_block (a := ⟨b, i, none⟩) (e b (by omega))
  have hb := hS.2.2.2.2.2
  exact ⟨(c 0).trans hS.1, (c 1).trans hS.2.1, (c 2).trans hS.2.2.1, (c 3).trans hS.2.2.2.1, (c 4).trans hS.2.2.2.2.1, hb.os, hb.tape, hb.output, by have := hb.size; simpa using this, fun k hk => (e k (by omega)).trans (hb.block k hk)⟩
theorem OwnsP.ne {B : Nat} {W : World} {g l cp : Nat} {ps : List (Ck × Value)} (h : OwnsP B W (.slice (some ⟨g, 0, none⟩) l cp) ps) {k : Nat} {cs : Array Value} {t : TypeId} {fr : Nat × Nat} (hk : W.heap[k]? = some (.cells cs t fr)) (ht : t ≠ 108) : some k ≠ some g := by
  rcases h.2 with ⟨e0, h0⟩ | ⟨g', cap, cur, e0, hb, hg, _⟩
  · cases e0
  · intro e
    simp only [Value.slice.injEq, Option.some.injEq, Addr.mk.injEq] at e0
    obtain ⟨⟨rfl, -, -⟩, -, -⟩ := e0
    cases e
    rw [hg] at hk
    simp only [Option.some.injEq, Obj.cells.injEq] at hk
    exact ht hk.2.1.symm

set_option maxRecDepth 100000 in
set_option maxHeartbeats 4000000 in
theorem joined_any (g cap B : Nat) (xs : List Sk) (w : World) (h : OwnsP B w (.slice (some ⟨g, 0, none⟩) xs.length cap) (xs.map skP)) (hn : xs.length ≤ 100) (h1 : 1 ≤ xs.length) (hR : ∀ x ∈ xs, OwnsR B w (skP x).2 x.1.rs) (hok : ∀ x ∈ xs, CkOk x.1 ∧ x.1.nu < x.1.many) :
    Calls Try.prog 72 #[.slice (some ⟨g, 0, none⟩) xs.length cap] w fun e w' => w.grownBy w' (some g) ∧
      ((joinC (.inr (xs.map (·.1))) = .inl 13 ∧ ∃ f t b z a n c, e = .returned (.tuple #[.agg #[.int .i64 f, .int .i64 t, .int .i64 b, .int .i64 z, .slice a n c], .bool false])) ∨
       (∃ (f t b z : Nat) (sv : Value) (rs : List Rc), joinC (.inr (xs.map (·.1))) = .inr (f, t, b, z, rs) ∧ wellHead f t b z = true ∧ recsOk b z (-1) rs = true ∧ Recs w'.heap.size w' sv rs ∧ e = .returned (.tuple #[.agg #[.int .i64 f, .int .i64 t, .int .i64 b, .int .i64 z, sv], .bool true]))) := by
  obtain ⟨W0, hW0⟩ : ∃ W0, W0 = w.alloc (.cells #[.int .i64 0, .int .i64 0, .int .i64 0, .int .i64 0, .slice none 0 0] 24) := ⟨_, rfl⟩
  have g0 : Hid (w.grownBy W0 none) := by rw [hW0]; exact galloc _ _ _
  have z0 : w.heap.size < W0.heap.size := by rw [hW0]; simp
  have S0 : Hid (W0.heap[w.heap.size]? = some (.cells #[.int .i64 0, .int .i64 0, .int .i64 0, .int .i64 0, .slice none 0 0] 24 (0, 0))) := by rw [hW0]; exact World.alloc_heap_new _ _
  have h' := OwnsP.keptN h g0.out
  have hgl : g < w.heap.size := by
    obtain ⟨x0, -⟩ := OwnsP.cells h 0 (by rw [List.length_map]; omega)
    exact World.block_lt_of_cell? _ _ x0
  have HS : Hid (∀ u : Unit, _) := fun _ => sort_any g cap B xs W0 h' hn
  have hmf : ∀ (fn : Fn) (first cap : Array Value) (w : World), (Instr.makeFunc fn first cap).run Try.prog w = .ok (.func fn first cap) w := fun _ _ _ _ => rfl
  have HR : Hid _ := hR
  have HP0 : Hid (OwnsP B W0 (.slice (some ⟨g, 0, none⟩) xs.length cap) (xs.map skP)) := h'
  clear h hR h'
  go_enter Try.func72, Try.ntmps72
  go_wp2_with fail
  rw [← hW0]
  clear hW0
  refine (HS.out ()).mono ?_
  rintro e w1 ⟨rfl, ys, hp, hs, ho, hg⟩
  have hyl := hp.length_eq
  rw [← hyl] at ho
  have HC : Hid (∀ u : Unit, _) := fun _ => complete_any g cap B (ys.map skP) w1 (by rw [List.length_map]; exact ho) (by rw [List.length_map]; omega) (by rw [List.length_map]; omega) (fun p hp => by obtain ⟨x, -, rfl⟩ := List.mem_map.1 hp; exact ⟨_, _, _, rfl⟩)
  rw [List.length_map, hyl] at HC
  have HP : Hid _ := hp
  have HSd : Hid _ := hs
  have HO : Hid _ := ho
  have HG : Hid _ := hg
  clear hp hs ho hg HS
  go_wp2_with fail
  refine (HC.out ()).mono ?_
  rintro e w2 ⟨hg2, ok, rfl, hc⟩
  have G2 : Hid (W0.grownBy w2 (some g)) := gtrans HG.out (gnone hg2)
  have GW : Hid (w.grownBy w2 (some g)) := gtrans (gnone g0.out) G2.out
  have B2 : Hid (w2.heap[w.heap.size]? = some (.cells #[.int .i64 0, .int .i64 0, .int .i64 0, .int .i64 0, .slice none 0 0] 24 (0, 0))) := box5_grown S0.out G2.out (by simp; omega)
  obtain ⟨r0, r1, r2, r3, r4, -⟩ := box5_cells B2.out
  obtain ⟨f0, f1, f2, f3, f4⟩ := box5_froz B2.out
  have HPM : Hid ((ys.map (·.1)).Perm (xs.map (·.1))) := HP.out.map _
  have HSM : Hid ((ys.map (·.1)).Pairwise (fun a b : Ck => a.nu ≤ b.nu)) := List.pairwise_map.2 HSd.out
  have HNU : Hid (∀ c ∈ xs.map (·.1), c.nu < c.many) := fun c hc => by obtain ⟨x, hx, rfl⟩ := List.mem_map.1 hc; exact (hok x hx).2
  cases ok with
  | false =>
    have HB : Hid (joinC (.inr (xs.map (·.1))) = .inl 13) := join_bad HPM.out HSM.out HNU.out (by simpa using h1) (fun h => by
      have := hc.2 ((complete_whole ys).2 h.1)
      cases this)
    clear hc
    go_wp2
    refine bodyPost_ret (v := .tuple #[.agg #[.int .i64 0, .int .i64 0, .int .i64 0, .int .i64 0, .slice none 0 0], .bool false]) (by simp [results, Try.results72, go_sem, r0, r1, r2, r3, r4]) rfl ?_
    exact ⟨gfresh (gfresh (gfresh (gfresh (gfresh GW.out (Nat.le_refl _)) (Nat.le_refl _)) (Nat.le_refl _)) (Nat.le_refl _)) (Nat.le_refl _), .inl ⟨HB.out, 0, 0, 0, 0, none, 0, 0, rfl⟩⟩
  | true =>
    have hcomp : wholeC (ys.map (·.1)) := (complete_whole ys).1 (hc.1 rfl)
    clear hc
    have hyp : 0 < ys.length := by omega
    have O2 : Hid (OwnsP B w2 (.slice (some ⟨g, 0, none⟩) (ys.map skP).length cap) (ys.map skP)) := by
      rw [List.length_map]
      exact OwnsP.keptN HO.out hg2
    obtain ⟨x0, x1, x2, x3, x4, -⟩ := OwnsP.cells O2.out 0 (by rw [List.length_map]; exact hyp)
    have HD : Hid ((ys.map (·.1))[0]? = some ys[0].1) := by
      show _ = _
      rw [List.getElem?_map, List.getElem?_eq_getElem hyp]
      rfl
    have hck : CkOk ys[0].1 := (hok ys[0] (HP.out.mem_iff.1 (List.getElem_mem hyp))).1
    rw [List.getElem_map] at x0 x1 x2 x3 x4
    simp only [skP, Nat.zero_mul, Nat.zero_add] at x0 x1 x2 x3 x4
    generalize ys[0].1 = d at *
    have hxl : (0 : Int) < (xs.length : Int) := by omega
    have hgl2 : g < w2.heap.size := Nat.lt_of_lt_of_le hgl GW.out.size
    obtain ⟨W3, hW3⟩ : ∃ W3, W3 = w2.alloc (.cells #[.int .i64 d.f, .int .i64 d.t, .int .i64 d.b, .int .i64 d.z, .int .i64 d.all] 101) := ⟨_, rfl⟩
    have h3 : Hid (W3.heap[w2.heap.size]? = some (.cells #[.int .i64 d.f, .int .i64 d.t, .int .i64 d.b, .int .i64 d.z, .int .i64 d.all] 101 (0, 0))) := by rw [hW3]; exact World.alloc_heap_new _ _
    have g3 : Hid (w2.grownBy W3 none) := by rw [hW3]; exact galloc _ _ _
    have z3 : w2.heap.size < W3.heap.size := by rw [hW3]; simp
    go_wp2_with fail
    rw [← hW3]
    clear hW3
    rename_i K aK
    obtain ⟨rs, hrs⟩ : ∃ rs, rs = turnR (ys.map skP) := ⟨_, rfl⟩
    have hrl : rs.length ≤ 10000 := by
      have := turn_length (ys.map skP) (fun p hp => by
        obtain ⟨x, hx, rfl⟩ := List.mem_map.1 hp
        exact (hok x (HP.out.mem_iff.1 hx)).1.len)
      rw [List.length_map] at this
      rw [hrs]
      omega
    have HRT : Hid ((ys.map (·.1)).flatMap Ck.rs = rs) := by
      show _ = _
      rw [hrs, turn_whole]
    have HGood : Hid (recsOk d.b d.z (-1) rs = true → rs.length = d.all → joinC (.inr (xs.map (·.1))) = .inr (d.f, d.t, d.b, d.z, rs)) := fun h1 h2 => by
      have := join_good HPM.out hcomp d HD.out (by rw [HRT.out]; exact h1) (by rw [HRT.out]; exact h2)
      rw [HRT.out] at this
      exact this
    have HBad : Hid (¬ (recsOk d.b d.z (-1) rs = true ∧ rs.length = d.all) → joinC (.inr (xs.map (·.1))) = .inl 13) := fun h => by
      refine join_bad HPM.out HSM.out HNU.out (by rw [List.length_map]; omega) ?_
      rintro ⟨-, c, hc, h1, h2⟩
      rw [HD.out] at hc
      cases hc
      rw [HRT.out] at h1 h2
      exact h ⟨h1, h2⟩
    have G23 : Hid (w.grownBy W3 (some g)) := gtrans GW.out (gnone g3.out)
    have HR3 : Hid (∀ p ∈ ys.map skP, OwnsR B W3 p.2 p.1.rs) := fun p hp => by
      obtain ⟨x, hx, rfl⟩ := List.mem_map.1 hp
      have a1 := OwnsR.kept (HR.out x (HP.out.mem_iff.1 hx)) g0.out
      have a2 := OwnsR.beside a1 HG.out (fun k cs fr hk => HP0.out.ne hk (by decide))
      exact OwnsR.kept (OwnsR.kept a2 hg2) g3.out
    have hO3 : OwnsP B W3 (.slice (some ⟨g, 0, none⟩) xs.length cap) (ys.map skP) := by
      have := OwnsP.keptN O2.out g3.out
      rw [List.length_map, hyl] at this
      exact this
    have HCol : Hid (∀ (A : World) (Bs : Nat), Below W3.heap.size W3 A → A.cell? ⟨Bs, 0, none⟩ = some (.slice (some ⟨g, 0, none⟩) xs.length cap) → Calls Try.prog 85 #[.func (.func 133) #[] #[.pointer (some ⟨Bs, 0, none⟩)]] A fun e A' => A.grownBy A' none ∧ ∃ a c, e = .returned (.slice a rs.length c) ∧ OwnsR A.heap.size A' (.slice a rs.length c) rs) := fun A Bs hA hc => by
      have hgA : W3.grownBy A none := gbelow hA
      have hps : (ys.map skP).length = xs.length := by rw [List.length_map, hyl]
      refine (collect_many A (enters_of Try.func133 (by kernel_rfl) rfl) (inTurn_seq 8 (by decide) Bs g cap (ys.map skP) (by omega) (fun p hp => by
        obtain ⟨x, hx, rfl⟩ := List.mem_map.1 hp
        have := (hok x (HP.out.mem_iff.1 hx)).1.len
        show x.1.rs.length ≤ 1000
        omega) A (by rw [hps]; exact hc) (by omega) (by rw [hps]; exact row_base (OwnsP.keptN hO3 hgA) (Nat.zero_le _)) (fun p hp => (OwnsR.kept (HR3.out p hp) hgA).recs)) (fun k hk => hk) (fun b hb => by cases hb) (fun pre x hG => by
          have := hG.length_le
          rw [List.length_append, ← hrs] at this
          simp only [List.length_cons, List.length_nil] at this
          omega)).mono ?_
      rintro e A' ⟨hg', (⟨zs, v, rfl, rfl, ho'⟩ | ⟨ch, zs, hF, _⟩)⟩
      · rw [← hrs] at ho'
        obtain ⟨a, c, rfl⟩ := ho'.recs.slice
        exact ⟨hg', a, c, rfl, ho'⟩
      · exact hF.elim
    clear hrs
    have HREST : Hid (∀ (X : Nat) (a : Option Addr) (c : Nat) (v18 v19 v20 : Value) (W : World), W.heap[X]? = some (.cells #[.int .i64 d.f, .int .i64 d.t, .int .i64 d.b, .int .i64 d.z, .slice a rs.length c] 24 (0, 0)) → Below W3.heap.size W3 W → W3.heap.size ≤ X → OwnsR W3.heap.size W (.slice a rs.length c) rs →
        K { tmps := #[.slice (some ⟨g, 0, none⟩) xs.length cap, undef, .pointer (some ⟨w.heap.size, 0, none⟩), .bool false, .pointer (some ⟨w2.heap.size, 0, none⟩), .pointer (some ⟨X, 0, none⟩), .slice (some ⟨g, 0, none⟩) xs.length cap, .tuple #[], .slice (some ⟨g, 0, none⟩) xs.length cap, .bool true, .bool false, undef, .slice (some ⟨g, 0, none⟩) xs.length cap, .pointer (some ⟨g, 0, none⟩), .pointer (some ⟨g, 0, none⟩), .agg #[.int .i64 d.f, .int .i64 d.t, .int .i64 d.b, .int .i64 d.z, .int .i64 d.all], .agg #[.int .i64 d.f, .int .i64 d.t, .int .i64 d.b, .int .i64 d.z, .int .i64 d.all], .slice (some ⟨g, 0, none⟩) xs.length cap, v18, v19, v20, undef, undef, undef, undef, undef, undef, undef, undef, undef, undef, undef], defers := [] } W) := by
      intro X a c v18 v19 v20 W hX hbW hlX hown
      refine aK _ _ ?_
      have hg3W : W3.grownBy W none := gbelow hbW
      have hXl := (Array.getElem?_eq_some_iff.1 hX).1
      have hH := box5_grown h3.out hg3W (by simp)
      have hRb := box5_grown (box5_grown B2.out g3.out (by simp)) hg3W (by simp)
      have hwz : w.heap.size < w2.heap.size := (Array.getElem?_eq_some_iff.1 B2.out).1
      have hne1 : X ≠ w.heap.size := by omega
      have hne2 : w2.heap.size ≠ w.heap.size := by omega
      have hzW : W3.heap.size ≤ W.heap.size := hbW.size
      obtain ⟨s0, s1, s2, s3, s4, -⟩ := box5_cells hX
      obtain ⟨-, -, -, -, q4, -⟩ := box5_cells hH
      obtain ⟨k0, k1, k2, k3, k4, -⟩ := box5_cells hRb
      obtain ⟨m0, m1, m2, m3, m4⟩ := box5_froz hRb
      have HOW : Hid (OwnsR W3.heap.size W (.slice a rs.length c) rs) := hown
      have HGW : Hid (w.grownBy W (some g)) := gtrans G23.out (gnone hg3W)
      clear hown
      by_cases hlen : rs.length = d.all
      · have e1 : ((rs.length : Int) == (d.all : Int)) = true := by simp; omega
        have HPW : Hid (∀ W' : World, W.grownBy W' none → Calls Try.prog 51 #[.agg #[.int .i64 d.f, .int .i64 d.t, .int .i64 d.b, .int .i64 d.z, .slice a rs.length c]] W' fun e w' => e = .returned (.bool (recsOk d.b d.z (-1) rs)) ∧ Below W'.heap.size W' w') := fun W' hW' => by
          have := pwell_any d.f d.t d.b d.z (.slice a rs.length c) rs W' (OwnsR.kept HOW.out hW').recs (by omega)
          rw [hck.head, Bool.true_and] at this
          exact this
        have HKB : Hid (∀ w' : World, Below W.drew.heap.size W.drew w' → W.grownBy w' none ∧ w'.heap[X]? = some (.cells #[.int .i64 d.f, .int .i64 d.t, .int .i64 d.b, .int .i64 d.z, .slice a rs.length c] 24 (0, 0)) ∧ w'.heap[w2.heap.size]? = some (.cells #[.int .i64 d.f, .int .i64 d.t, .int .i64 d.b, .int .i64 d.z, .int .i64 d.all] 101 (0, 0)) ∧ w'.heap[w.heap.size]? = some (.cells #[.int .i64 0, .int .i64 0, .int .i64 0, .int .i64 0, .slice none 0 0] 24 (0, 0))) := fun w' hb => by
          have hg : W.grownBy w' none := gtrans (drew_grown W 1 none) (gbelow hb)
          exact ⟨hg, box5_grown hX hg (by simp), box5_grown hH hg (by simp), box5_grown hRb hg (by simp)⟩
        have HJG : Hid (recsOk d.b d.z (-1) rs = true → _) := fun h => HGood.out h hlen
        have HJB : Hid (recsOk d.b d.z (-1) rs = false → _) := fun h => HBad.out (fun h' => by rw [h] at h'; cases h'.1)
        clear HBad HGood HCol HR3 hlen
        generalize hrk : recsOk d.b d.z (-1) rs = rk at *
        go_wp2_with fail
        go_region_held3 (fun w' => w'.cell? ⟨X, 0, none⟩ = some (.int .i64 d.f) ∧ w'.cell? ⟨X, 1, none⟩ = some (.int .i64 d.t) ∧ w'.cell? ⟨X, 2, none⟩ = some (.int .i64 d.b) ∧ w'.cell? ⟨X, 3, none⟩ = some (.int .i64 d.z) ∧ w'.cell? ⟨X, 4, none⟩ = some (.slice a rs.length c) ∧ w'.cell? ⟨w2.heap.size, 4, none⟩ = some (.int .i64 d.all))
          (first | with_reducible exact stream_head hS9 hH9 | with_reducible exact stream_head (box_set5 hS9 hne1 _ _ _ _ _) (box_set5 hH9 hne2 _ _ _ _ _) | exact stream_head hX hH)
          ((go_at_call 51; refine (HPW.out _ (drew_grown W 1 none)).mono ?_; rintro e w9 ⟨rfl, hb9⟩; obtain ⟨hg9, hS9, hH9, hR9⟩ := HKB.out _ hb9; obtain ⟨k0, k1, k2, k3, k4, -⟩ := box5_cells hR9; obtain ⟨m0, m1, m2, m3, m4⟩ := box5_froz hR9))
        go_wp2
        refine bodyPost_ret (v := .tuple #[.agg #[.int .i64 d.f, .int .i64 d.t, .int .i64 d.b, .int .i64 d.z, .slice a rs.length c], .bool rk]) (by simp [results, Try.results72, go_sem, k0, k1, k2, k3, k4]) rfl ?_
        refine ⟨gfresh (gfresh (gfresh (gfresh (gfresh (gtrans HGW.out (gnone hg9)) (Nat.le_refl _)) (Nat.le_refl _)) (Nat.le_refl _)) (Nat.le_refl _)) (Nat.le_refl _), ?_⟩
        have hwl : w.heap.size < W3.heap.size := by omega
        cases rk with
        | false => exact .inl ⟨HJB.out rfl, _, _, _, _, _, _, _, rfl⟩
        | true => exact .inr ⟨d.f, d.t, d.b, d.z, _, rs, HJG.out rfl, hck.head, hrk, (OwnsR.set (OwnsR.set (OwnsR.set (OwnsR.set (OwnsR.set (OwnsR.kept HOW.out hg9) hwl) hwl) hwl) hwl) hwl).recs, rfl⟩
      · have e1 : ((rs.length : Int) == (d.all : Int)) = false := by simp; omega
        have HBd : Hid _ := HBad.out (fun h => hlen h.2)
        clear HBad HGood HCol HR3 hX hH hRb
        go_wp2_with fail
        go_region
        go_wp2
        refine bodyPost_ret (v := .tuple #[.agg #[.int .i64 d.f, .int .i64 d.t, .int .i64 d.b, .int .i64 d.z, .slice a rs.length c], .bool false]) (by simp [results, Try.results72, go_sem, k0, k1, k2, k3, k4]) rfl ?_
        exact ⟨gfresh (gfresh (gfresh (gfresh (gfresh (gdrewR HGW.out 1) (Nat.le_refl _)) (Nat.le_refl _)) (Nat.le_refl _)) (Nat.le_refl _)) (Nat.le_refl _), .inl ⟨HBd.out, _, _, _, _, _, _, _, rfl⟩⟩
    clear aK HGood HBad HRT hcomp HR HO HG O2 HPM HSM HNU HD HP HSd
    obtain ⟨c0, c1, c2, c3, c4, -⟩ := box5_cells h3.out
    have B30 : Hid (Below W3.heap.size W3 W3.drew) := (Below.refl _ _).drew
    have HC0 : Hid (∀ u : Unit, Calls Try.prog 85 #[.func (.func 133) #[] #[.pointer (some ⟨W3.heap.size + 1, 0, none⟩)]] (((W3.alloc (.cells #[.int .i64 0, .int .i64 0, .int .i64 0, .int .i64 0, .slice none 0 0] 24)).alloc (.cells #[.slice (some ⟨g, 0, none⟩) xs.length cap] 104)).drew) fun e w5 => ∃ a c, e = .returned (.slice a rs.length c) ∧ OwnsR W3.heap.size w5 (.slice a rs.length c) rs ∧ (((W3.alloc (.cells #[.int .i64 0, .int .i64 0, .int .i64 0, .int .i64 0, .slice none 0 0] 24)).alloc (.cells #[.slice (some ⟨g, 0, none⟩) xs.length cap] 104)).drew).grownBy w5 none ∧ w5.heap[W3.heap.size]? = some (.cells #[.int .i64 0, .int .i64 0, .int .i64 0, .int .i64 0, .slice none 0 0] 24 (0, 0)) ∧ W3.heap.size ≤ w5.heap.size) := fun _ => by
      refine (HCol.out ((W3.drew.alloc (.cells #[.int .i64 0, .int .i64 0, .int .i64 0, .int .i64 0, .slice none 0 0] 24)).alloc (.cells #[.slice (some ⟨g, 0, none⟩) xs.length cap] 104)) _ ((B30.out.alloc (Nat.le_refl _) _).alloc (by simp) _) (by simp [go_sem])).mono ?_
      rintro e w5 ⟨hg5, a, c, rfl, ho5⟩
      have hz : ((W3.drew.alloc (.cells #[.int .i64 0, .int .i64 0, .int .i64 0, .int .i64 0, .slice none 0 0] 24)).alloc (.cells #[.slice (some ⟨g, 0, none⟩) xs.length cap] 104)).heap.size ≤ w5.heap.size := hg5.size
      simp at hz
      exact ⟨a, c, rfl, OwnsR.base ho5 (by simp; omega), hg5, box5_grown ((Below.heap_alloc _ _ _ (by simp)).trans (World.alloc_heap_new W3.drew _)) hg5 (by simp), by omega⟩
    have HC1 : Hid (∀ u : Unit, Calls Try.prog 85 #[.func (.func 133) #[] #[.pointer (some ⟨W3.heap.size, 0, none⟩)]] (((W3.alloc (.cells #[.slice (some ⟨g, 0, none⟩) xs.length cap] 104)).alloc (.cells #[.int .i64 0, .int .i64 0, .int .i64 0, .int .i64 0, .slice none 0 0] 24)).drew) fun e w5 => ∃ a c, e = .returned (.slice a rs.length c) ∧ OwnsR W3.heap.size w5 (.slice a rs.length c) rs ∧ (((W3.alloc (.cells #[.slice (some ⟨g, 0, none⟩) xs.length cap] 104)).alloc (.cells #[.int .i64 0, .int .i64 0, .int .i64 0, .int .i64 0, .slice none 0 0] 24)).drew).grownBy w5 none ∧ w5.heap[W3.heap.size + 1]? = some (.cells #[.int .i64 0, .int .i64 0, .int .i64 0, .int .i64 0, .slice none 0 0] 24 (0, 0)) ∧ W3.heap.size ≤ w5.heap.size) := fun _ => by
      refine (HCol.out ((W3.drew.alloc (.cells #[.slice (some ⟨g, 0, none⟩) xs.length cap] 104)).alloc (.cells #[.int .i64 0, .int .i64 0, .int .i64 0, .int .i64 0, .slice none 0 0] 24)) _ ((B30.out.alloc (Nat.le_refl _) _).alloc (by simp) _) (by simp [go_sem])).mono ?_
      rintro e w5 ⟨hg5, a, c, rfl, ho5⟩
      have hz : ((W3.drew.alloc (.cells #[.slice (some ⟨g, 0, none⟩) xs.length cap] 104)).alloc (.cells #[.int .i64 0, .int .i64 0, .int .i64 0, .int .i64 0, .slice none 0 0] 24)).heap.size ≤ w5.heap.size := hg5.size
      have e := World.alloc_heap_new (W3.drew.alloc (.cells #[.slice (some ⟨g, 0, none⟩) xs.length cap] 104)) (.cells #[.int .i64 0, .int .i64 0, .int .i64 0, .int .i64 0, .slice none 0 0] 24)
      rw [World.size_alloc] at e
      simp at hz
      exact ⟨a, c, rfl, OwnsR.base ho5 (by simp; omega), hg5, box5_grown e hg5 (by simp), by omega⟩
    have HC2 : Hid (∀ u : Unit, Calls Try.prog 85 #[.func (.func 133) #[] #[.pointer (some ⟨W3.heap.size, 0, none⟩)]] ((W3.alloc (.cells #[.slice (some ⟨g, 0, none⟩) xs.length cap] 104)).drew) fun e w5 => ∃ a c, e = .returned (.slice a rs.length c) ∧ OwnsR W3.heap.size w5 (.slice a rs.length c) rs ∧ ((W3.alloc (.cells #[.slice (some ⟨g, 0, none⟩) xs.length cap] 104)).drew).grownBy w5 none ∧ W3.heap.size ≤ w5.heap.size) := fun _ => by
      refine (HCol.out (W3.drew.alloc (.cells #[.slice (some ⟨g, 0, none⟩) xs.length cap] 104)) _ (B30.out.alloc (Nat.le_refl _) _) (by simp [go_sem])).mono ?_
      rintro e w5 ⟨hg5, a, c, rfl, ho5⟩
      have hz : (W3.drew.alloc (.cells #[.slice (some ⟨g, 0, none⟩) xs.length cap] 104)).heap.size ≤ w5.heap.size := hg5.size
      simp at hz
      exact ⟨a, c, rfl, OwnsR.base ho5 (by simp), hg5, by omega⟩
    have HS0 : Hid (∀ (f t b z n : Int) (a : Option Addr) (l c X : Nat) (w5 : World), w5.heap[X]? = some (.cells #[.int .i64 0, .int .i64 0, .int .i64 0, .int .i64 0, .slice none 0 0] 24 (0, 0)) → Calls Try.prog 84 #[.agg #[.int .i64 f, .int .i64 t, .int .i64 b, .int .i64 z, .int .i64 n], .slice a l c] w5 fun e w6 => e = .returned (.agg #[.int .i64 f, .int .i64 t, .int .i64 b, .int .i64 z, .slice a l c]) ∧ Below w5.heap.size w5 w6 ∧ w6.heap[X]? = some (.cells #[.int .i64 0, .int .i64 0, .int .i64 0, .int .i64 0, .slice none 0 0] 24 (0, 0)) ∧ w5.heap.size ≤ w6.heap.size) := fun f t b z n a l c X w5 hz => by
      refine (hstream_any f t b z n a l c w5).mono ?_
      rintro e w6 ⟨rfl, hb⟩
      exact ⟨rfl, hb, box5_grown hz (gbelow (row := none) hb) (by simp), hb.size⟩
    have HS2 : Hid (∀ (f t b z n : Int) (a : Option Addr) (l c : Nat) (w5 : World), Calls Try.prog 84 #[.agg #[.int .i64 f, .int .i64 t, .int .i64 b, .int .i64 z, .int .i64 n], .slice a l c] (w5.alloc (.cells #[.int .i64 0, .int .i64 0, .int .i64 0, .int .i64 0, .slice none 0 0] 24)) fun e w6 => e = .returned (.agg #[.int .i64 f, .int .i64 t, .int .i64 b, .int .i64 z, .slice a l c]) ∧ Below (w5.alloc (.cells #[.int .i64 0, .int .i64 0, .int .i64 0, .int .i64 0, .slice none 0 0] 24)).heap.size (w5.alloc (.cells #[.int .i64 0, .int .i64 0, .int .i64 0, .int .i64 0, .slice none 0 0] 24)) w6 ∧ w6.heap[w5.heap.size]? = some (.cells #[.int .i64 0, .int .i64 0, .int .i64 0, .int .i64 0, .slice none 0 0] 24 (0, 0)) ∧ w5.heap.size ≤ w6.heap.size) := fun f t b z n a l c w5 => by
      refine (hstream_any f t b z n a l c _).mono ?_
      rintro e w6 ⟨rfl, hb⟩
      have hz := hb.size
      simp at hz
      exact ⟨rfl, hb, box5_grown (World.alloc_heap_new w5 _) (gbelow (row := none) hb) (by simp), by omega⟩
    have HS1 : Hid (∀ (f t b z n : Int) (a : Option Addr) (l c : Nat) (w5 : World), Calls Try.prog 84 #[.agg #[.int .i64 f, .int .i64 t, .int .i64 b, .int .i64 z, .int .i64 n], .slice a l c] w5 fun e w6 => e = .returned (.agg #[.int .i64 f, .int .i64 t, .int .i64 b, .int .i64 z, .slice a l c]) ∧ Below w5.heap.size w5 w6 ∧ w5.heap.size ≤ w6.heap.size) := fun f t b z n a l c w5 => by
      refine (hstream_any f t b z n a l c _).mono ?_
      rintro e w6 ⟨rfl, hb⟩
      exact ⟨rfl, hb, hb.size⟩
    have hS3 : W3.drew.cell? ⟨w2.heap.size, 0, none⟩ = some (.int .i64 d.f) ∧ W3.drew.cell? ⟨w2.heap.size, 1, none⟩ = some (.int .i64 d.t) ∧ W3.drew.cell? ⟨w2.heap.size, 2, none⟩ = some (.int .i64 d.b) ∧ W3.drew.cell? ⟨w2.heap.size, 3, none⟩ = some (.int .i64 d.z) ∧ W3.drew.cell? ⟨w2.heap.size, 4, none⟩ = some (.int .i64 d.all) ∧ Below W3.heap.size W3 W3.drew := ⟨c0, c1, c2, c3, c4, B30.out⟩
    have HS3 : Hid _ := hS3
    clear HCol hS3
    go_region_held3 (fun w' => w'.cell? ⟨w2.heap.size, 0, none⟩ = some (.int .i64 d.f) ∧ w'.cell? ⟨w2.heap.size, 1, none⟩ = some (.int .i64 d.t) ∧ w'.cell? ⟨w2.heap.size, 2, none⟩ = some (.int .i64 d.b) ∧ w'.cell? ⟨w2.heap.size, 3, none⟩ = some (.int .i64 d.z) ∧ w'.cell? ⟨w2.heap.size, 4, none⟩ = some (.int .i64 d.all) ∧ Below W3.heap.size W3 w')
      (first | with_reducible exact keepSet5 (by assumption) z3 hl5 | with_reducible exact keepSet5 (by assumption) z3 (Nat.le_refl _) | with_reducible exact keepSet5 (by assumption) z3 (Nat.le_succ _) | with_reducible exact keepS5 (by assumption) ((Below.refl _ _).alloc (Nat.le_refl _) _) z3 | with_reducible exact keepS5 (by assumption) (below_of_grown hg5) z3 | with_reducible exact keepS5 (by assumption) hb6 z3 | with_reducible exact keepAl (by assumption) z3 (Nat.le_trans hl5 hl6) | with_reducible exact HS3.out)
      (first | (go_at_call 107; refine (inTurn_any _ _ _ _).mono ?_; rintro e w4 ⟨rfl, rfl⟩) | (go_at_call 85; (with_reducible refine (HC2.out ()).mono ?_); rintro e w5 ⟨a, c, rfl, ho5, hg5, hl5⟩; have HO5 : Hid _ := ho5; clear ho5) | (go_at_call 85; (with_reducible refine (HC1.out ()).mono ?_); rintro e w5 ⟨a, c, rfl, ho5, hg5, hz5, hl5⟩; have HO5 : Hid _ := ho5; clear ho5) | (go_at_call 85; (with_reducible refine (HC0.out ()).mono ?_); rintro e w5 ⟨a, c, rfl, ho5, hg5, hz5, hl5⟩; have HO5 : Hid _ := ho5; clear ho5) | (go_at_call 84; (with_reducible refine (HS0.out _ _ _ _ _ _ _ _ _ _ hz5).mono ?_); rintro e w6 ⟨rfl, hb6, hz6, hl6⟩; obtain ⟨k0, k1, k2, k3, k4, -⟩ := box5_cells hz6; obtain ⟨m0, m1, m2, m3, m4⟩ := box5_froz hz6) | (go_at_call 84; (with_reducible refine (HS2.out _ _ _ _ _ _ _ _ _).mono ?_); rintro e w6 ⟨rfl, hb6, hz6, hl6⟩; obtain ⟨k0, k1, k2, k3, k4, -⟩ := box5_cells hz6; obtain ⟨m0, m1, m2, m3, m4⟩ := box5_froz hz6) | (go_at_call 84; (with_reducible refine (HS1.out _ _ _ _ _ _ _ _ _).mono ?_); rintro e w6 ⟨rfl, hb6, hl6⟩))
    · exact HREST.out w6.heap.size a c _ _ _ _ (World.alloc_heap_new _ _) (s5_below (b := w2.heap.size) (v0 := .int .i64 d.f) (v1 := .int .i64 d.t) (v2 := .int .i64 d.b) (v3 := .int .i64 d.z) (v4 := .int .i64 d.all) (by assumption)) (Nat.le_trans hl5 hl6) (OwnsR.alloc (OwnsR.kept HO5.out (gbelow hb6)) _)
    · exact HREST.out w5.heap.size a c _ _ _ _ (fill5 hz6) (s5_below (b := w2.heap.size) (v0 := .int .i64 d.f) (v1 := .int .i64 d.t) (v2 := .int .i64 d.b) (v3 := .int .i64 d.z) (v4 := .int .i64 d.all) (by assumption)) hl5 (OwnsR.setT5 (OwnsR.kept (OwnsR.alloc HO5.out _) (gbelow hb6)) hz6 (by decide))
    · exact HREST.out (W3.heap.size + 1) a c _ _ _ _ (fill5 hz6) (s5_below (b := w2.heap.size) (v0 := .int .i64 d.f) (v1 := .int .i64 d.t) (v2 := .int .i64 d.b) (v3 := .int .i64 d.z) (v4 := .int .i64 d.all) (by assumption)) (Nat.le_succ _) (OwnsR.setT5 (OwnsR.kept HO5.out (gbelow hb6)) hz6 (by decide))
    · exact HREST.out W3.heap.size a c _ _ _ _ (fill5 hz6) (s5_below (b := w2.heap.size) (v0 := .int .i64 d.f) (v1 := .int .i64 d.t) (v2 := .int .i64 d.b) (v3 := .int .i64 d.z) (v4 := .int .i64 d.all) (by assumption)) (Nat.le_refl _) (OwnsR.setT5 (OwnsR.kept HO5.out (gbelow hb6)) hz6 (by decide))
end Go.Proofs.Ytdjmhagclcfnfaa
/- The reference's Join. -/
namespace Go.Proofs.Ytdjmhagclcfnfaa
open Go.RowKit Go.Shelf

set_option maxRecDepth 100000 in
set_option maxHeartbeats 40000000 in
theorem rjoin (sv : Value) (ts : List (List UInt8)) (w : World) (hT : Txs w.heap.size w sv ts) (hl : ∀ t ∈ ts, t.length ≤ 4611686018427387904) (htl : ts.length ≤ 4611686018427387904) :
    Calls Try.prog 35 #[sv] w (ToldJ ts w) := by
  obtain ⟨a0, cap0, rfl⟩ := hT.slice
  by_cases h0 : ts.length < 1
  · have HP : Hid (joinR ts = .inl 1) := by
      show _ = _
      unfold joinR
      rw [if_pos (.inl h0)]
    have d0 : decide (ts.length < 1) = true := by simpa using h0
    go_enter Try.func35, Try.ntmps35
    go_wp2
    go_ret2
    exact ⟨drew_grown _ 0 _, .inl ⟨1, HP.out, rfl⟩⟩
  by_cases h1 : 100 < ts.length
  · have HP : Hid (joinR ts = .inl 1) := by
      show _ = _
      unfold joinR
      rw [if_pos (.inr h1)]
    have d0 : decide (ts.length < 1) = false := by simpa using h0
    have d1 : decide (100 < ts.length) = true := by simpa using h1
    go_enter Try.func35, Try.ntmps35
    go_wp2
    go_ret2
    exact ⟨drew_grown _ 0 _, .inl ⟨1, HP.out, rfl⟩⟩
  have d0 : decide (ts.length < 1) = false := by simpa using h0
  have d1 : decide (100 < ts.length) = false := by simpa using h1
  have HJ : Hid (joinR ts = joinC (chunksOf ts)) := by
    show _ = _
    unfold joinR
    rw [if_neg (by omega)]
  have HT : Hid (∀ W, w.grownBy W none → Txs W.heap.size W (.slice a0 ts.length cap0) ts) := fun W h => hT.moved (below_of_grown h)
  have HL : Hid _ := hl
  clear hT hl
  go_enter Try.func35, Try.ntmps35
  go_wp2
  go_loopw [4, 5] (fun lv i wr => ∃ (k : Nat) (ps : List (Ck × Value)), k ≤ ts.length ∧ i = .int .i64 k ∧ chunksOf (ts.take k) = .inr (ps.map Prod.fst) ∧ OwnsK w.heap.size wr lv ps ∧ (∀ p ∈ ps, OwnsR w.heap.size wr p.2 p.1.rs) ∧ w.grownBy wr none) (fun _ i _ => ts.length - (intOf i).toNat)
  case atStart => exact ⟨0, [], Nat.zero_le _, rfl, rfl, World.ownsRow_nil _ _ _ _, (fun p hp => by cases hp), drew_grown _ 0 _⟩
  case round =>
    obtain ⟨k, ps, hk, rfl, hch, hO, hR, hG⟩ := hrel
    have hpl : ps.length ≤ 100 := by
      have := chunksOf_length _ _ hch
      rw [List.length_map, List.length_take] at this
      omega
    by_cases hlt : k < ts.length
    · obtain ⟨bb, off, ha, hbb, q0⟩ := (HT.out _ hG).at hlt
      subst ha
      have HC : Hid (∀ u : Unit, _) := fun _ => rchunk ts[k] wr (HL.out _ (List.getElem_mem hlt))
      have HB : Hid (∀ ke, chunkR ts[k] = .inl ke → chunksOf ts = .inl ke) := fun ke he => by
        have := chunksOf_bad (ts.take k) _ ts[k] (ts.drop (k + 1)) ke hch he
        rwa [← List.drop_eq_getElem_cons hlt, List.take_append_drop] at this
      have HN : Hid (∀ c, chunkR ts[k] = .inr c → chunksOf (ts.take (k + 1)) = .inr (ps.map Prod.fst ++ [c])) := fun c he => by
        rw [List.take_succ_eq_append_getElem hlt]
        exact chunksOf_ok _ _ _ c hch he
      have HO : Hid (OwnsK w.heap.size wr _ ps) := hO
      have HR : Hid _ := hR
      have HG : Hid _ := hG
      obtain ⟨al, cl, rfl⟩ := hO.slice
      clear hO hR hG hch
      generalize ts[k] = tk at *
      go_wp2_with fail
      refine (HC.out ()).mono ?_
      rintro e w2 ⟨hg2, (⟨ke, he, rfl⟩ | ⟨c, v, he, rfl, hown⟩)⟩
      · have hke := chunkR_err tk ke he
        have e1 : (ke != 0) = true := by simp; omega
        have HP : Hid (joinR ts = .inl ke) := by
          show _ = _
          rw [HJ.out, HB.out ke he]
          rfl
        have G2 : Hid _ := hg2
        clear he hke HB HN hg2 HC
        unfold ckV
        go_wp2
        go_ret2
        exact ⟨gallocR (gtrans HG.out G2.out) _, .inl ⟨ke, HP.out, rfl⟩⟩
      · have HN2 : Hid _ := HN.out c he
        obtain ⟨va, vl, vc, rfl⟩ := hown.slice
        have G2 : Hid _ := hg2
        have O2 : Hid (OwnsR wr.heap.size w2 (.slice va vl vc) c.rs) := hown
        have HO2 : Hid (OwnsK w.heap.size w2 (.slice al ps.length cl) ps) := HO.out.kept hg2
        have HR2 : Hid (∀ p ∈ ps, OwnsR w.heap.size w2 p.2 p.1.rs) := fun p hp => OwnsR.kept (HR.out p hp) hg2
        have HG2 : Hid (w.grownBy w2 none) := gtrans HG.out hg2
        clear he HB HN hg2 hown HC HO HR
        unfold ckV
        go_wp2_with (at_builtin; refine wpList_append_ck _ rfl _ _ rfl w.heap.size _ ps rfl (OwnsK.alloc (OwnsK.alloc HO2.out _) _) ⟨_, 0, none⟩ (c, .slice va vl vc) ⟨_, _, _, rfl⟩ rfl (cells_new2 _ _ _ _ (by simp)) (by omega) (by have h1 := HG2.out.size; simp; omega) ?_; intro v' w4 hO4 hg4)
        have HOA : Hid (∀ o o', OwnsK w.heap.size ((w2.alloc o).alloc o') (.slice al ps.length cl) ps) := fun o o' => OwnsK.alloc (OwnsK.alloc HO2.out _) _
        refine ⟨⟨k + 1, ps ++ [(c, .slice va vl vc)], by omega, by go_num, ?_, hO4, ?_, ?_⟩, by simp [intOf]; omega⟩
        · rw [HN2.out, List.map_append]
          rfl
        · intro p hp
          have hbase : OwnsR w.heap.size w2 p.2 p.1.rs := by
            rcases List.mem_append.1 hp with h | h
            · exact HR2.out p h
            · rw [List.mem_singleton.1 h]
              exact OwnsR.base O2.out HG.out.size
          exact OwnsR.beside (OwnsR.alloc (OwnsR.alloc hbase _) _) hg4 (fun g cs fr hg e => (HOA.out _ _).ne hg (by decide) e)
        · exact grow_own (gallocR (gallocR HG2.out _) _) hg4 (.inr HO2.out.own_ge)
    · obtain rfl : k = ts.length := by omega
      rw [List.take_length] at hch
      have hpl2 := chunksOf_length _ _ hch
      rw [List.length_map] at hpl2
      rw [hch] at HJ
      cases ps with
      | nil => simp at hpl2; omega
      | cons p0 ps0 =>
        rw [List.map_cons] at HJ
        unfold joinC at HJ
        obtain ⟨A, av⟩ := p0
        dsimp only at HJ
        obtain ⟨al, cl, rfl⟩ := hO.slice
        obtain ⟨g, rfl, hgB, hgl, hcells⟩ := hO.at (k := 0) (by simp)
        have HO : Hid (OwnsK w.heap.size wr (.slice (some ⟨g, 0, none⟩) ((A, av) :: ps0).length cl) ((A, av) :: ps0)) := hO
        have HR : Hid (∀ p ∈ (A, av) :: ps0, OwnsR w.heap.size wr p.2 p.1.rs) := hR
        have HG : Hid _ := hG
        obtain ⟨ava, avl, avc, hav⟩ := (hR (A, av) (by simp)).slice
        dsimp only at hav
        subst hav
        have k0 := hcells 0 (by omega)
        have k1 := hcells 1 (by omega)
        have k2 := hcells 2 (by omega)
        have k3 := hcells 3 (by omega)
        have k4 := hcells 4 (by omega)
        have k5 := hcells 5 (by omega)
        have k6 := hcells 6 (by omega)
        have k7 := hcells 7 (by omega)
        simp only [List.getElem_cons_zero, ckCells, Nat.zero_mul, Nat.zero_add, List.getElem?_cons_zero, List.getElem?_cons_succ] at k0 k1 k2 k3 k4 k5 k6 k7
        have hps : (0 : Int) < (((A, Value.slice ava avl avc) :: ps0).length : Int) := by simp
        have HPL : Hid (((A, Value.slice ava avl avc) :: ps0).length = ts.length) := hpl2
        have HCK : Hid (∀ c ∈ ((A, Value.slice ava avl avc) :: ps0).map Prod.fst, CkOk c) := chunksOf_mem _ _ hch
        rw [show A :: List.map Prod.fst ps0 = ((A, Value.slice ava avl avc) :: ps0).map Prod.fst from rfl] at HJ
        have HAI : Hid (CkOk A) := HCK.out A (by simp)
        clear hO hR hG hcells hch
        generalize hps' : ((A, Value.slice ava avl avc) :: ps0) = ps at *
        have hamx := HAI.out.many
        by_cases hmy : ps.length = A.many
        · have d2 : ((ps.length : Int) != (A.many : Int)) = false := by simp; omega
          have HMY : Hid _ := hmy
          have hmy2 : A.many ≤ 100 := by omega
          have hmp : 0 < A.many := by omega
          clear hmy hpl2 HPL
          go_wp2
          obtain ⟨W5, hW5⟩ : ∃ W5, W5 = (wr.alloc (.cells #[.int .i64 A.f, .int .i64 A.t, .int .i64 A.b, .int .i64 A.z, .slice ava avl avc, .int .i64 A.all, .int .i64 A.nu, .int .i64 A.many] 96)).alloc (.cells #[.int .i64 A.f, .int .i64 A.t, .int .i64 A.b, .int .i64 A.z, .slice none 0 0] 24) := ⟨_, rfl⟩
          have X5 : Hid (W5.heap[wr.heap.size]? = some (.cells #[.int .i64 A.f, .int .i64 A.t, .int .i64 A.b, .int .i64 A.z, .slice ava avl avc, .int .i64 A.all, .int .i64 A.nu, .int .i64 A.many] 96 (0, 0))) := by
            show _ = _
            rw [hW5]
            exact (Below.heap_alloc _ _ _ (by simp)).trans (World.alloc_heap_new _ _)
          have Y5 : Hid (W5.heap[wr.heap.size + 1]? = some (.cells #[.int .i64 A.f, .int .i64 A.t, .int .i64 A.b, .int .i64 A.z, .slice none 0 0] 24 (0, 0))) := by
            show _ = _
            rw [hW5, show wr.heap.size + 1 = (wr.alloc (.cells #[.int .i64 A.f, .int .i64 A.t, .int .i64 A.b, .int .i64 A.z, .slice ava avl avc, .int .i64 A.all, .int .i64 A.nu, .int .i64 A.many] 96)).heap.size from by simp]
            exact World.alloc_heap_new _ _
          have G5 : Hid (w.grownBy W5 none) := by
            show World.grownBy _ _ _
            rw [hW5]
            exact gallocR (gallocR HG.out _) _
          have O5 : Hid (OwnsK w.heap.size W5 (.slice (some ⟨g, 0, none⟩) ps.length cl) ps) := by
            show OwnsK _ _ _ _
            rw [hW5]
            exact OwnsK.alloc (OwnsK.alloc HO.out _) _
          have R5 : Hid (∀ p ∈ ps, OwnsR w.heap.size W5 p.2 p.1.rs) := by
            show ∀ p ∈ ps, _
            rw [hW5]
            exact fun p hp => OwnsR.alloc (OwnsR.alloc (HR.out p hp) _) _
          have hs5 : W5.heap.size = wr.heap.size + 2 := by rw [hW5]; simp
          rw [← hW5]
          have HWB : Hid (w.heap.size ≤ wr.heap.size) := HG.out.size
          clear hW5 k0 k1 k2 k3 k4 k5 k6 k7 HO HR HG
          generalize wr.heap.size = ab at *
          have HNK : Hid (∀ (t : TypeId) k cs fr, t ≠ 24 → W5.heap[k]? = some (.cells cs t fr) → some k ≠ some (ab + 1)) := fun t k cs fr ht hk e => by
            simp only [Option.some.injEq] at e
            rw [e, Y5.out] at hk
            simp only [Option.some.injEq, Obj.cells.injEq] at hk
            exact ht hk.2.1.symm
          have HX : Hid (∀ W, W5.grownBy W (some (ab + 1)) → W.heap[ab]? = some (.cells #[.int .i64 A.f, .int .i64 A.t, .int .i64 A.b, .int .i64 A.z, .slice ava avl avc, .int .i64 A.all, .int .i64 A.nu, .int .i64 A.many] 96 (0, 0)) ∧ OwnsK w.heap.size W (.slice (some ⟨g, 0, none⟩) ps.length cl) ps ∧ (∀ p ∈ ps, OwnsR w.heap.size W p.2 p.1.rs)) := fun W hW => by
            refine ⟨(hW.block ab (by omega) (by simp)).trans X5.out, OwnsK.beside O5.out hW (fun k cs fr hk => HNK.out _ k cs fr (by decide) hk), fun p hp => OwnsR.beside (R5.out p hp) hW (fun k cs fr hk => HNK.out _ k cs fr (by decide) hk)⟩
          go_loopw [10] (fun nv wq => ∃ (k : Nat) (sv : Value), k ≤ A.many ∧ nv = .int .i64 k ∧ wq.heap[ab + 1]? = some (.cells #[.int .i64 A.f, .int .i64 A.t, .int .i64 A.b, .int .i64 A.z, sv] 24 (0, 0)) ∧ OwnsR W5.heap.size wq sv (gatherAll (ps.map Prod.fst) k) ∧ (0 < k → ∀ c ∈ ps.map Prod.fst, sameHead A c = true) ∧ (∀ n, n < k → ((ps.map Prod.fst).filter (fun c => c.nu == n)).length = 1) ∧ (gatherAll (ps.map Prod.fst) k).length ≤ 100 * k ∧ W5.grownBy wq (some (ab + 1))) (fun nv _ => A.many - (intOf nv).toNat)
          case atStart => exact ⟨0, _, Nat.zero_le _, rfl, Y5.out, World.ownsRow_nil _ _ _ _, (fun h => absurd h (by omega)), (fun n h => absurd h (by omega)), by simp [gatherAll], drew_grown _ 0 _⟩
          case round =>
            obtain ⟨k, sv, hk2, rfl, hbx, hov, hsm, hon, hgl2, hG⟩ := hrel
            obtain ⟨hax, hok5, hor5⟩ := HX.out _ hG
            obtain ⟨a0', a1', a2', a3', a4', a5', a6', a7'⟩ := box8 hax
            obtain ⟨sva, svl, svc, rfl⟩ := hov.slice
            have hbl : ab + 1 < wr.heap.size := (Array.getElem?_eq_some_iff.1 hbx).1
            have hal : ab < wr.heap.size := by omega
            by_cases hlt2 : k < A.many
            · have HG0 : Hid (W5.grownBy wr (some (ab + 1))) := hG
              have HV0 : Hid (OwnsR W5.heap.size wr (.slice sva svl svc) (gatherAll (ps.map Prod.fst) k)) := hov
              have HB0 : Hid _ := hbx
              have HSM : Hid _ := hsm
              have HON : Hid _ := hon
              clear hG hov hbx hsm hon hax hok5 hor5
              go_wp2
              clear a0' a1' a2' a3' a4' a5' a6' a7' hbl hal
              go_loopw [11, 12] (fun fd i wq => ∃ (j : Nat) (sv : Value), j ≤ ps.length ∧ i = .int .i64 j ∧ fd = .int .i64 ((((ps.map Prod.fst).take j).filter (fun c => c.nu == k)).length : Nat) ∧ wq.heap[ab + 1]? = some (.cells #[.int .i64 A.f, .int .i64 A.t, .int .i64 A.b, .int .i64 A.z, sv] 24 (0, 0)) ∧ OwnsR W5.heap.size wq sv (gatherAll (ps.map Prod.fst) k ++ gathered ((ps.map Prod.fst).take j) k) ∧ (∀ c ∈ (ps.map Prod.fst).take j, sameHead A c = true) ∧ W5.grownBy wq (some (ab + 1))) (fun _ i _ => ps.length - (intOf i).toNat)
              case atStart => exact ⟨0, _, Nat.zero_le _, rfl, rfl, HB0.out, by simpa [gathered] using HV0.out, (fun c hc => by cases hc), HG0.out⟩
              case round =>
                obtain ⟨j, sv, hj, rfl, rfl, hbx, hov, hsm, hG⟩ := hrel
                obtain ⟨hax, hok5, hor5⟩ := HX.out _ hG
                obtain ⟨a0', a1', a2', a3', a4', a5', a6', a7'⟩ := box8 hax
                obtain ⟨sva2, svl2, svc2, rfl⟩ := hov.slice
                obtain ⟨b0', b1', b2', b3', b4', y0', y1', y2', y3', y4'⟩ := box5 hbx
                have hbl : ab + 1 < wr.heap.size := (Array.getElem?_eq_some_iff.1 hbx).1
                have hal : ab < wr.heap.size := by omega
                have hfl : (((ps.map Prod.fst).take j).filter (fun c => c.nu == k)).length ≤ 100 := by
                  refine Nat.le_trans (List.length_filter_le _ _) ?_
                  rw [List.length_take]
                  omega
                have hgl3 : (gatherAll (ps.map Prod.fst) k ++ gathered ((ps.map Prod.fst).take j) k).length ≤ 20000 := by
                  have := gathered_length k ((ps.map Prod.fst).take j) (fun c hc => HCK.out c (List.mem_of_mem_take hc))
                  rw [List.length_append]
                  omega
                have HG1 : Hid (W5.grownBy wr (some (ab + 1))) := hG
                have HV1 : Hid (OwnsR W5.heap.size wr (.slice sva2 svl2 svc2) (gatherAll (ps.map Prod.fst) k ++ gathered ((ps.map Prod.fst).take j) k)) := hov
                have HB1 : Hid _ := hbx
                have HSM1 : Hid _ := hsm
                have HWB2 : w.heap.size ≤ ab + 1 := Nat.le_trans HWB.out (by omega)
                by_cases hlt3 : j < ps.length
                · obtain ⟨g', e, -, hgl', hcells⟩ := hok5.at hlt3
                  simp only [Option.some.injEq, Addr.mk.injEq, and_true] at e
                  subst e
                  have hmem : ps[j] ∈ ps := List.getElem_mem hlt3
                  have hmem1 : ps[j].1 ∈ ps.map Prod.fst := List.mem_map.2 ⟨_, hmem, rfl⟩
                  have HRJ : Hid (OwnsR w.heap.size wr ps[j].2 ps[j].1.rs) := hor5 _ hmem
                  have hcko := HCK.out _ hmem1
                  have HGT : Hid _ := gathered_take (ps.map Prod.fst) k j (by rw [List.length_map]; exact hlt3)
                  rw [List.getElem_map] at HGT
                  have HBAD : Hid (sameHead A ps[j].1 = false → joinR ts = .inl 13) := fun hb => by
                    rw [HJ.out, if_neg]
                    rw [joinOk_iff]
                    rintro ⟨-, h2, -⟩
                    rw [h2 _ hmem1] at hb
                    cases hb
                  have HGD : Hid (sameHead A ps[j].1 = true → ∀ c ∈ (ps.map Prod.fst).take (j + 1), sameHead A c = true) := fun hb c hc => by
                    rw [List.take_succ_eq_append_getElem (by rw [List.length_map]; exact hlt3), List.getElem_map] at hc
                    rcases List.mem_append.1 hc with h | h
                    · exact HSM1.out c h
                    · rw [List.mem_singleton.1 h]
                      exact hb
                  clear hG hov hbx hsm hax hok5 hor5 hmem hmem1
                  generalize ps[j] = pj at *
                  obtain ⟨c, cv⟩ := pj
                  obtain ⟨cva, cvl, cvc, hcv⟩ := HRJ.out.slice
                  dsimp only at hcv
                  subst hcv
                  have k0 := hcells 0 (by omega)
                  have k1 := hcells 1 (by omega)
                  have k2 := hcells 2 (by omega)
                  have k3 := hcells 3 (by omega)
                  have k4 := hcells 4 (by omega)
                  have k5 := hcells 5 (by omega)
                  have k6 := hcells 6 (by omega)
                  have k7 := hcells 7 (by omega)
                  simp only [ckCells, Nat.add_zero, List.getElem?_cons_zero, List.getElem?_cons_succ] at k0 k1 k2 k3 k4 k5 k6 k7
                  clear hcells
                  dsimp only at HBAD HGD HGT HRJ hcko
                  have hjl : (j : Int) < (ps.length : Int) := by omega
                  by_cases e0 : c.f = A.f
                  case neg =>
                    have x0 : ((c.f : Int) != (A.f : Int)) = true := by simp; omega
                    have HP : Hid (joinR ts = .inl 13) := HBAD.out (by unfold sameHead; exact decide_eq_false (fun h => e0 h.1))
                    clear HBAD HGD
                    go_wp2
                    go_ret2
                    exact ⟨grow_but HWB2 G5.out (gallocR HG1.out _), .inl ⟨13, HP.out, rfl⟩⟩
                  have x0 : ((c.f : Int) != (A.f : Int)) = false := by simp; omega
                  by_cases e1 : c.t = A.t
                  case neg =>
                    have x1 : ((c.t : Int) != (A.t : Int)) = true := by simp; omega
                    have HP : Hid (joinR ts = .inl 13) := HBAD.out (by unfold sameHead; exact decide_eq_false (fun h => e1 h.2.1))
                    clear HBAD HGD
                    go_wp2
                    go_ret2
                    exact ⟨grow_but HWB2 G5.out (gallocR HG1.out _), .inl ⟨13, HP.out, rfl⟩⟩
                  have x1 : ((c.t : Int) != (A.t : Int)) = false := by simp; omega
                  by_cases e2 : c.b = A.b
                  case neg =>
                    have x2 : ((c.b : Int) != (A.b : Int)) = true := by simp; omega
                    have HP : Hid (joinR ts = .inl 13) := HBAD.out (by unfold sameHead; exact decide_eq_false (fun h => e2 h.2.2.1))
                    clear HBAD HGD
                    go_wp2
                    go_ret2
                    exact ⟨grow_but HWB2 G5.out (gallocR HG1.out _), .inl ⟨13, HP.out, rfl⟩⟩
                  have x2 : ((c.b : Int) != (A.b : Int)) = false := by simp; omega
                  by_cases e3 : c.z = A.z
                  case neg =>
                    have x3 : ((c.z : Int) != (A.z : Int)) = true := by simp; omega
                    have HP : Hid (joinR ts = .inl 13) := HBAD.out (by unfold sameHead; exact decide_eq_false (fun h => e3 h.2.2.2.1))
                    clear HBAD HGD
                    go_wp2
                    go_ret2
                    exact ⟨grow_but HWB2 G5.out (gallocR HG1.out _), .inl ⟨13, HP.out, rfl⟩⟩
                  have x3 : ((c.z : Int) != (A.z : Int)) = false := by simp; omega
                  by_cases e4 : c.all = A.all
                  case neg =>
                    have x4 : ((c.all : Int) != (A.all : Int)) = true := by simp; omega
                    have HP : Hid (joinR ts = .inl 13) := HBAD.out (by unfold sameHead; exact decide_eq_false (fun h => e4 h.2.2.2.2.1))
                    clear HBAD HGD
                    go_wp2
                    go_ret2
                    exact ⟨grow_but HWB2 G5.out (gallocR HG1.out _), .inl ⟨13, HP.out, rfl⟩⟩
                  have x4 : ((c.all : Int) != (A.all : Int)) = false := by simp; omega
                  by_cases e5 : c.many = A.many
                  case neg =>
                    have x5 : ((c.many : Int) != (A.many : Int)) = true := by simp; omega
                    have HP : Hid (joinR ts = .inl 13) := HBAD.out (by unfold sameHead; exact decide_eq_false (fun h => e5 h.2.2.2.2.2))
                    clear HBAD HGD
                    go_wp2
                    go_ret2
                    exact ⟨grow_but HWB2 G5.out (gallocR HG1.out _), .inl ⟨13, HP.out, rfl⟩⟩
                  have x5 : ((c.many : Int) != (A.many : Int)) = false := by simp; omega
                  have HSH : Hid _ := HGD.out (by unfold sameHead; exact decide_eq_true ⟨e0, e1, e2, e3, e4, e5⟩)
                  clear HBAD HGD
                  have JB : Hid (∀ o W', (World.alloc wr o).grownBy W' (Value.slice sva2 svl2 svc2).ownBlock → W'.heap[ab + 1]? = some (.cells #[.int .i64 A.f, .int .i64 A.t, .int .i64 A.b, .int .i64 A.z, .slice sva2 svl2 svc2] 24 (0, 0))) := fun o W' hW' => by
                    have hne : some (ab + 1) ≠ (Value.slice sva2 svl2 svc2).ownBlock := fun e => by have := HV1.out.own_ge _ e.symm; omega
                    exact (hW'.block (ab + 1) (by simp; omega) hne).trans ((Below.heap_alloc _ _ _ hbl).trans HB1.out)
                  by_cases hnu : c.nu = k
                  · have d6 : ((c.nu : Int) == (k : Int)) = true := by simp [hnu]
                    rw [if_pos (by simpa using hnu), if_pos (by simpa using hnu)] at HGT
                    go_wp2_with (at_builtin; refine wpList_append_recs _ rfl _ _ rfl W5.heap.size _ (gatherAll (ps.map Prod.fst) k ++ gathered ((ps.map Prod.fst).take j) k) w.heap.size _ c.rs rfl (OwnsR.alloc HV1.out _) rfl (OwnsR.alloc HRJ.out _) (by have := hcko.len; omega) (by have := HG1.out.size; simp; omega) ?_; intro v' w7 hO7 hg7; obtain ⟨a7, l7, c7, rfl⟩ := hO7.slice; have O7 : Hid _ := hO7; have G7 : Hid _ := hg7; have hb7 := JB.out _ _ hg7; obtain ⟨d0', d1', d2', d3', d4', z0', z1', z2', z3', z4'⟩ := box5 hb7; clear hO7 hg7 hb7)
                    obtain ⟨p1, p2, p3⟩ := box_step (A := W5) (by omega) ((Below.heap_alloc _ _ _ hbl).trans HB1.out) (OwnsR.alloc HV1.out _) (gallocR HG1.out _) G7.out O7.out
                    refine ⟨⟨j + 1, _, by omega, by go_num, by rw [HGT.out.2]; simp, p1, ?_, HSH.out, p3⟩, by simp [intOf]; omega⟩
                    rw [HGT.out.1, ← List.append_assoc]
                    exact p2
                  · have d6 : ((c.nu : Int) == (k : Int)) = false := by simp; omega
                    rw [if_neg (by simpa using hnu), if_neg (by simpa using hnu)] at HGT
                    go_wp2
                    refine ⟨⟨j + 1, _, by omega, by go_num, by rw [HGT.out.2]; rfl, (Below.heap_alloc _ _ _ hbl).trans HB1.out, ?_, HSH.out, gallocR HG1.out _⟩, by simp [intOf]; omega⟩
                    rw [HGT.out.1, List.append_nil]
                    exact OwnsR.alloc HV1.out _
                · obtain rfl : j = ps.length := by omega
                  rw [List.take_of_length_le (by rw [List.length_map]; omega)] at HSM1 HV1 hfl hgl3 ⊢
                  clear hG hov hbx hsm hax hok5 hor5
                  by_cases hone : ((ps.map Prod.fst).filter (fun c => c.nu == k)).length = 1
                  · rw [hone]
                    go_wp2
                    refine ⟨⟨k + 1, _, by omega, by go_num, HB1.out, ?_, fun _ => HSM1.out, ?_, ?_, HG1.out⟩, by simp [intOf]; omega⟩
                    · rw [gatherAll_succ]
                      exact HV1.out
                    · intro n hn
                      by_cases hnk : n = k
                      · rw [hnk]
                        exact hone
                      · exact HON.out n (by omega)
                    · have := gathered_length k (ps.map Prod.fst) HCK.out
                      rw [gatherAll_succ, List.length_append]
                      omega
                  · have d7 : ((((ps.map Prod.fst).filter (fun c => c.nu == k)).length : Int) != 1) = true := by simp; omega
                    have HP : Hid (joinR ts = .inl 13) := by
                      show _ = _
                      rw [HJ.out, if_neg]
                      rw [joinOk_iff]
                      rintro ⟨-, -, h3, -⟩
                      exact hone (h3 k hlt2)
                    clear hone
                    go_wp2
                    go_ret2
                    exact ⟨grow_but HWB2 G5.out HG1.out, .inl ⟨13, HP.out, rfl⟩⟩
            · obtain rfl : k = A.many := by omega
              have HWB2 : w.heap.size ≤ ab + 1 := Nat.le_trans HWB.out (by omega)
              have HG1 : Hid (W5.grownBy wr (some (ab + 1))) := hG
              have HB1 : Hid _ := hbx
              have HSM1 : Hid _ := hsm hmp
              have HON : Hid _ := hon
              have hsvl : svl = (gatherAll (ps.map Prod.fst) A.many).length := by
                obtain ⟨_, _, e⟩ := hov.recs.slice
                simp only [Value.slice.injEq] at e
                exact e.2.1
              subst hsvl
              have HV1 : Hid (OwnsR W5.heap.size wr (.slice sva (gatherAll (ps.map Prod.fst) A.many).length svc) (gatherAll (ps.map Prod.fst) A.many)) := hov
              have hgl4 : (gatherAll (ps.map Prod.fst) A.many).length ≤ 10000 := by omega
              obtain ⟨b0', b1', b2', b3', b4', -⟩ := box5 hbx
              clear hG hov hbx hsm hon hax hok5 hor5
              cases hro : recsOk A.b A.z (-1) (gatherAll (ps.map Prod.fst) A.many) with
              | false =>
                have HP : Hid (joinR ts = .inl 13) := by
                  show _ = _
                  rw [HJ.out, if_neg]
                  rw [joinOk_iff]
                  rintro ⟨-, -, -, h4, -⟩
                  rw [hro] at h4
                  cases h4
                have HSE : Hid (∀ u : Unit, _) := fun _ => ser_bad A.f A.t A.b A.z (.slice sva (gatherAll (ps.map Prod.fst) A.many).length svc) (gatherAll (ps.map Prod.fst) A.many) wr HV1.out.recs (by omega) (by rw [hro, Bool.and_false])
                clear hro
                go_wp2_with fail
                refine (HSE.out ()).mono ?_
                rintro e w8 ⟨rfl, hb8⟩
                go_wp2
                go_ret2
                exact ⟨grow_but HWB2 G5.out (gtrans HG1.out (gbelow hb8)), .inl ⟨13, HP.out, rfl⟩⟩
              | true =>
                have HSE : Hid (∀ u : Unit, _) := fun _ => ser_good A.f A.t A.b A.z (.slice sva (gatherAll (ps.map Prod.fst) A.many).length svc) (gatherAll (ps.map Prod.fst) A.many) wr HV1.out.recs HAI.out.head hro
                go_wp2_with fail
                refine (HSE.out ()).mono ?_
                rintro e w8 ⟨rfl, hb8⟩
                have G8 : Hid (W5.grownBy w8 (some (ab + 1))) := gtrans HG1.out (gbelow hb8)
                have hb8' := (hb8.block (ab + 1) hbl).trans HB1.out
                have ha8 := (HX.out _ G8.out).1
                obtain ⟨a0'', a1'', a2'', a3'', a4'', a5'', a6'', a7''⟩ := box8 ha8
                obtain ⟨b0'', b1'', b2'', b3'', b4'', -⟩ := box5 hb8'
                clear hb8 hb8' ha8
                by_cases hal2 : (gatherAll (ps.map Prod.fst) A.many).length = A.all
                · have HP : Hid (joinR ts = .inr (A.f, A.t, A.b, A.z, gatherAll (ps.map Prod.fst) A.many)) := by
                    show _ = _
                    rw [HJ.out, if_pos]
                    rw [joinOk_iff, List.length_map]
                    exact ⟨HMY.out, HSM1.out, HON.out, hro, hal2⟩
                  have d8 : (((gatherAll (ps.map Prod.fst) A.many).length : Int) != (A.all : Int)) = false := by simp; omega
                  clear hro hal2
                  go_wp2
                  go_ret2
                  exact ⟨grow_but HWB2 G5.out G8.out, .inr ⟨_, _, _, _, _, HP.out, rfl⟩⟩
                · have HP : Hid (joinR ts = .inl 13) := by
                    show _ = _
                    rw [HJ.out, if_neg]
                    rw [joinOk_iff]
                    rintro ⟨-, -, -, -, h5⟩
                    exact hal2 h5
                  have d8 : (((gatherAll (ps.map Prod.fst) A.many).length : Int) != (A.all : Int)) = true := by simp; omega
                  clear hro hal2
                  go_wp2
                  go_ret2
                  exact ⟨grow_but HWB2 G5.out G8.out, .inl ⟨13, HP.out, rfl⟩⟩
        · have d2 : ((ps.length : Int) != (A.many : Int)) = true := by simp; omega
          have HP : Hid (joinR ts = .inl 13) := by
            show _ = _
            rw [HJ.out, if_neg]
            rw [joinOk_iff, List.length_map]
            exact fun h => hmy h.1
          go_wp2
          go_ret2
          exact ⟨gallocR (gallocR HG.out _) _, .inl ⟨13, HP.out, rfl⟩⟩
end Go.Proofs.Ytdjmhagclcfnfaa
