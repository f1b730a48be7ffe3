/- The reference's Parse. -/
import Derived.Test.YtdjmhagclcfnfaaREnds
namespace Go.Proofs.Ytdjmhagclcfnfaa
open Go.RowKit Go.Shelf

theorem openR_err (l : List UInt8) (k : Int) (h : openR l = .inl k) : 2 ≤ k ∧ k ≤ 8 := by
  unfold openR at h
  repeat' split at h
  all_goals simp only [Sum.inl.injEq, reduceCtorEq] at h
  all_goals omega
theorem endR_err (l : List UInt8) (p : Nat) (k : Int) (h : endR l p = some k) : 2 ≤ k ∧ k ≤ 8 := by
  unfold endR at h
  repeat' split at h
  all_goals simp only [Option.some.injEq, reduceCtorEq] at h
  all_goals omega

/-- Where a rest lies. -/
theorem rest_at (l : List UInt8) (p0 b z n : Nat) (rs : List Rc) (q : List UInt8) (hz : z ≤ 64) (h0 : p0 ≤ l.length) (h : walkR b z n (-1) (l.drop p0) = (rs, .inr q)) : l.drop (l.length - q.length) = q ∧ l.length - q.length ≤ p0 + 67 * n ∧ q.length ≤ l.length := by
  obtain ⟨e1, e2⟩ := walk_bytes b z n (-1) _ h
  have e3 := walk_length b z n (-1) _ h
  have hlen := congrArg List.length e1
  rw [List.length_append, List.length_drop] at hlen
  have hp : l.length - q.length = p0 + (recsB rs).length := by omega
  have hb := recsB_length b z (by omega) rs (-1) e2
  rw [e3] at hb
  refine ⟨?_, by omega, by omega⟩
  rw [hp, ← List.drop_drop, e1, List.drop_left' rfl]

theorem box5 {W : World} {k : Nat} {t : TypeId} {v0 v1 v2 v3 v4 : Value} (h : W.heap[k]? = some (.cells #[v0, v1, v2, v3, v4] t (0, 0))) :
    W.cell? ⟨k, 0, none⟩ = some v0 ∧ W.cell? ⟨k, 1, none⟩ = some v1 ∧ W.cell? ⟨k, 2, none⟩ = some v2 ∧ W.cell? ⟨k, 3, none⟩ = some v3 ∧ W.cell? ⟨k, 4, none⟩ = some v4 ∧
    W.frozen? ⟨k, 0, none⟩ = false ∧ W.frozen? ⟨k, 1, none⟩ = false ∧ W.frozen? ⟨k, 2, none⟩ = false ∧ W.frozen? ⟨k, 3, none⟩ = false ∧ W.frozen? ⟨k, 4, none⟩ = false :=
  ⟨boxed_cell (i := 0) h rfl, boxed_cell (i := 1) h rfl, boxed_cell (i := 2) h rfl, boxed_cell (i := 3) h rfl, boxed_cell (i := 4) h rfl, boxed_frozen h, boxed_frozen h, boxed_frozen h, boxed_frozen h, boxed_frozen h⟩
theorem box_kept {W W' : World} {k : Nat} {o : Obj} (h : W.heap[k]? = some o) (hg : W.grownBy W' none) : W'.heap[k]? = some o ∧ k < W'.heap.size :=
  ⟨(hg.block k (Array.getElem?_eq_some_iff.1 h).1 (by simp)).trans h, Nat.lt_of_lt_of_le (Array.getElem?_eq_some_iff.1 h).1 hg.size⟩

theorem keep5g {W0 W w' : World} {k : Nat} {v0 v1 v2 v3 v4 : Value}
    (hS : W.cell? ⟨k, 0, none⟩ = some v0 ∧ W.cell? ⟨k, 1, none⟩ = some v1 ∧ W.cell? ⟨k, 2, none⟩ = some v2 ∧ W.cell? ⟨k, 3, none⟩ = some v3 ∧ W.cell? ⟨k, 4, none⟩ = some v4 ∧ W0.grownBy W none) (hk : k < W0.heap.size) (hg : W.grownBy w' none) :
    w'.cell? ⟨k, 0, none⟩ = some v0 ∧ w'.cell? ⟨k, 1, none⟩ = some v1 ∧ w'.cell? ⟨k, 2, none⟩ = some v2 ∧ w'.cell? ⟨k, 3, none⟩ = some v3 ∧ w'.cell? ⟨k, 4, none⟩ = some v4 ∧ W0.grownBy w' none := by
  obtain ⟨h0, h1, h2, h3, h4, h5⟩ := hS
  have hb := hg.block k (Nat.lt_of_lt_of_le hk h5.size) (by simp)
  exact ⟨(World.cell?_of_block hb).trans h0, (World.cell?_of_block hb).trans h1, (World.cell?_of_block hb).trans h2, (World.cell?_of_block hb).trans h3, (World.cell?_of_block hb).trans h4, gtrans h5 hg⟩
/-- .. in one shape. -/
theorem recs_shape {b z n : Nat} {q : List UInt8} {w w' : World} {e : Ending} (h : RecsSaid false b z n q w e w') :
    ∃ a ln cp s k, e = .returned (.tuple #[.slice a ln cp, .string s, .int .i64 k]) ∧ w.grownBy w' none ∧
      ((∃ rs, walkR b z n (-1) q = (rs, .inl k) ∧ 2 ≤ k) ∨ (∃ rs q', walkR b z n (-1) q = (rs, .inr q') ∧ s = ⟨q'.toArray⟩ ∧ k = 0 ∧ OwnsR w.heap.size w' (.slice a ln cp) rs)) := by
  obtain ⟨hg, (⟨rs, k, hw, rfl⟩ | ⟨rs, q', v, hw, rfl, ho⟩)⟩ := h
  · rw [walkS_R] at hw
    exact ⟨none, 0, 0, _, k, rfl, hg, .inl ⟨rs, hw, (walk_err b z n (-1) q hw).1⟩⟩
  · rw [walkS_R] at hw
    obtain ⟨a, ln, cp, rfl⟩ := ho.slice
    exact ⟨a, ln, cp, _, 0, rfl, hg, .inr ⟨rs, q', hw, rfl, rfl, ho⟩⟩

set_option maxRecDepth 100000 in
set_option maxHeartbeats 2000000 in
theorem rparse (l : List UInt8) (w : World) (hl : l.length ≤ 4611686018427387904) :
    Calls Try.prog 13 #[.string ⟨l.toArray⟩] w (Told l w) := by
  have HO : Hid (∀ W, _) := fun W => ropens l [83, 84, 82, 68] 18 0 W (by omega) hl
  rw [openG_R] at HO
  have t18 := tail_eq l 18
  go_enter Try.func13, Try.ntmps13
  go_wp2_with fail
  refine (HO.out _).mono ?_
  rintro e w1 ⟨hg1, hcase⟩
  obtain ⟨hb1, hlt1⟩ := box_kept (World.alloc_heap_new w (.cells #[.int .i64 0, .int .i64 0, .int .i64 0, .int .i64 0, .slice none 0 0] 24)) hg1
  have B1 : Hid _ := hb1
  have G1 : Hid (w.grownBy w1 none) := gtrans (galloc _ _ _) hg1
  obtain ⟨c0, c1, c2, c3, c4, f0, f1, f2, f3, f4⟩ := box5 hb1
  clear hg1 hb1
  rcases hcase with ⟨k, hk, rfl⟩ | ⟨f, t, b, z, m, hk, rfl, h18, hw, hm⟩
  · have hke := openR_err l k hk
    have e1 : (k != 0) = true := by simp; omega
    have HP : Hid (parseR l = .inl k) := by
      show _ = _
      unfold parseR
      rw [hk]
    clear hk hke
    go_wp2
    refine bodyPost_ret (v := .tuple #[.agg #[.int .i64 0, .int .i64 0, .int .i64 0, .int .i64 0, .slice none 0 0], .int .i64 k]) (by simp [results, Try.results13, go_sem, c0, c1, c2, c3, c4, hlt1]) rfl ?_
    exact ⟨gallocR (gfresh (gfresh (gfresh (gfresh (gfresh G1.out (by omega)) (by omega)) (by omega)) (by omega)) (by omega)) _, .inl ⟨k, HP.out, rfl⟩⟩
  have HK : Hid _ := hk
  replace hm : m ≤ b := by simpa using hm
  obtain ⟨h1, h2, h3, h4, h5, h6, h7, h8, h9⟩ : (0 : Int) ≤ f ∧ (f : Int) ≤ 2147483647 ∧ (1 : Int) ≤ t ∧ (t : Int) ≤ 2147483647 ∧ (f : Int) ≠ t ∧ (1 : Int) ≤ b ∧ (b : Int) ≤ 100 ∧ (1 : Int) ≤ z ∧ (z : Int) ≤ 64 := of_decide_eq_true hw
  have HR : Hid (∀ W, _) := fun W => rrecords (l.drop 18) b z m f t false W (by omega) (by omega) (by simp; omega)
  clear hk hw h1 h2 h3 h4 h5 h6 h8
  go_wp2_with fail
  obtain ⟨W2, hW2⟩ : ∃ W2, W2 = w1.alloc (.cells #[.int .i64 f, .int .i64 t, .int .i64 b, .int .i64 z, .slice none 0 0] 24) := ⟨_, rfl⟩
  have hx2 : W2.heap[w1.heap.size]? = some (.cells #[.int .i64 f, .int .i64 t, .int .i64 b, .int .i64 z, .slice none 0 0] 24 (0, 0)) := by rw [hW2]; exact World.alloc_heap_new _ _
  have hg2 : w1.grownBy W2 none := by rw [hW2]; exact galloc _ _ _
  have hs2 : W2.heap.size = w1.heap.size + 1 := by rw [hW2]; simp
  rw [← hW2]
  clear hW2 c0 c1 c2 c3 c4 f0 f1 f2 f3 f4
  obtain ⟨x0, x1, x2, x3, x4, -, -, -, -, -⟩ := box5 hx2
  have X2 : Hid _ := hx2
  have h18' : (18 : Int) ≤ (l.length : Int) := by omega
  have G2 : Hid _ := hg2
  clear hx2 hg2
  go_region_held3 (fun w' => w'.cell? ⟨w1.heap.size, 0, none⟩ = some (.int .i64 f) ∧ w'.cell? ⟨w1.heap.size, 1, none⟩ = some (.int .i64 t) ∧ w'.cell? ⟨w1.heap.size, 2, none⟩ = some (.int .i64 b) ∧ w'.cell? ⟨w1.heap.size, 3, none⟩ = some (.int .i64 z) ∧ w'.cell? ⟨w1.heap.size, 4, none⟩ = some (.slice none 0 0) ∧ W2.grownBy w' none)
    (first | exact ⟨x0, x1, x2, x3, x4, drew_grown _ _ _⟩ | exact keep5g (by assumption) (by omega) G3.out)
    (first | (go_at_call 46; refine (HR.out _).mono ?_; rintro e w3 h3; obtain ⟨a, ln, cp, sr, ke, rfl, hg3, hcase⟩ := recs_shape h3; have G3 : Hid _ := hg3; clear h3 hg3))
  rename_i hS3
  have hg3 := hS3.2.2.2.2.2
  obtain ⟨hb3, hlt3⟩ := box_kept (box_kept B1.out G2.out).1 hg3
  obtain ⟨hx3, hltx3⟩ := box_kept X2.out hg3
  have GW3 : Hid (w.grownBy w3 none) := gtrans (gtrans G1.out G2.out) hg3
  have B3 : Hid _ := hb3
  have X3 : Hid _ := hx3
  clear hS3 x0 x1 x2 x3 x4
  rcases hcase with ⟨rs, hwk, hke⟩ | ⟨rs, q', hwk, rfl, rfl, hown⟩
  · have e1 : (ke != 0) = true := by simp; omega
    have HP : Hid (parseR l = .inl ke) := by
      show _ = _
      unfold parseR
      rw [HK.out]
      simp only []
      rw [hwk]
    obtain ⟨c0, c1, c2, c3, c4, f0, f1, f2, f3, f4⟩ := box5 hb3
    clear hwk hke hb3 hx3 hg3
    go_wp2
    refine bodyPost_ret (v := .tuple #[.agg #[.int .i64 0, .int .i64 0, .int .i64 0, .int .i64 0, .slice none 0 0], .int .i64 ke]) (by simp [results, Try.results13, go_sem, c0, c1, c2, c3, c4]) rfl ?_
    exact ⟨gfresh (gfresh (gfresh (gfresh (gfresh GW3.out (by omega)) (by omega)) (by omega)) (by omega)) (by omega), .inl ⟨ke, HP.out, rfl⟩⟩
  · obtain ⟨hrest, hpos, hql⟩ := rest_at l 18 b z m rs q' (by omega) h18 hwk
    have HE : Hid (∀ W, _) := fun W => rends l (l.length - q'.length) W (by omega) hl (by omega)
    rw [hrest] at HE
    have HWK : Hid _ := hwk
    have HOW : Hid (OwnsR (w1.heap.size + 1) w3 (.slice a ln cp) rs) := hown.base (by show _ ≤ W2.heap.size; omega)
    obtain ⟨c0, c1, c2, c3, c4, f0, f1, f2, f3, f4⟩ := box5 hx3
    clear hwk hown hrest hpos hql hb3 hg3 hx3
    go_wp2_with fail
    refine (HE.out _).mono ?_
    rintro e w4 ⟨rfl, hg4⟩
    obtain ⟨hb4, hlt4⟩ := box_kept B3.out hg4
    obtain ⟨hx4, hltx4⟩ := box_kept X3.out hg4
    have GW4 : Hid (w.grownBy w4 none) := gtrans GW3.out hg4
    have HO4 : Hid _ := HOW.out.kept hg4
    have hne : w.heap.size < w1.heap.size := hlt1
    clear c0 c1 c2 c3 c4 f0 f1 f2 f3 f4
    obtain ⟨c0, c1, c2, c3, c4, f0, f1, f2, f3, f4⟩ := box5 hb4
    obtain ⟨d0, d1, d2, d3, d4, -, -, -, -, g4⟩ := box5 hx4
    clear hg4 hb4 hx4
    cases he : endR l (l.length - q'.length) with
    | some k =>
      have hke := endR_err l _ k he
      have e1 : (k != 0) = true := by simp; omega
      have HP : Hid (parseR l = .inl k) := by
        show _ = _
        unfold parseR
        rw [HK.out]
        simp only []
        rw [HWK.out]
        simp only []
        rw [he]
      simp only [Option.getD_some]
      clear he hke
      go_wp2
      refine bodyPost_ret (v := .tuple #[.agg #[.int .i64 0, .int .i64 0, .int .i64 0, .int .i64 0, .slice none 0 0], .int .i64 k]) (by simp [results, Try.results13, go_sem, c0, c1, c2, c3, c4]) rfl ?_
      exact ⟨gfresh (gfresh (gfresh (gfresh (gfresh GW4.out (by omega)) (by omega)) (by omega)) (by omega)) (by omega), .inl ⟨k, HP.out, rfl⟩⟩
    | none =>
      have HP : Hid (parseR l = .inr (f, t, b, z, rs)) := by
        show _ = _
        unfold parseR
        rw [HK.out]
        simp only []
        rw [HWK.out]
        simp only []
        rw [he]
      simp only [Option.getD_none]
      clear he
      go_wp2
      refine bodyPost_ret (v := .tuple #[.agg #[.int .i64 f, .int .i64 t, .int .i64 b, .int .i64 z, .slice a ln cp], .int .i64 0]) (by simp [results, Try.results13, go_sem, c0, c1, c2, c3, c4]) rfl ?_
      refine ⟨gfresh (gfresh (gfresh (gfresh (gfresh (gfresh GW4.out (by omega)) (by omega)) (by omega)) (by omega)) (by omega)) (by omega), .inr ⟨f, t, b, z, rs, _, HP.out, rfl, ?_⟩⟩
      exact OwnsR.base (OwnsR.set (OwnsR.set (OwnsR.set (OwnsR.set (OwnsR.set (OwnsR.set HO4.out (by omega)) (by omega)) (by omega)) (by omega)) (by omega)) (by omega)) (by omega)
end Go.Proofs.Ytdjmhagclcfnfaa
