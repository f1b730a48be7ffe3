/- PChunkR, PChunkR2, PRow8, PAll, PFace3, PAll2, PSort -/
import Derived.Test.YtdjmhagclcfnfabGreatPFace
import Derived.Test.YtdjmhagclcfnfabGreatRWriteToRJoinM
import Derived.Test.YtdjmhagclcfnfabGreatPParse
import Derived.Test.YtdjmhagclcfnfabGreatPChunkWToPSplit
import Derived.Shelf.SlSortCmp.WholeK
import Derived.Shelf.SlicesG.Cmp
import Derived.Shelf.Small.Bits
/- The program's chunkHead. -/
namespace Go.Proofs.YtdjmhagclcfnfabGreat
open Go.RowKit Go.Shelf

/-- What a chunk's first bytes tell: the error, or its numbers. -/
def chunkO (l : List UInt8) : Int ⊕ (Nat × Nat × Nat × Nat × Nat) :=
  match openG [83, 84, 82, 67] 24 0 l with
  | .inl k => .inl k
  | .inr (f, t, b, z, all) => if num ((l.drop 20).take 2) ≤ num ((l.drop 18).take 2) ∨ all < num ((l.drop 22).take 2) then .inl 4 else .inr (f, t, b, z, all)

set_option maxRecDepth 100000 in
set_option maxHeartbeats 4000000 in
theorem chunkHead_any (R : Nat) (l : List UInt8) (w : World) (hr : Rd w R l 0) (hl : l.length ≤ 4611686018427387904) :
    Calls Tryz.prog 34 #[.pointer (some ⟨R, 0, none⟩)] w fun e w' => w.grownBy w' (some R) ∧
      ((∃ k, chunkO l = .inl k ∧ e = .panicked (gave k)) ∨
       (∃ f t b z all : Nat, chunkO l = .inr (f, t, b, z, all) ∧ 24 ≤ l.length ∧ headOk f t b z all = true ∧ num ((l.drop 22).take 2) ≤ all ∧ e = .returned (.tuple #[.agg #[.int .i64 f, .int .i64 t, .int .i64 b, .int .i64 z, .int .i64 all, .int .i64 (num ((l.drop 18).take 2) : Nat), .int .i64 (num ((l.drop 20).take 2) : Nat), .slice none 0 0], .int .i64 (num ((l.drop 22).take 2) : Nat)]) ∧ Rd w' R l 24)) := by
  have hlt := hr.lt
  have HB : Hid (∀ o : Obj, _) := fun o => pbegin R l [83, 84, 82, 67] rfl 24 (w.alloc o) (Rd.alloc hr o) hl (by omega)
  clear hr
  go_enter Tryz.func34, Tryz.ntmps34
  go_wp2_with fail
  refine (HB.out _).mono ?_
  rintro e w1 ⟨hg1, (⟨h1, rfl⟩ | ⟨h1, h2, rfl⟩ | ⟨h1, h2, f, t, b, z, all, hh, rfl, hr1⟩)⟩
  · exact ⟨rfl, gtrans (galloc _ _ _) hg1, .inl ⟨2, by unfold chunkO openG; rw [if_pos h1], rfl⟩⟩
  · exact ⟨rfl, gtrans (galloc _ _ _) hg1, .inl ⟨3, by unfold chunkO openG; rw [if_neg (by omega), if_pos h2], rfl⟩⟩
  have HO2 : Hid (chunkO l = if headOk f t b z all = true then (if num ((l.drop 20).take 2) ≤ num ((l.drop 18).take 2) ∨ all < num ((l.drop 22).take 2) then .inl 4 else .inr (f, t, b, z, all)) else .inl 4) := by
    show _ = _
    unfold chunkO openG
    rw [if_neg (by omega), if_neg (by simpa using h2), hh]
    simp only [if_true]
    unfold headOk
    cases hk : (wellHead f t b z && decide (all ≤ b)) with
    | true =>
      have : (wellHead (f : Int) t b z && decide ((all : Int) ≤ b)) = true := by simpa using hk
      rw [this]
      rfl
    | false =>
      have : (wellHead (f : Int) t b z && decide ((all : Int) ≤ b)) = false := by
        rw [← hk]
        simp
      rw [this]
      rfl
  obtain ⟨hb1, hlb1⟩ := resBox hlt hg1 (⟨rfl, rfl, rfl, Nat.le_refl _, fun _ _ _ => rfl⟩ : w1.grownBy w1 (some R))
  have c0 := boxed_cell (i := 0) hb1 rfl
  have f0 := boxed_frozen (i := 0) hb1
  have c1 := boxed_cell (i := 1) hb1 rfl
  have f1 := boxed_frozen (i := 1) hb1
  have c2 := boxed_cell (i := 2) hb1 rfl
  have f2 := boxed_frozen (i := 2) hb1
  have c3 := boxed_cell (i := 3) hb1 rfl
  have f3 := boxed_frozen (i := 3) hb1
  have c4 := boxed_cell (i := 4) hb1 rfl
  have f4 := boxed_frozen (i := 4) hb1
  have G1 : Hid (w.grownBy w1 (some R)) := gtrans (galloc _ _ _) hg1
  have R1 : Hid (Rd w1 R l 18) := hr1
  have B1 : Hid _ := hb1
  have n1 := num2_lt l 18
  have n2 := num2_lt l 20
  have n3 := num2_lt l 22
  have H1 : Hid (∀ W, Rd W R l 18 → _) := fun W h => number_ok R l 18 2 W h hl (by omega) (by omega)
  have H2 : Hid (∀ W, Rd W R l 20 → _) := fun W h => number_ok R l 20 2 W h hl (by omega) (by omega)
  have H3 : Hid (∀ W, Rd W R l 22 → _) := fun W h => number_ok R l 22 2 W h hl (by omega) (by omega)
  clear hg1 hr1 hb1 HB hh h2
  obtain ⟨nu, hnu⟩ : ∃ x, x = num ((l.drop 18).take 2) := ⟨_, rfl⟩
  obtain ⟨many, hmany⟩ : ∃ x, x = num ((l.drop 20).take 2) := ⟨_, rfl⟩
  obtain ⟨here, hhere⟩ : ∃ x, x = num ((l.drop 22).take 2) := ⟨_, rfl⟩
  rw [← hnu] at H1 n1 HO2
  rw [← hmany] at H2 n2 HO2
  rw [← hhere] at H3 n3 HO2
  have HNU : Hid _ := hnu
  have HMA : Hid _ := hmany
  have HHE : Hid _ := hhere
  clear hnu hmany hhere
  go_wp2_with fail
  obtain ⟨X1, hX1⟩ : ∃ X1, X1 = ((((w1.setCell ⟨w.heap.size, 0, none⟩ (.int .i64 f)).setCell ⟨w.heap.size, 1, none⟩ (.int .i64 t)).setCell ⟨w.heap.size, 2, none⟩ (.int .i64 b)).setCell ⟨w.heap.size, 3, none⟩ (.int .i64 z)).setCell ⟨w.heap.size, 4, none⟩ (.int .i64 all) := ⟨_, rfl⟩
  have x1 : Hid (X1.heap[w.heap.size]? = some (.cells #[.int .i64 f, .int .i64 t, .int .i64 b, .int .i64 z, .int .i64 all, .int .i64 0, .int .i64 0, .slice none 0 0] 59 (0, 0))) := by
    rw [hX1]
    exact block_set (i := 4) (block_set (i := 3) (block_set (i := 2) (block_set (i := 1) (block_set (i := 0) B1.out _) _) _) _) _
  have xr : Rd X1 R l 18 := by rw [hX1]; exact Rd.set (Rd.set (Rd.set (Rd.set (Rd.set R1.out (by omega)) (by omega)) (by omega)) (by omega)) (by omega)
  have xg : w.grownBy X1 (some R) := by rw [hX1]; exact gfresh (gfresh (gfresh (gfresh (gfresh G1.out (Nat.le_refl _)) (Nat.le_refl _)) (Nat.le_refl _)) (Nat.le_refl _)) (Nat.le_refl _)
  rw [← hX1]
  have XG : Hid _ := xg
  clear c0 c1 c2 c3 c4 f0 f1 f2 f3 f4 hX1 B1 R1 G1 xg
  refine (H1.out _ xr).mono ?_
  rintro e w2 ⟨rfl, hr2, hg2⟩
  have R2 : Hid (Rd w2 R l 20) := hr2
  have G2 : Hid (w.grownBy w2 (some R)) := gtrans XG.out hg2
  have B2 : Hid _ := box5_grown x1.out hg2 (by simp; omega)
  have c5 := boxed_cell (i := 5) B2.out rfl
  have f5 := boxed_frozen (i := 5) B2.out
  clear hr2 hg2 xr
  go_wp2_with fail
  obtain ⟨X2, hX2⟩ : ∃ X2, X2 = w2.setCell ⟨w.heap.size, 5, none⟩ (.int .i64 nu) := ⟨_, rfl⟩
  have x2 : Hid (X2.heap[w.heap.size]? = some (.cells #[.int .i64 f, .int .i64 t, .int .i64 b, .int .i64 z, .int .i64 all, .int .i64 nu, .int .i64 0, .slice none 0 0] 59 (0, 0))) := by
    rw [hX2]
    exact block_set (i := 5) B2.out _
  have xr : Rd X2 R l 20 := by rw [hX2]; exact Rd.set R2.out (by omega)
  have xg : w.grownBy X2 (some R) := by rw [hX2]; exact gfresh G2.out (Nat.le_refl _)
  rw [← hX2]
  have XG2 : Hid _ := xg
  clear c5 f5 hX2 B2 R2 G2 xg
  refine (H2.out _ xr).mono ?_
  rintro e w3 ⟨rfl, hr3, hg3⟩
  have R3 : Hid (Rd w3 R l 22) := hr3
  have G3 : Hid (w.grownBy w3 (some R)) := gtrans XG2.out hg3
  have B3 : Hid _ := box5_grown x2.out hg3 (by simp; omega)
  have c6 := boxed_cell (i := 6) B3.out rfl
  have f6 := boxed_frozen (i := 6) B3.out
  clear hr3 hg3 xr
  go_wp2_with fail
  obtain ⟨X3, hX3⟩ : ∃ X3, X3 = w3.setCell ⟨w.heap.size, 6, none⟩ (.int .i64 many) := ⟨_, rfl⟩
  have x3 : Hid (X3.heap[w.heap.size]? = some (.cells #[.int .i64 f, .int .i64 t, .int .i64 b, .int .i64 z, .int .i64 all, .int .i64 nu, .int .i64 many, .slice none 0 0] 59 (0, 0))) := by
    rw [hX3]
    exact block_set (i := 6) B3.out _
  have xr : Rd X3 R l 22 := by rw [hX3]; exact Rd.set R3.out (by omega)
  have xg : w.grownBy X3 (some R) := by rw [hX3]; exact gfresh G3.out (Nat.le_refl _)
  rw [← hX3]
  have XG3 : Hid _ := xg
  clear c6 f6 hX3 B3 R3 G3 xg
  refine (H3.out _ xr).mono ?_
  rintro e w4 ⟨rfl, hr4, hg4⟩
  have R4 : Hid (Rd w4 R l 24) := hr4
  have G4 : Hid (w.grownBy w4 (some R)) := gtrans XG3.out hg4
  have B4 : Hid (w4.heap[w.heap.size]? = some (.cells #[.int .i64 f, .int .i64 t, .int .i64 b, .int .i64 z, .int .i64 all, .int .i64 nu, .int .i64 many, .slice none 0 0] 59 (0, 0))) := box5_grown x3.out hg4 (by simp; omega)
  have c0 := boxed_cell (i := 0) B4.out rfl
  have c1 := boxed_cell (i := 1) B4.out rfl
  have c2 := boxed_cell (i := 2) B4.out rfl
  have c3 := boxed_cell (i := 3) B4.out rfl
  have c4 := boxed_cell (i := 4) B4.out rfl
  clear hr4 hg4 xr
  go_wp2_with fail
  refine (hwell_any f t b z all _).mono ?_
  rintro e w5 ⟨rfl, hb5⟩
  have G5 : Hid (w.grownBy w5 (some R)) := gtrans G4.out (gbelow hb5)
  have R5 : Hid (Rd w5 R l 24) := R4.out.of (hb5.block R R4.out.lt) (hb5.block (R - 1) (by have := R4.out.lt; omega))
  have b5 := (hb5.block _ (Array.getElem?_eq_some_iff.1 B4.out).1).trans B4.out
  clear c0 c1 c2 c3 c4 hb5
  have c0 := boxed_cell (i := 0) (v := .int .i64 f) b5 rfl
  have c1 := boxed_cell (i := 1) (v := .int .i64 t) b5 rfl
  have c2 := boxed_cell (i := 2) (v := .int .i64 b) b5 rfl
  have c3 := boxed_cell (i := 3) (v := .int .i64 z) b5 rfl
  have c4 := boxed_cell (i := 4) (v := .int .i64 all) b5 rfl
  have c5 := boxed_cell (i := 5) (v := .int .i64 nu) b5 rfl
  have c6 := boxed_cell (i := 6) (v := .int .i64 many) b5 rfl
  have c7 := boxed_cell (i := 7) (v := .slice none 0 0) b5 rfl
  have y0 := boxed_frozen (i := 0) b5
  have y1 := boxed_frozen (i := 1) b5
  have y2 := boxed_frozen (i := 2) b5
  have y3 := boxed_frozen (i := 3) b5
  have y4 := boxed_frozen (i := 4) b5
  have y5 := boxed_frozen (i := 5) b5
  have y6 := boxed_frozen (i := 6) b5
  have y7 := boxed_frozen (i := 7) b5
  have B5 : Hid _ := b5
  clear b5
  cases hok : headOk f t b z all with
  | false =>
    have HX : Hid (chunkO l = .inl 4) := by show _ = _; rw [HO2.out, hok]; rfl
    clear hok
    go_wp2
    exact ⟨rfl, G5.out, .inl ⟨4, HX.out, rfl⟩⟩
  | true =>
    have HK : Hid (headOk f t b z all = true) := hok
    by_cases hm : many ≤ nu
    · have e1 : decide ((many : Int) ≤ nu) = true := by simp; omega
      have HX : Hid (chunkO l = .inl 4) := by show _ = _; rw [HO2.out, hok, if_pos rfl, if_pos (.inl hm)]
      clear hok
      go_wp2
      exact ⟨rfl, G5.out, .inl ⟨4, HX.out, rfl⟩⟩
    · have e1 : decide ((many : Int) ≤ nu) = false := by simp; omega
      by_cases hq : all < here
      · have e2 : decide ((all : Int) < here) = true := by simp; omega
        have HX : Hid (chunkO l = .inl 4) := by show _ = _; rw [HO2.out, hok, if_pos rfl, if_pos (.inr hq)]
        clear hok
        go_wp2
        exact ⟨rfl, G5.out, .inl ⟨4, HX.out, rfl⟩⟩
      · have e2 : decide ((all : Int) < here) = false := by simp; omega
        have HX : Hid (chunkO l = .inr (f, t, b, z, all)) := by show _ = _; rw [HO2.out, hok, if_pos rfl, if_neg (by omega)]
        clear hok
        go_wp2
        refine bodyPost_ret (v := .tuple #[.agg #[.int .i64 f, .int .i64 t, .int .i64 b, .int .i64 z, .int .i64 all, .int .i64 nu, .int .i64 many, .slice none 0 0], .int .i64 here]) (by simp [results, Tryz.results34, go_sem, c0, c1, c2, c3, c4, c5, c6, c7]) rfl ?_
        exact ⟨gfresh (gfresh (gfresh (gfresh (gfresh (gfresh (gfresh (gfresh (G5.out) (Nat.le_refl _)) (Nat.le_refl _)) (Nat.le_refl _)) (Nat.le_refl _)) (Nat.le_refl _)) (Nat.le_refl _)) (Nat.le_refl _)) (Nat.le_refl _), .inr ⟨f, t, b, z, all, HX.out, h1, HK.out, by rw [← HHE.out]; omega, by rw [← HHE.out, ← HMA.out, ← HNU.out], Rd.set (Rd.set (Rd.set (Rd.set (Rd.set (Rd.set (Rd.set (Rd.set (R5.out) (by omega)) (by omega)) (by omega)) (by omega)) (by omega)) (by omega)) (by omega)) (by omega)⟩⟩
end Go.Proofs.YtdjmhagclcfnfabGreat
/- The program's readChunk. -/
namespace Go.Proofs.YtdjmhagclcfnfabGreat
open Go.RowKit Go.Shelf

theorem chunkR_recs (l : List UInt8) : chunkR l = match chunkO l with
    | .inl k => .inl k
    | .inr (f, t, b, z, all) => match recsR b z (num ((l.drop 22).take 2)) 24 l with
      | .inl k => .inl k
      | .inr rs => .inr ⟨f, t, b, z, all, num ((l.drop 18).take 2), num ((l.drop 20).take 2), rs⟩ := by
  unfold chunkR chunkO recsR
  rcases openG [83, 84, 82, 67] 24 0 l with k | ⟨f, t, b, z, all⟩
  · rfl
  · simp only []
    by_cases h : num ((l.drop 20).take 2) ≤ num ((l.drop 18).take 2) ∨ all < num ((l.drop 22).take 2)
    · rw [if_pos h, if_pos h]
    · rw [if_neg h, if_neg h]
      simp only []
      rcases walkR b z (num ((l.drop 22).take 2)) (-1) (l.drop 24) with ⟨rs, (k | q)⟩
      · rfl
      · simp only []
        cases endR l (l.length - q.length) with
        | none => rfl
        | some k => rfl

set_option maxRecDepth 100000 in
set_option maxHeartbeats 4000000 in
theorem readChunk_any (l : List UInt8) (w : World) (hl : l.length ≤ 4611686018427387904) :
    Calls Tryz.prog 20 #[.string ⟨l.toArray⟩] w fun e w' => w.grownBy w' none ∧
      ((∃ k, chunkR l = .inl k ∧ e = .panicked (gave k)) ∨ (∃ c v, chunkR l = .inr c ∧ e = .returned (.agg #[.int .i64 c.f, .int .i64 c.t, .int .i64 c.b, .int .i64 c.z, .int .i64 c.all, .int .i64 c.nu, .int .i64 c.many, v]) ∧ OwnsR w.heap.size w' v c.rs)) := by
  go_enter Tryz.func20, Tryz.ntmps20
  go_wp2_with fail
  refine (overText_at l _ (w.heap.size + 2) (by simp)).mono ?_
  rintro e W1 ⟨rfl, hr1, hbl, hs1⟩
  have hb1 : W1.heap[w.heap.size]? = some (.cells #[.int .i64 0, .int .i64 0, .int .i64 0, .int .i64 0, .int .i64 0, .int .i64 0, .int .i64 0, .slice none 0 0] 59 (0, 0)) := (hbl.block _ (by simp)).trans (World.alloc_heap_new _ _)
  have hg1 : w.grownBy W1 none := gtrans (galloc _ _ _) (gbelow hbl)
  have HR1 : Hid (Rd W1 (w.heap.size + 2) l 0) := hr1
  clear hbl hr1
  go_wp2_with fail
  refine (chunkHead_any (w.heap.size + 2) l W1 HR1.out hl).mono ?_
  clear HR1
  rintro e W2 ⟨hg2, (⟨k, hk, rfl⟩ | ⟨f, t, b, z, all, ho, h24, hok, hhe, rfl, hr2⟩)⟩
  · refine ⟨rfl, grown_fresh hg1 hg2 (by omega), .inl ⟨k, ?_, rfl⟩⟩
    rw [chunkR_recs, hk]
  have HCR : Hid (chunkR l = match recsR b z (num ((l.drop 22).take 2)) 24 l with
      | .inl k => .inl k
      | .inr rs => .inr ⟨f, t, b, z, all, num ((l.drop 18).take 2), num ((l.drop 20).take 2), rs⟩) := by
    show _ = _
    rw [chunkR_recs, ho]
  have HB2 : Hid (W2.heap[w.heap.size]? = _) := (hg2.block w.heap.size (by omega) (by simp)).trans hb1
  have HG2 : Hid (w.grownBy W2 none) := grown_fresh hg1 hg2 (by omega)
  have HR2 : Hid (Rd W2 (w.heap.size + 2) l 24) := hr2
  have hs2 : w.heap.size + 3 ≤ W2.heap.size := by have := hg2.size; omega
  have hhd := hok
  simp only [headOk, wellHead, Bool.and_eq_true, decide_eq_true_eq] at hhd
  obtain ⟨nu, hnu⟩ : ∃ x, x = num ((l.drop 18).take 2) := ⟨_, rfl⟩
  obtain ⟨many, hmany⟩ : ∃ x, x = num ((l.drop 20).take 2) := ⟨_, rfl⟩
  obtain ⟨here, hhere⟩ : ∃ x, x = num ((l.drop 22).take 2) := ⟨_, rfl⟩
  rw [← hnu, ← hmany, ← hhere] at HCR
  rw [← hhere] at hhe
  rw [← hnu, ← hmany, ← hhere]
  have hm100 : here ≤ 100 := by omega
  have hz64 : z ≤ 64 := by omega
  clear ho hg2 hg1 hr2 hb1 hok hhd hnu hmany hhere
  go_wp2_with fail
  obtain ⟨W3, hW3⟩ : ∃ W3, W3 = W2.alloc (.cells #[.int .i64 f, .int .i64 t, .int .i64 b, .int .i64 z, .int .i64 all, .int .i64 nu, .int .i64 many, .slice none 0 0] 59) := ⟨_, rfl⟩
  have hg3 : W2.grownBy W3 none := by rw [hW3]; exact galloc _ _ _
  have hc3 : W3.heap[W2.heap.size]? = some (.cells #[.int .i64 f, .int .i64 t, .int .i64 b, .int .i64 z, .int .i64 all, .int .i64 nu, .int .i64 many, .slice none 0 0] 59 (0, 0)) := by rw [hW3]; exact World.alloc_heap_new _ _
  have hs3 : W3.heap.size = W2.heap.size + 1 := by rw [hW3]; simp
  rw [← hW3]
  clear hW3
  refine (records_told (w.heap.size + 2) f t b z all here 24 l W3 (Rd.kept HR2.out hg3) h24 (by decide) hl hz64 hm100).mono ?_
  rintro e W4 ⟨fv, rfl, hg4, hC⟩
  have HC : Hid (∀ u : Unit, _) := fun _ => hC
  have G4 : Hid (w.grownBy W4 none) := gtrans HG2.out (gtrans hg3 hg4)
  have C4 : Hid (W4.heap[W2.heap.size]? = some (.cells #[.int .i64 f, .int .i64 t, .int .i64 b, .int .i64 z, .int .i64 all, .int .i64 nu, .int .i64 many, .slice none 0 0] 59 (0, 0))) := box5_grown hc3 hg4 (by simp)
  have B4 : Hid (W4.heap[w.heap.size]? = _) := box5_grown (box5_grown HB2.out hg3 (by simp)) hg4 (by simp)
  have hs4 : W2.heap.size < W4.heap.size := by have := hg4.size; omega
  clear hC hg4 hg3 hc3
  go_wp2_with fail
  refine (HC.out ()).mono ?_
  rintro e W5 ⟨hg5, (⟨k, hk, rfl⟩ | ⟨rs, v, hk, rfl, hown⟩)⟩
  · exact ⟨rfl, grown_fresh G4.out hg5 (by omega), .inl ⟨k, by rw [HCR.out, hk], rfl⟩⟩
  have HP : Hid (chunkR l = .inr ⟨f, t, b, z, all, nu, many, rs⟩) := by
    show _ = _
    rw [HCR.out, hk]
  obtain ⟨a, ln, cp, rfl⟩ : ∃ a ln cp, v = .slice a ln cp := by
    rcases hown.2 with ⟨rfl, _⟩ | ⟨g, cap, cur, rfl, _⟩
    · exact ⟨_, _, _, rfl⟩
    · exact ⟨_, _, _, rfl⟩
  have c5 := box5_grown C4.out hg5 (by simp; omega)
  have b5 := box5_grown B4.out hg5 (by simp)
  have HOW : Hid (OwnsR W4.heap.size W5 (.slice a ln cp) rs) := hown
  have G5 : Hid (w.grownBy W5 none) := grown_fresh G4.out hg5 (by omega)
  have hl5 : w.heap.size < W5.heap.size := by have := hg5.size; omega
  have d0 := boxed_cell (i := 0) c5 rfl
  have d1 := boxed_cell (i := 1) c5 rfl
  have d2 := boxed_cell (i := 2) c5 rfl
  have d3 := boxed_cell (i := 3) c5 rfl
  have d4 := boxed_cell (i := 4) c5 rfl
  have d5 := boxed_cell (i := 5) c5 rfl
  have d6 := boxed_cell (i := 6) c5 rfl
  have d7 := boxed_cell (i := 7) c5 rfl
  have df := boxed_frozen (i := 7) c5
  have r0 := boxed_cell (i := 0) b5 rfl
  have z0 := boxed_frozen (i := 0) b5
  have r1 := boxed_cell (i := 1) b5 rfl
  have z1 := boxed_frozen (i := 1) b5
  have r2 := boxed_cell (i := 2) b5 rfl
  have z2 := boxed_frozen (i := 2) b5
  have r3 := boxed_cell (i := 3) b5 rfl
  have z3 := boxed_frozen (i := 3) b5
  have r4 := boxed_cell (i := 4) b5 rfl
  have z4 := boxed_frozen (i := 4) b5
  have r5 := boxed_cell (i := 5) b5 rfl
  have z5 := boxed_frozen (i := 5) b5
  have r6 := boxed_cell (i := 6) b5 rfl
  have z6 := boxed_frozen (i := 6) b5
  have r7 := boxed_cell (i := 7) b5 rfl
  have z7 := boxed_frozen (i := 7) b5
  clear hown hg5 c5 b5 hk
  go_wp2
  refine bodyPost_ret (v := .agg #[.int .i64 f, .int .i64 t, .int .i64 b, .int .i64 z, .int .i64 all, .int .i64 nu, .int .i64 many, .slice a ln cp]) (by simp [results, Tryz.results20, go_sem, r0, r1, r2, r3, r4, r5, r6, r7]) rfl ?_
  have hs5 : w.heap.size < W4.heap.size := by omega
  exact ⟨gfresh (gfresh (gfresh (gfresh (gfresh (gfresh (gfresh (gfresh (gfresh G5.out (by omega)) (Nat.le_refl _)) (Nat.le_refl _)) (Nat.le_refl _)) (Nat.le_refl _)) (Nat.le_refl _)) (Nat.le_refl _)) (Nat.le_refl _)) (Nat.le_refl _), .inr ⟨⟨f, t, b, z, all, nu, many, rs⟩, _, HP.out, rfl, OwnsR.base (OwnsR.set (OwnsR.set (OwnsR.set (OwnsR.set (OwnsR.set (OwnsR.set (OwnsR.set (OwnsR.set (OwnsR.set HOW.out hs4) hs5) hs5) hs5) hs5) hs5) hs5) hs5) hs5) (by omega)⟩⟩
end Go.Proofs.YtdjmhagclcfnfabGreat
/- Rows of chunks, eight cells each. -/
namespace Go.Proofs.YtdjmhagclcfnfabGreat
open Go.RowKit Go.Shelf

/-- A chunk's cells, as the program lays them. -/
def pcCells (p : Ck × Value) : List Value := [.int .i64 p.1.f, .int .i64 p.1.t, .int .i64 p.1.b, .int .i64 p.1.z, .int .i64 p.1.all, .int .i64 p.1.nu, .int .i64 p.1.many, p.2]
def OwnsP (B : Nat) (w : World) (v : Value) (ps : List (Ck × Value)) : Prop := w.ownsRow B 59 8 v ps.length (ps.flatMap pcCells)
def pcZero : Ck × Value := (⟨0, 0, 0, 0, 0, 0, 0, []⟩, .slice none 0 0)
theorem Tryz.infoChunk : (Tryz.prog.info? 59).map (fun i => (i.zero, i.size, i.bytes)) = some (some (.agg #[.int .i64 0, .int .i64 0, .int .i64 0, .int .i64 0, .int .i64 0, .int .i64 0, .int .i64 0, .slice none 0 0]), 8, 80) := by kernel_rfl

theorem pcCells_length (ps : List (Ck × Value)) : (ps.flatMap pcCells).length = ps.length * 8 := by
  induction ps with
  | nil => rfl
  | cons p ps ih => rw [List.flatMap_cons, List.length_append, ih, List.length_cons]; simp [pcCells]; omega
theorem pcCells_at : ∀ (ps : List (Ck × Value)) (k : Nat) (h : k < ps.length) (j : Nat) (_ : j < 8), (ps.flatMap pcCells)[k * 8 + j]? = (pcCells ps[k])[j]?
  | p :: ps, 0, _, j, hj => by
    rw [List.flatMap_cons, List.getElem?_append_left (by simp [pcCells]; omega)]
    simp
  | p :: ps, k + 1, h, j, hj => by
    rw [List.flatMap_cons, List.getElem?_append_right (by simp [pcCells]; omega)]
    rw [show (k + 1) * 8 + j - (pcCells p).length = k * 8 + j from by simp [pcCells]; omega]
    rw [pcCells_at ps k (by simpa using h) j hj]
    rfl
/-- One after the other, from o on. -/
def seqSet (l : List Value) (o : Nat) : List Value → List Value
  | [] => l
  | y :: ys => seqSet (l.set o y) (o + 1) ys
theorem seqSet_eq : ∀ (ys l : List Value) (o : Nat), o + ys.length ≤ l.length → seqSet l o ys = l.take o ++ ys ++ l.drop (o + ys.length)
  | [], l, o, _ => by simp [seqSet]
  | y :: ys, l, o, h => by
    rw [List.length_cons] at h
    rw [seqSet, seqSet_eq ys (l.set o y) (o + 1) (by rw [List.length_set]; omega), List.take_set, List.drop_set_of_lt (by omega), List.length_cons]
    rw [List.take_succ_eq_append_getElem (by omega), List.set_append_right _ _ (by rw [List.length_take]; omega), List.length_take, Nat.min_eq_left (by omega), Nat.sub_self, List.set_cons_zero, show o + 1 + ys.length = o + (ys.length + 1) from by omega]
    simp
theorem pcCells_set (ps : List (Ck × Value)) (k : Nat) (h : k < ps.length) (p : Ck × Value) : seqSet (ps.flatMap pcCells) (k * 8) (pcCells p) = (ps.set k p).flatMap pcCells := by
  have hl := pcCells_length ps
  rw [seqSet_eq _ _ _ (by rw [hl]; show k * 8 + 8 ≤ _; omega)]
  have e1 : (ps.flatMap pcCells).take (k * 8) = (ps.take k).flatMap pcCells := by
    conv => lhs; rw [← List.take_append_drop k ps, List.flatMap_append]
    rw [List.take_append_of_le_length (by rw [pcCells_length, List.length_take]; omega), List.take_of_length_le (by rw [pcCells_length, List.length_take]; omega)]
  have e2 : (ps.flatMap pcCells).drop (k * 8 + (pcCells p).length) = (ps.drop (k + 1)).flatMap pcCells := by
    conv => lhs; rw [← List.take_append_drop (k + 1) ps, List.flatMap_append]
    have : ((ps.take (k + 1)).flatMap pcCells).length = k * 8 + (pcCells p).length := by
      rw [pcCells_length, List.length_take]
      show min (k + 1) ps.length * 8 = k * 8 + 8
      omega
    rw [← this, List.drop_left]
  rw [e1, e2, List.set_eq_take_append_cons_drop, if_pos h, List.flatMap_append, List.flatMap_cons, List.append_assoc]

theorem OwnsP.at {B : Nat} {W : World} {g l cp : Nat} {ps : List (Ck × Value)} (h : OwnsP B W (.slice (some ⟨g, 0, none⟩) l cp) ps) {k : Nat} (hk : k < ps.length) :
    ∃ cur, W.heap[g]? = some (.cells cur 59 (0, 0)) ∧ ∀ j v, (pcCells ps[k])[j]? = some v → j < 8 → cur[k * 8 + j]? = some v := by
  rcases h.2 with ⟨e0, h0⟩ | ⟨g', cap, cur, e0, hb, hg, hc, hm, hs, ht⟩
  · cases e0
  · have e1 := e0
    simp only [Value.slice.injEq, Option.some.injEq, Addr.mk.injEq] at e1
    obtain ⟨⟨rfl, -, -⟩, -, -⟩ := e1
    refine ⟨cur, hg, fun j v hv hj => ?_⟩
    have h2 : (cur.toList.take (ps.length * 8))[k * 8 + j]? = some v := by
      rw [ht, pcCells_at ps k hk j hj, hv]
    rw [List.getElem?_take_of_lt (by omega)] at h2
    simpa using h2
theorem OwnsP.set {B : Nat} {W : World} {g l cp : Nat} {ps : List (Ck × Value)} (h : OwnsP B W (.slice (some ⟨g, 0, none⟩) l cp) ps) (k : Nat) (hk : k < ps.length) (p : Ck × Value) :
    OwnsP B ((((((((W.setCell ⟨g, k * 8, none⟩ (.int .i64 p.1.f)).setCell ⟨g, k * 8 + 1, none⟩ (.int .i64 p.1.t)).setCell ⟨g, k * 8 + 2, none⟩ (.int .i64 p.1.b)).setCell ⟨g, k * 8 + 3, none⟩ (.int .i64 p.1.z)).setCell ⟨g, k * 8 + 4, none⟩ (.int .i64 p.1.all)).setCell ⟨g, k * 8 + 5, none⟩ (.int .i64 p.1.nu)).setCell ⟨g, k * 8 + 6, none⟩ (.int .i64 p.1.many)).setCell ⟨g, k * 8 + 7, none⟩ p.2) (.slice (some ⟨g, 0, none⟩) l cp) (ps.set k p) := by
  rcases h.2 with ⟨e0, h0⟩ | ⟨g', cap, cur, e0, hb, hg, hc, hm, hs, ht⟩
  · cases e0
  · have e1 := e0
    simp only [Value.slice.injEq, Option.some.injEq, Addr.mk.injEq] at e1
    obtain ⟨⟨rfl, -, -⟩, -, -⟩ := e1
    refine ⟨pcCells_length _, .inr ⟨g, cap, _, by simpa using e0, hb, block_set (block_set (block_set (block_set (block_set (block_set (block_set (block_set hg _) _) _) _) _) _) _) _, by simpa using hc, hm, by simpa using hs, ?_⟩⟩
    rw [List.length_set, ← pcCells_set ps k hk p, ← ht]
    simp only [Array.toList_setIfInBounds]
    show _ = seqSet _ _ [_, _, _, _, _, _, _, _]
    simp only [seqSet, ← List.take_set]
end Go.Proofs.YtdjmhagclcfnfabGreat
/- The program's readAll of chunks: the inner function. -/
namespace Go.Proofs.YtdjmhagclcfnfabGreat
open Go.RowKit Go.Shelf

theorem made_chunks (n : Nat) : (madeCells #[.int .i64 0, .int .i64 0, .int .i64 0, .int .i64 0, .int .i64 0, .int .i64 0, .int .i64 0, .slice none 0 0] (n * 8)).toList = (List.replicate n pcZero).flatMap pcCells := by
  apply List.ext_getElem?
  intro i
  by_cases hi : i < n * 8
  · have h1 : (madeCells #[.int .i64 0, .int .i64 0, .int .i64 0, .int .i64 0, .int .i64 0, .int .i64 0, .int .i64 0, .slice none 0 0] (n * 8)).toList[i]? = some (#[Value.int .i64 0, .int .i64 0, .int .i64 0, .int .i64 0, .int .i64 0, .int .i64 0, .int .i64 0, .slice none 0 0][i % 8]!) := by
      rw [Array.getElem?_toList]
      simp [madeCells, hi]
    rw [h1]
    have h2 := pcCells_at (List.replicate n pcZero) (i / 8) (by simp; omega) (i % 8) (by omega)
    rw [show i / 8 * 8 + i % 8 = i from by omega] at h2
    rw [h2, List.getElem_replicate]
    rcases (show i % 8 = 0 ∨ i % 8 = 1 ∨ i % 8 = 2 ∨ i % 8 = 3 ∨ i % 8 = 4 ∨ i % 8 = 5 ∨ i % 8 = 6 ∨ i % 8 = 7 by omega) with h | h | h | h | h | h | h | h <;> rw [h] <;> rfl
  · rw [List.getElem?_eq_none (by simp [size_madeCells]; omega), List.getElem?_eq_none (by rw [pcCells_length]; simp; omega)]

/-- The chunks that are read, and their records' lists. -/
def ReadCs (B : Nat) (W : World) (ps : List (Ck × Value)) : Prop := ∀ p ∈ ps, OwnsR B W p.2 p.1.rs

set_option maxRecDepth 100000 in
set_option maxHeartbeats 4000000 in
theorem readAll1_any (Bt Br : Nat) (sv : Value) (ts : List (List UInt8)) (w : World) (hT : Txs w.heap.size w sv ts) (hl : ∀ t ∈ ts, t.length ≤ 4611686018427387904) (hn : ts.length ≤ 100) (ht : w.cell? ⟨Bt, 0, none⟩ = some sv) (hr : w.cell? ⟨Br, 0, none⟩ = some (.func (.func 20) #[] #[])) :
    Calls Tryz.prog 32 #[.pointer (some ⟨Bt, 0, none⟩), .pointer (some ⟨Br, 0, none⟩)] w fun e w' => w.grownBy w' none ∧
      ((∃ k, chunksOf ts = .inl k ∧ e = .panicked (gave k)) ∨ (∃ ps g, chunksOf ts = .inr (ps.map Prod.fst) ∧ e = .returned (.slice (some ⟨g, 0, none⟩) ts.length ts.length) ∧ OwnsP w.heap.size w' (.slice (some ⟨g, 0, none⟩) ts.length ts.length) ps ∧ ReadCs w.heap.size w' ps)) := by
  obtain ⟨a, c, rfl⟩ := hT.slice
  obtain ⟨i0, hi, hz0, hz1, hz2⟩ := info_parts Tryz.infoChunk
  have hlt := World.block_lt_of_cell? _ _ ht
  have hlr := World.block_lt_of_cell? _ _ hr
  have hmk : ∀ W : World, (Instr.makeSlice 55 (.int .i64 ts.length) (.int .i64 ts.length)).run Tryz.prog W = .ok (.slice (some ⟨W.heap.size, 0, none⟩) ts.length ts.length) (W.alloc (.cells (madeCells (Value.agg #[.int .i64 0, .int .i64 0, .int .i64 0, .int .i64 0, .int .i64 0, .int .i64 0, .int .i64 0, .slice none 0 0]).cells (ts.length * 8)) 59)) := by
    intro W
    have := run_make (P := Tryz.prog) W 55 59 i0 _ Tryz.underlying55 hi hz0 .i64 .i64 (ts.length : Int) (ts.length : Int) (by omega) (Int.le_refl _) (by rw [hz2]; omega) (by omega)
    rw [hz1, show ((ts.length : Int)).toNat = ts.length from by omega] at this
    exact this
  go_enter Tryz.func32, Tryz.ntmps32
  go_wp2
  obtain ⟨M, hM⟩ : ∃ M, M = madeCells #[.int .i64 0, .int .i64 0, .int .i64 0, .int .i64 0, .int .i64 0, .int .i64 0, .int .i64 0, .slice none 0 0] (ts.length * 8) := ⟨_, rfl⟩
  rw [← hM]
  obtain ⟨W1, hW1⟩ : ∃ W1, W1 = w.alloc (.cells M 59) := ⟨_, rfl⟩
  have hg1 : w.grownBy W1 none := by rw [hW1]; exact galloc _ _ _
  have hO1 : OwnsP w.heap.size W1 (.slice (some ⟨w.heap.size, 0, none⟩) ts.length ts.length) ([] ++ List.replicate (ts.length - 0) pcZero) := by
    have hl0 : ([] ++ List.replicate (ts.length - 0) pcZero).length = ts.length := by simp
    refine ⟨pcCells_length _, .inr ⟨w.heap.size, ts.length, M, by rw [hl0], Nat.le_refl _, by rw [hW1]; exact World.alloc_heap_new _ _, by rw [hl0]; exact Nat.le_refl _, Nat.le_trans hn (by decide), by rw [hM, size_madeCells], ?_⟩⟩
    rw [hl0, hM, made_chunks, List.take_of_length_le (by rw [pcCells_length]; simp)]
    simp
  rw [← hW1]
  have HT : Hid (∀ W, w.grownBy W none → Txs W.heap.size W (.slice a ts.length c) ts) := fun W h => Txs.moved hT (below_of_grown h)
  have HTB : Hid (∀ k (_ : k < ts.length), ∃ b off, a = some ⟨b, off, none⟩ ∧ b < w.heap.size) := fun k hk => by
    obtain ⟨b, off, e, h1, _⟩ := Txs.at hT hk
    exact ⟨b, off, e, h1⟩
  have HL : Hid _ := hl
  have HRd : Hid (w.cell? ⟨Br, 0, none⟩ = some (.func (.func 20) #[] #[])) := hr
  clear hM hW1 hmk hz0 hz1 hz2 hi hT hl ht hr
  go_loopw [11] (fun i wr => ∃ (k : Nat) (ps : List (Ck × Value)), k ≤ ts.length ∧ ps.length = k ∧ i = .int .i64 k ∧ OwnsP w.heap.size wr (.slice (some ⟨w.heap.size, 0, none⟩) ts.length ts.length) (ps ++ List.replicate (ts.length - k) pcZero) ∧ chunksOf (ts.take k) = .inr (ps.map Prod.fst) ∧ ReadCs w.heap.size wr ps ∧ w.grownBy wr none) (fun i _ => ts.length - (intOf i).toNat)
  case atStart => exact ⟨0, [], Nat.zero_le _, rfl, rfl, hO1, rfl, (fun p hp => by cases hp), hg1⟩
  case round =>
    obtain ⟨k, ps, hk, hpk, rfl, hO, hcs, hrc, hg⟩ := hrel
    have H_O : Hid (OwnsP w.heap.size wr (.slice (some ⟨w.heap.size, 0, none⟩) ts.length ts.length) (ps ++ List.replicate (ts.length - k) pcZero)) := hO
    have H_C : Hid _ := hcs
    have H_R : Hid (ReadCs w.heap.size wr ps) := hrc
    have H_G : Hid (w.grownBy wr none) := hg
    clear hO hcs hrc hg hO1 hg1
    by_cases hlt2 : k < ts.length
    · obtain ⟨tb, toff, ha, htb, hc⟩ := Txs.at (HT.out wr H_G.out) hlt2
      subst ha
      have hrd : wr.cell? ⟨Br, 0, none⟩ = _ := (World.cell?_of_block (H_G.out.block Br hlr (by simp))).trans HRd.out
      have HRC : Hid (∀ u : Unit, _) := fun _ => readChunk_any ts[k] wr (HL.out _ (List.getElem_mem hlt2))
      have HCE : Hid (∀ e, chunkR ts[k] = .inl e → chunksOf ts = .inl e) := fun e he => by
        have := chunksOf_bad (ts.take k) _ ts[k] (ts.drop (k + 1)) e H_C.out he
        rwa [List.getElem_cons_drop, List.take_append_drop] at this
      have HCO : Hid (∀ cc, chunkR ts[k] = .inr cc → chunksOf (ts.take (k + 1)) = .inr (ps.map Prod.fst ++ [cc])) := fun cc he => by
        rw [List.take_succ_eq_append_getElem hlt2]
        exact chunksOf_ok (ts.take k) _ ts[k] cc H_C.out he
      generalize ts[k] = tk at *
      go_wp2_with fail
      refine (HRC.out ()).mono ?_
      rintro e w2 ⟨hg2, (⟨ke, hke, rfl⟩ | ⟨cc, v, hke, rfl, hown⟩)⟩
      · exact ⟨rfl, gtrans H_G.out hg2, .inl ⟨ke, HCE.out ke hke, rfl⟩⟩
      have hpl : (ps ++ List.replicate (ts.length - k) pcZero).length = ts.length := by simp; omega
      have hO2 : OwnsP w.heap.size w2 (.slice (some ⟨w.heap.size, 0, none⟩) ts.length ts.length) (ps ++ List.replicate (ts.length - k) pcZero) := World.ownsRow.kept H_O.out hg2 (.inr (by simp [Value.ownBlock]))
      obtain ⟨cur, hcur, hcat⟩ := OwnsP.at hO2 (k := k) (by omega)
      have hel : (ps ++ List.replicate (ts.length - k) pcZero)[k]'(by omega) = pcZero := by
        rw [List.getElem_append_right (by omega)]
        simp
      rw [hel] at hcat
      have x0 := boxed_cell (i := k * 8) hcur (hcat 0 _ rfl (by omega))
      have x1 := boxed_cell (i := k * 8 + 1) hcur (hcat 1 _ rfl (by omega))
      have x2 := boxed_cell (i := k * 8 + 2) hcur (hcat 2 _ rfl (by omega))
      have x3 := boxed_cell (i := k * 8 + 3) hcur (hcat 3 _ rfl (by omega))
      have x4 := boxed_cell (i := k * 8 + 4) hcur (hcat 4 _ rfl (by omega))
      have x5 := boxed_cell (i := k * 8 + 5) hcur (hcat 5 _ rfl (by omega))
      have x6 := boxed_cell (i := k * 8 + 6) hcur (hcat 6 _ rfl (by omega))
      have x7 := boxed_cell (i := k * 8 + 7) hcur (hcat 7 _ rfl (by omega))
      have y0 := boxed_frozen (i := k * 8) hcur
      have y1 := boxed_frozen (i := k * 8 + 1) hcur
      have y2 := boxed_frozen (i := k * 8 + 2) hcur
      have y3 := boxed_frozen (i := k * 8 + 3) hcur
      have y4 := boxed_frozen (i := k * 8 + 4) hcur
      have y5 := boxed_frozen (i := k * 8 + 5) hcur
      have y6 := boxed_frozen (i := k * 8 + 6) hcur
      have y7 := boxed_frozen (i := k * 8 + 7) hcur
      have O2 : Hid (OwnsP w.heap.size w2 (.slice (some ⟨w.heap.size, 0, none⟩) ts.length ts.length) (ps ++ List.replicate (ts.length - k) pcZero)) := hO2
      have HOW : Hid (OwnsR wr.heap.size w2 v cc.rs) := hown
      have G2 : Hid (w.grownBy w2 none) := gtrans H_G.out hg2
      have RC2 : Hid (ReadCs w.heap.size w2 ps) := fun p hp => OwnsR.keptN (H_R.out p hp) hg2
      have HCC : Hid _ := HCO.out cc hke
      have HCU : Hid _ := hcur
      obtain ⟨va, vn, vc, rfl⟩ : ∃ a ln cp, v = .slice a ln cp := by
        rcases hown.2 with ⟨rfl, _⟩ | ⟨g, cap, cur, rfl, _⟩
        · exact ⟨_, _, _, rfl⟩
        · exact ⟨_, _, _, rfl⟩
      clear hO2 hcur hcat hel hown hg2 hke HCE HCO
      have HGS : Hid (w2.grownBy ((((((((w2.setCell ⟨w.heap.size, k * 8, none⟩ (.int .i64 cc.f)).setCell ⟨w.heap.size, k * 8 + 1, none⟩ (.int .i64 cc.t)).setCell ⟨w.heap.size, k * 8 + 2, none⟩ (.int .i64 cc.b)).setCell ⟨w.heap.size, k * 8 + 3, none⟩ (.int .i64 cc.z)).setCell ⟨w.heap.size, k * 8 + 4, none⟩ (.int .i64 cc.all)).setCell ⟨w.heap.size, k * 8 + 5, none⟩ (.int .i64 cc.nu)).setCell ⟨w.heap.size, k * 8 + 6, none⟩ (.int .i64 cc.many)).setCell ⟨w.heap.size, k * 8 + 7, none⟩ (.slice va vn vc)) (some w.heap.size)) := gtrans (gtrans (gtrans (gtrans (gtrans (gtrans (gtrans (gset w2 w.heap.size (k * 8) (.int .i64 cc.f)) (gset _ w.heap.size _ _)) (gset _ w.heap.size _ _)) (gset _ w.heap.size _ _)) (gset _ w.heap.size _ _)) (gset _ w.heap.size _ _)) (gset _ w.heap.size _ _)) (gset _ w.heap.size _ _)
      have HKR : Hid (∀ (W' : World) (v : Value) (rs : List Rc), w2.grownBy W' (some w.heap.size) → OwnsR w.heap.size w2 v rs → OwnsR w.heap.size W' v rs) := fun W' v rs hg h => row_beside h hg (fun r e => by cases e; exact ⟨_, HCU.out⟩) (by decide)
      go_wp2
      refine ⟨⟨k + 1, ps ++ [(cc, .slice va vn vc)], by omega, by simp [hpk], by go_num, ?_, ?_, ?_, gfresh (gfresh (gfresh (gfresh (gfresh (gfresh (gfresh (gfresh (G2.out) (Nat.le_refl _)) (Nat.le_refl _)) (Nat.le_refl _)) (Nat.le_refl _)) (Nat.le_refl _)) (Nat.le_refl _)) (Nat.le_refl _)) (Nat.le_refl _)⟩, by simp [intOf]; omega⟩
      · have h := OwnsP.set O2.out k (by omega) (cc, .slice va vn vc)
        have e : (ps ++ List.replicate (ts.length - k) pcZero).set k (cc, .slice va vn vc) = (ps ++ [(cc, .slice va vn vc)]) ++ List.replicate (ts.length - (k + 1)) pcZero := by
          rw [List.set_append_right _ _ (by omega), hpk, Nat.sub_self, show ts.length - k = (ts.length - (k + 1)) + 1 from by omega, List.replicate_succ, List.set_cons_zero, List.append_assoc]
          rfl
        rw [e] at h
        exact h
      · rw [HCC.out, List.map_append]
        rfl
      · intro q hq
        rw [List.mem_append, List.mem_singleton] at hq
        refine HKR.out _ _ _ HGS.out ?_
        rcases hq with hq | rfl
        · exact RC2.out q hq
        · exact OwnsR.base HOW.out H_G.out.size
    · obtain rfl : k = ts.length := by omega
      go_wp2
      go_ret
      have hO := H_O.out
      rw [Nat.sub_self, List.replicate_zero, List.append_nil] at hO
      have hc := H_C.out
      rw [List.take_length] at hc
      exact ⟨H_G.out, .inr ⟨ps, w.heap.size, hc, rfl, hO, H_R.out⟩⟩
end Go.Proofs.YtdjmhagclcfnfabGreat
/- The program's face, for a call that answers a list (chunks). -/
namespace Go.Proofs.YtdjmhagclcfnfabGreat
open Go.RowKit Go.Shelf

set_option maxRecDepth 100000 in
set_option maxHeartbeats 1000000 in
theorem face1_cs (gd : Nat) (ld : Array Value) (ed : ∀ args w, (callFunc gd args).run Tryz.prog w = .ok (.enter gd args) w) (Bd Ba : Nat) (PK : Int → Prop) (PO : Nat → World → Value → Prop) (w : World)
    (hsl : ∀ B W v, PO B W v → ∃ a ln cp, v = .slice a ln cp) (hset : ∀ B W v k o x, PO B W v → k < B → PO B (W.setCell ⟨k, o, none⟩ x) v)
    (hd : w.cell? ⟨Bd, 0, none⟩ = some (.func (.func gd) #[] ld)) (ha : w.heap[Ba]? = some (.cells #[.slice none 0 0] 55 (0, 0)))
    (hdo : Calls Tryz.prog gd ld w fun e w' => w.grownBy w' none ∧ ((∃ k, PK k ∧ e = .panicked (gave k)) ∨ (∃ v, e = .returned v ∧ PO w.heap.size w' v))) :
    Calls Tryz.prog 51 #[.pointer (some ⟨Bd, 0, none⟩), .pointer (some ⟨Ba, 0, none⟩)] w fun e w' =>
      (∃ k, e = .panicked (gave k) ∧ PK k ∧ w.grownBy w' none) ∨ (e = .returned (.tuple #[]) ∧ ∃ a ln cp, w'.heap[Ba]? = some (.cells #[.slice a ln cp] 55 (0, 0)) ∧ PO w.heap.size w' (.slice a ln cp) ∧ w.grownBy w' (some Ba)) := by
  have HD : Hid (∀ u : Unit, _) := fun _ => hdo
  have HA : Hid _ := ha
  have la : Ba < w.heap.size := (Array.getElem?_eq_some_iff.1 ha).1
  clear hdo ha
  go_enter Tryz.func51, Tryz.ntmps51
  go_wp2_with fail
  refine (HD.out ()).mono ?_
  rintro e W2 ⟨hg2, (⟨k, hk, rfl⟩ | ⟨v, rfl, hown⟩)⟩
  · exact ⟨rfl, .inl ⟨k, rfl, hk, hg2⟩⟩
  · have hb2 := (hg2.block Ba la (by simp)).trans HA.out
    obtain ⟨a, ln, cp, rfl⟩ := hsl _ _ _ hown
    have HO : Hid (PO w.heap.size W2 (.slice a ln cp)) := hown
    have HG : Hid (w.grownBy W2 none) := hg2
    have HB : Hid (W2.heap[Ba]? = some (.cells #[.slice none 0 0] 55 (0, 0))) := hb2
    have c0 := boxed_cell (i := 0) hb2 rfl
    have f0 := boxed_frozen (i := 0) hb2
    clear hb2 hown hg2
    go_wp2
    go_end0
    refine .inr ⟨rfl, a, ln, cp, ?_, ?_, ?_⟩
    · exact block_set (i := 0) HB.out (.slice a ln cp)
    · exact hset _ _ _ _ _ _ HO.out la
    · exact gtrans (gnone HG.out) (gset _ Ba 0 _)

set_option maxRecDepth 100000 in
set_option maxHeartbeats 1000000 in
/-- **atFace**, of a call that answers a list. -/
theorem atFace_cs (gd : Nat) (ld : Array Value) (ed : ∀ args w, (callFunc gd args).run Tryz.prog w = .ok (.enter gd args) w) (PK : Int → Prop) (PO : Nat → World → Value → Prop) (w : World)
    (hsl : ∀ B W v, PO B W v → ∃ a ln cp, v = .slice a ln cp) (hset : ∀ B W v k o x, PO B W v → k < B → PO B (W.setCell ⟨k, o, none⟩ x) v) (hbase : ∀ B B' W v, PO B W v → B' ≤ B → PO B' W v)
    (hdo : ∀ W, w.grownBy W none → Calls Tryz.prog gd ld W fun e w' => W.grownBy w' none ∧ ((∃ k, PK k ∧ e = .panicked (gave k)) ∨ (∃ v, e = .returned v ∧ PO W.heap.size w' v))) :
    Calls Tryz.prog 31 #[.func (.func gd) #[] ld] w fun e w' => w.grownBy w' none ∧
      ((∃ k, PK k ∧ e = .returned (.tuple #[.slice none 0 0, .int .i64 k])) ∨ (∃ v, e = .returned (.tuple #[v, .int .i64 0]) ∧ PO w.heap.size w' v)) := by
  have hmf : ∀ (fn : Fn) (first cap : Array Value) (w : World), (Instr.makeFunc fn first cap).run Tryz.prog w = .ok (.func fn first cap) w := fun _ _ _ _ => rfl
  have HD : Hid _ := hdo
  clear hdo
  go_enter Tryz.func31, Tryz.ntmps31
  go_wp2_with fail
  obtain ⟨W1, hW1⟩ : ∃ W1, W1 = (w.alloc (.cells #[.func (.func gd) #[] ld] 73)).alloc (.cells #[.slice none 0 0] 55) := ⟨_, rfl⟩
  rw [← hW1]
  have hs1 : W1.heap.size = w.heap.size + 2 := by rw [hW1]; simp
  have hg1 : w.grownBy W1 none := by rw [hW1]; exact gallocR (galloc _ _ _) _
  have hd1 : W1.heap[w.heap.size]? = some (.cells #[.func (.func gd) #[] ld] 73 (0, 0)) := by rw [hW1]; exact (Below.heap_alloc _ _ _ (by simp)).trans (World.alloc_heap_new _ _)
  have ha1 : W1.heap[w.heap.size + 1]? = some (.cells #[.slice none 0 0] 55 (0, 0)) := by
    rw [hW1]
    have h := World.alloc_heap_new (w.alloc (.cells #[.func (.func gd) #[] ld] 73)) (.cells #[.slice none 0 0] 55)
    rw [World.size_alloc] at h
    exact h
  clear hW1
  obtain ⟨O, hO⟩ : ∃ O : Obj, O = .cells #[.int .i64 0] 32 := ⟨_, rfl⟩
  have hg2 : w.grownBy (W1.alloc O) none := gallocR hg1 _
  have hf := face1_cs gd ld ed w.heap.size (w.heap.size + 1) PK PO (W1.alloc O) hsl hset (boxed_cell (i := 0) ((Below.heap_alloc _ _ _ (by omega)).trans hd1) rfl) ((Below.heap_alloc _ _ _ (by omega)).trans ha1) (HD.out _ hg2)
  have hn : (W1.alloc O).heap[W1.heap.size]? = some O := World.alloc_heap_new _ _
  have hsO : (W1.alloc O).heap.size = w.heap.size + 3 := by simp; omega
  have hca := caught_any 51 #[.pointer (some ⟨w.heap.size, 0, none⟩), .pointer (some ⟨w.heap.size + 1, 0, none⟩)] (enters_of Tryz.func51 (by kernel_rfl) rfl) W1
    (fun w' => ∃ a ln cp, w'.heap[w.heap.size + 1]? = some (.cells #[.slice a ln cp] 55 (0, 0)) ∧ PO (w.heap.size + 3) w' (.slice a ln cp) ∧ w.grownBy w' none ∧ W1.heap.size < w'.heap.size)
    (fun k w' => PK k ∧ w'.heap[w.heap.size + 1]? = some (.cells #[.slice none 0 0] 55 (0, 0)) ∧ w.grownBy w' none ∧ W1.heap.size < w'.heap.size) (by
      rw [← hO]
      refine hf.mono ?_
      rintro e w' (⟨k, rfl, hk, hg⟩ | ⟨rfl, a, ln, cp, hb, ho, hg⟩)
      · refine ⟨(hg.block _ (by omega) (by simp)).trans hn, .inr ⟨k, rfl, hk, (hg.block _ (by omega) (by simp)).trans ((Below.heap_alloc _ _ _ (by omega)).trans ha1), gtrans hg2 hg, by have := hg.size; omega⟩⟩
      · refine ⟨(hg.block _ (by omega) (by simp; omega)).trans hn, .inl ⟨rfl, a, ln, cp, hb, by rw [← hsO]; exact ho, gbut hg2 hg (by omega), by have := hg.size; omega⟩⟩)
  refine hca.mono ?_
  clear hf hca hn hg2
  rintro e w'' ⟨w', k, rfl, rfl, (⟨rfl, a, ln, cp, hb, ho, hg, hsz⟩ | ⟨hk, hb, hg, hsz⟩)⟩
  · have hb2 : (w'.setCell ⟨W1.heap.size, 0, none⟩ (.int .i64 0)).heap[w.heap.size + 1]? = _ := (Below.heap_setCell _ _ _ _ (by show w.heap.size + 1 ≠ W1.heap.size; omega)).trans hb
    have HO : Hid (PO (w.heap.size + 3) (w'.setCell ⟨W1.heap.size, 0, none⟩ (.int .i64 0)) (.slice a ln cp)) := hset _ _ _ _ _ _ ho (by omega)
    have HG : Hid (w.grownBy (w'.setCell ⟨W1.heap.size, 0, none⟩ (.int .i64 0)) none) := gfresh hg (by omega)
    generalize w'.setCell ⟨W1.heap.size, 0, none⟩ (.int .i64 0) = W3 at *
    have c0 := boxed_cell (i := 0) hb2 rfl
    have f0 := boxed_frozen (i := 0) hb2
    clear hb2 ho hg hb ha1 hd1
    go_wp2
    refine bodyPost_ret (v := .tuple #[.slice a ln cp, .int .i64 0]) (by simp [results, Tryz.results31, go_sem, c0]) rfl ?_
    exact ⟨gfresh HG.out (by omega), .inr ⟨_, rfl, hbase _ _ _ _ (hset _ _ _ _ _ _ HO.out (by omega)) (by omega)⟩⟩
  · have hb2 : (w'.setCell ⟨W1.heap.size, 0, none⟩ (.int .i64 k)).heap[w.heap.size + 1]? = _ := (Below.heap_setCell _ _ _ _ (by show w.heap.size + 1 ≠ W1.heap.size; omega)).trans hb
    have HP : Hid _ := hk
    have HG : Hid (w.grownBy (w'.setCell ⟨W1.heap.size, 0, none⟩ (.int .i64 k)) none) := gfresh hg (by omega)
    generalize w'.setCell ⟨W1.heap.size, 0, none⟩ (.int .i64 k) = W3 at *
    have c0 := boxed_cell (i := 0) hb2 rfl
    have f0 := boxed_frozen (i := 0) hb2
    clear hb2 hk hg hb ha1 hd1
    go_wp2
    refine bodyPost_ret (v := .tuple #[.slice none 0 0, .int .i64 k]) (by simp [results, Tryz.results31, go_sem, c0]) rfl ?_
    exact ⟨gfresh HG.out (by omega), .inl ⟨k, HP.out, rfl⟩⟩
end Go.Proofs.YtdjmhagclcfnfabGreat
/- The program's readAll of chunks. -/
namespace Go.Proofs.YtdjmhagclcfnfabGreat
open Go.RowKit Go.Shelf

theorem row_set {B sz n : Nat} {e : TypeId} {W : World} {v x : Value} {xs : List Value} {k o : Nat} (h : W.ownsRow B e sz v n xs) (hk : k < B) : (W.setCell ⟨k, o, none⟩ x).ownsRow B e sz v n xs := by
  refine World.ownsRow.kept h (gset W k o x) ?_
  rcases h.2 with ⟨rfl, _⟩ | ⟨g, cap, cur, rfl, hbg, _⟩
  · exact .inl rfl
  · refine .inr fun e => ?_
    have : g = k := by simpa [Value.ownBlock] using e
    omega
theorem row_base {B B' sz n : Nat} {e : TypeId} {W : World} {v : Value} {xs : List Value} (h : W.ownsRow B e sz v n xs) (hb : B' ≤ B) : W.ownsRow B' e sz v n xs := by
  refine ⟨h.1, ?_⟩
  rcases h.2 with hn | ⟨g, cap, cur, hv, hbg, rest⟩
  · exact .inl hn
  · exact .inr ⟨g, cap, cur, hv, Nat.le_trans hb hbg, rest⟩

/-- How the reading of chunks ends. -/
def ToldR (ts : List (List UInt8)) (w : World) (e : Ending) (w' : World) : Prop :=
  w.grownBy w' none ∧ ((∃ k, chunksOf ts = .inl k ∧ e = .returned (.tuple #[.slice none 0 0, .int .i64 k])) ∨
    (∃ ps g, chunksOf ts = .inr (ps.map Prod.fst) ∧ e = .returned (.tuple #[.slice (some ⟨g, 0, none⟩) ts.length ts.length, .int .i64 0]) ∧ OwnsP w.heap.size w' (.slice (some ⟨g, 0, none⟩) ts.length ts.length) ps ∧ ReadCs w.heap.size w' ps))

theorem atFaceC_any (Bt Br : Nat) (sv : Value) (ts : List (List UInt8)) (w : World) (hT : Txs w.heap.size w sv ts) (hl : ∀ t ∈ ts, t.length ≤ 4611686018427387904) (hn : ts.length ≤ 100) (ht : w.cell? ⟨Bt, 0, none⟩ = some sv) (hr : w.cell? ⟨Br, 0, none⟩ = some (.func (.func 20) #[] #[])) :
    Calls Tryz.prog 31 #[.func (.func 32) #[] #[.pointer (some ⟨Bt, 0, none⟩), .pointer (some ⟨Br, 0, none⟩)]] w (ToldR ts w) := by
  have la := World.block_lt_of_cell? _ _ ht
  have lb := World.block_lt_of_cell? _ _ hr
  refine (atFace_cs 32 #[.pointer (some ⟨Bt, 0, none⟩), .pointer (some ⟨Br, 0, none⟩)] (enters_of Tryz.func32 (by kernel_rfl) rfl) (fun k => chunksOf ts = .inl k)
    (fun B W v => ∃ ps g, chunksOf ts = .inr (ps.map Prod.fst) ∧ v = .slice (some ⟨g, 0, none⟩) ts.length ts.length ∧ OwnsP B W (.slice (some ⟨g, 0, none⟩) ts.length ts.length) ps ∧ ReadCs B W ps) w ?_ ?_ ?_ ?_).mono ?_
  · rintro B W v ⟨ps, g, _, rfl, _⟩
    exact ⟨_, _, _, rfl⟩
  · rintro B W v k o x ⟨ps, g, h1, h2, h3, h4⟩ hk
    exact ⟨ps, g, h1, h2, row_set h3 hk, fun p hp => row_set (h4 p hp) hk⟩
  · rintro B B' W v ⟨ps, g, h1, h2, h3, h4⟩ hb
    exact ⟨ps, g, h1, h2, row_base h3 hb, fun p hp => row_base (h4 p hp) hb⟩
  · intro W hg
    refine (readAll1_any Bt Br sv ts W (Txs.moved hT (below_of_grown hg)) hl hn ((World.cell?_of_block (hg.block Bt la (by simp))).trans ht) ((World.cell?_of_block (hg.block Br lb (by simp))).trans hr)).mono ?_
    rintro e w' ⟨h1, (h2 | ⟨ps, g, h2, h3, h4, h5⟩)⟩
    · exact ⟨h1, .inl h2⟩
    · exact ⟨h1, .inr ⟨_, h3, ps, g, h2, rfl, h4, h5⟩⟩
  · rintro e w' ⟨h1, (h2 | ⟨v, h3, ps, g, h2, rfl, h4, h5⟩)⟩
    · exact ⟨h1, .inl h2⟩
    · exact ⟨h1, .inr ⟨ps, g, h2, h3, h4, h5⟩⟩

set_option maxRecDepth 100000 in
set_option maxHeartbeats 1000000 in
theorem readAll_any (sv : Value) (ts : List (List UInt8)) (w : World) (hT : Txs w.heap.size w sv ts) (hl : ∀ t ∈ ts, t.length ≤ 4611686018427387904) (htl : ts.length ≤ 4611686018427387904) :
    Calls Tryz.prog 19 #[sv, .int .i64 100, .func (.func 20) #[] #[]] w fun e w' =>
      ((ts.length < 1 ∨ 100 < ts.length) ∧ w.grownBy w' none ∧ e = .returned (.tuple #[.slice none 0 0, .int .i64 1])) ∨ (1 ≤ ts.length ∧ ts.length ≤ 100 ∧ ToldR ts w e w') := by
  have hmf : ∀ (fn : Fn) (first cap : Array Value) (w : World), (Instr.makeFunc fn first cap).run Tryz.prog w = .ok (.func fn first cap) w := fun _ _ _ _ => rfl
  obtain ⟨a, c, rfl⟩ := hT.slice
  have HT : Hid (∀ W, w.grownBy W none → Txs W.heap.size W (.slice a ts.length c) ts) := fun W h => Txs.moved hT (below_of_grown h)
  have HL : Hid _ := hl
  clear hT hl
  go_enter Tryz.func19, Tryz.ntmps19
  go_wp2_with fail
  obtain ⟨W1, hW1⟩ : ∃ W1, W1 = (w.alloc (.cells #[.slice a ts.length c] 31)).alloc (.cells #[.func (.func 20) #[] #[]] 60) := ⟨_, rfl⟩
  have hg1 : w.grownBy W1 none := by rw [hW1]; exact gallocR (galloc _ _ _) _
  have ha1 : W1.heap[w.heap.size]? = some (.cells #[.slice a ts.length c] 31 (0, 0)) := by rw [hW1]; exact (Below.heap_alloc _ _ _ (by simp)).trans (World.alloc_heap_new _ _)
  have hb1 : W1.heap[w.heap.size + 1]? = some (.cells #[.func (.func 20) #[] #[]] 60 (0, 0)) := by
    rw [hW1]
    have h := World.alloc_heap_new (w.alloc (.cells #[.slice a ts.length c] 31)) (.cells #[.func (.func 20) #[] #[]] 60)
    rwa [World.size_alloc] at h
  rw [← hW1]
  clear hW1
  refine (within_any _ _ _ _).mono ?_
  rintro e w2 ⟨rfl, rfl⟩
  have G1 : Hid (w.grownBy w2 none) := hg1
  by_cases hc : 1 ≤ ts.length ∧ ts.length ≤ 100
  · have e1 : win (ts.length : Int) 1 100 = true := (win_iff _ _ _).2 ⟨by omega, by omega⟩
    have HF : Hid (∀ u : Unit, _) := fun _ => atFaceC_any w.heap.size (w.heap.size + 1) (.slice a ts.length c) ts w2 (HT.out _ hg1) HL.out hc.2 (boxed_cell ha1 rfl) (boxed_cell hb1 rfl)
    clear hg1 ha1 hb1
    go_wp2_with fail
    refine (HF.out ()).mono ?_
    rintro e w3 ⟨hg3, (⟨k, hk, rfl⟩ | ⟨ps, g, hk, rfl, hown, hrc⟩)⟩
    · have HP : Hid _ := hk
      have G3 : Hid (w.grownBy w3 none) := gtrans G1.out hg3
      clear hk hg3
      go_wp2
      refine bodyPost_ret (results_tmp2 rfl _ _ _) rfl ?_
      exact .inr ⟨hc.1, hc.2, G3.out, .inl ⟨k, HP.out, rfl⟩⟩
    · have HP : Hid _ := hk
      have G3 : Hid (w.grownBy w3 none) := gtrans G1.out hg3
      have HO : Hid (OwnsP w2.heap.size w3 (.slice (some ⟨g, 0, none⟩) ts.length ts.length) ps) := hown
      have HC : Hid (ReadCs w2.heap.size w3 ps) := hrc
      clear hk hg3 hown hrc
      go_wp2
      refine bodyPost_ret (results_tmp2 rfl _ _ _) rfl ?_
      exact .inr ⟨hc.1, hc.2, G3.out, .inr ⟨ps, g, HP.out, rfl, row_base HO.out G1.out.size, fun p hp => row_base (HC.out p hp) G1.out.size⟩⟩
  · have e1 : win (ts.length : Int) 1 100 = false := (win_not _ _ _).2 (by omega)
    clear hg1 ha1 hb1
    go_wp2
    refine bodyPost_ret (results_tmp2 rfl _ _ _) rfl ?_
    exact .inl ⟨by omega, G1.out, rfl⟩
end Go.Proofs.YtdjmhagclcfnfabGreat
/- The program's sort of chunks. -/
namespace Go.Proofs.YtdjmhagclcfnfabGreat
open Go.Shelf Go.RowKit Go.Lib Go.Sort
def Tryz.sortCk_ren : Go.Shelf.Ren := ⟨fun | 6 => 37 | 15 => 61 | 14 => 60 | 28 => 84 | 29 => 85 | 20 => 76 | 21 => 77 | 22 => 78 | 23 => 79 | 24 => 80 | 25 => 81 | 26 => 82 | 27 => 83 | 46 => 94 | 47 => 95 | 48 => 96 | 49 => 97 | 50 => 98 | 57 => 102 | n => n, fun | 22 => 55 | 24 => 59 | 25 => 81 | 3 => 3 | 39 => 99 | 0 => 0 | 53 => 92 | 55 => 124 | 4 => 4 | 46 => 116 | 45 => 115 | 50 => 120 | 5 => 5 | 9 => 9 | 66 => 140 | 70 => 144 | 76 => 147 | 77 => 23 | n => n, fun | n => n⟩
theorem Tryz.sortCk : Go.Proofs.SlLaysF0.n6 Tryz.prog Tryz.sortCk_ren := {
  mixed := by kernel_rfl
  f6 := ⟨Tryz.f37.name, by decide, Tryz.func37.trans (congrArg some (by kernel_rfl))⟩
  f14 := ⟨Tryz.f60.name, by decide, Tryz.func60.trans (congrArg some (by kernel_rfl))⟩
  f15 := Tryz.func61.trans (congrArg some (by kernel_rfl))
  f20 := ⟨Tryz.f76.name, by decide, Tryz.func76.trans (congrArg some (by kernel_rfl))⟩
  f21 := ⟨Tryz.f77.name, by decide, Tryz.func77.trans (congrArg some (by kernel_rfl))⟩
  f22 := ⟨Tryz.f78.name, by decide, Tryz.func78.trans (congrArg some (by kernel_rfl))⟩
  f23 := ⟨Tryz.f79.name, by decide, Tryz.func79.trans (congrArg some (by kernel_rfl))⟩
  f24 := ⟨Tryz.f80.name, by decide, Tryz.func80.trans (congrArg some (by kernel_rfl))⟩
  f25 := ⟨Tryz.f81.name, by decide, Tryz.func81.trans (congrArg some (by kernel_rfl))⟩
  f26 := ⟨Tryz.f82.name, by decide, Tryz.func82.trans (congrArg some (by kernel_rfl))⟩
  f27 := ⟨Tryz.f83.name, by decide, Tryz.func83.trans (congrArg some (by kernel_rfl))⟩
  f28 := Tryz.func84.trans (congrArg some (by kernel_rfl))
  f29 := Tryz.func85.trans (congrArg some (by kernel_rfl))
  f46 := ⟨Tryz.f94.name, by decide, Tryz.func94.trans (congrArg some (by kernel_rfl))⟩
  f47 := Tryz.func95.trans (congrArg some (by kernel_rfl))
  f48 := Tryz.func96.trans (congrArg some (by kernel_rfl))
  f49 := ⟨Tryz.f97.name, by decide, Tryz.func97.trans (congrArg some (by kernel_rfl))⟩
  f50 := ⟨Tryz.f98.name, by decide, Tryz.func98.trans (congrArg some (by kernel_rfl))⟩
  f57 := ⟨Tryz.f102.name, by decide, Tryz.func102.trans (congrArg some (by kernel_rfl))⟩
  t0 := Tryz.underlying0
  a0 := Tryz.isAgg0
  z0 := Tryz.sizeOf0
  v0 := Tryz.zeroValue0
  t3 := Tryz.underlying3
  a3 := Tryz.isAgg3
  z3 := Tryz.sizeOf3
  v3 := Tryz.zeroValue3
  t4 := Tryz.underlying4
  a4 := Tryz.isAgg4
  z4 := Tryz.sizeOf4
  v4 := Tryz.zeroValue4
  t5 := Tryz.underlying5
  a5 := Tryz.isAgg5
  z5 := Tryz.sizeOf5
  v5 := Tryz.zeroValue5
  t9 := Tryz.underlying9
  a9 := Tryz.isAgg9
  z9 := Tryz.sizeOf9
  v9 := Tryz.zeroValue9
  t22 := Tryz.underlying55
  a22 := Tryz.isAgg55
  z22 := Tryz.sizeOf55
  v22 := Tryz.zeroValue55
  t25 := Tryz.underlying81
  a25 := Tryz.isAgg81
  z25 := Tryz.sizeOf81
  v25 := Tryz.zeroValue81
  t39 := Tryz.underlying99
  a39 := Tryz.isAgg99
  z39 := Tryz.sizeOf99
  v39 := Tryz.zeroValue99
  t45 := Tryz.underlying115
  a45 := Tryz.isAgg115
  z45 := Tryz.sizeOf115
  v45 := Tryz.zeroValue115
  t46 := Tryz.underlying116
  a46 := Tryz.isAgg116
  z46 := Tryz.sizeOf116
  v46 := Tryz.zeroValue116
  t50 := Tryz.underlying120
  a50 := Tryz.isAgg120
  z50 := Tryz.sizeOf120
  v50 := Tryz.zeroValue120
  t53 := Tryz.underlying92
  a53 := Tryz.isAgg92
  z53 := Tryz.sizeOf92
  v53 := Tryz.zeroValue92
  t55 := Tryz.underlying124
  a55 := Tryz.isAgg124
  z55 := Tryz.sizeOf124
  v55 := Tryz.zeroValue124
  t66 := Tryz.underlying140
  a66 := Tryz.isAgg140
  z66 := Tryz.sizeOf140
  v66 := Tryz.zeroValue140
  t70 := Tryz.underlying144
  a70 := Tryz.isAgg144
  z70 := Tryz.sizeOf144
  v70 := Tryz.zeroValue144
  t76 := Tryz.underlying147
  a76 := Tryz.isAgg147
  z76 := Tryz.sizeOf147
  v76 := Tryz.zeroValue147
  t77 := Tryz.underlying23
  a77 := Tryz.isAgg23
  z77 := Tryz.sizeOf23
  v77 := Tryz.zeroValue23 }
def Tryz.cmpInt_ren : Go.Shelf.Ren := ⟨fun | 5 => 39 | 7 => 62 | n => n, fun | 22 => 3 | 3 => 3 | 4 => 4 | n => n, fun | n => n⟩
theorem Tryz.cmpInt : Go.Proofs.SlLaysC2.n5 Tryz.prog Tryz.cmpInt_ren := {
  mixed := by kernel_rfl
  f5 := ⟨Tryz.f39.name, by decide, Tryz.func39.trans (congrArg some (by kernel_rfl))⟩
  f7 := ⟨Tryz.f62.name, by decide, Tryz.func62.trans (congrArg some (by kernel_rfl))⟩
  t3 := Tryz.underlying3
  a3 := Tryz.isAgg3
  z3 := Tryz.sizeOf3
  v3 := Tryz.zeroValue3
  t4 := Tryz.underlying4
  a4 := Tryz.isAgg4
  z4 := Tryz.sizeOf4
  v4 := Tryz.zeroValue4
  t22 := Tryz.underlying3
  a22 := Tryz.isAgg3
  z22 := Tryz.sizeOf3
  v22 := Tryz.zeroValue3 }

/-- A chunk with its list's header. -/
abbrev Sk := Ck × (Option Addr × Nat × Nat)
instance : Inhabited Sk := ⟨(⟨0, 0, 0, 0, 0, 0, 0, []⟩, none, 0, 0)⟩
def skP (x : Sk) : Ck × Value := (x.1, .slice x.2.1 x.2.2.1 x.2.2.2)
def skE (x : Sk) : List Value := pcCells (skP x)
def skC (x y : Sk) : Int := Lib.compareInt x.1.nu y.1.nu

theorem sk_lt (x y : Sk) : ltOf skC x y = decide (x.1.nu < y.1.nu) := by
  unfold ltOf skC Lib.compareInt
  by_cases h1 : x.1.nu < y.1.nu
  · simp [h1]
  · by_cases h2 : y.1.nu < x.1.nu <;> simp [h1, h2]
theorem sk_swo : SWO (ltOf skC) where
  irrefl x := by rw [sk_lt]; simp
  trans x y z h1 h2 := by rw [sk_lt] at *; simp at *; omega
  ntrans x y z h1 h2 := by rw [sk_lt] at *; simp at *; omega

set_option maxRecDepth 100000 in
set_option maxHeartbeats 1000000 in
theorem joined1_any (x y : Sk) (W : World) : Calls Tryz.prog 38 #[.agg (skE x).toArray, .agg (skE y).toArray] W fun e w' => e = .returned (.int .i64 (skC x y)) ∧ ∃ q os', w' = grow (W.drewN q) os' := by
  obtain ⟨⟨f1, t1, b1, z1, a1, n1, m1, r1⟩, xa, xl, xc⟩ := x
  obtain ⟨⟨f2, t2, b2, z2, a2, n2, m2, r2⟩, ya, yl, yc⟩ := y
  have hcon := fun W' => AnyG.cmp_Compare_int Tryz.cmpInt (n1 : Int) (n2 : Int) W'
  change ∀ W', Calls Tryz.prog 39 _ _ _ at hcon
  have HC : Hid _ := hcon
  clear hcon
  show Calls Tryz.prog 38 #[.agg #[.int .i64 f1, .int .i64 t1, .int .i64 b1, .int .i64 z1, .int .i64 a1, .int .i64 n1, .int .i64 m1, .slice xa xl xc], .agg #[.int .i64 f2, .int .i64 t2, .int .i64 b2, .int .i64 z2, .int .i64 a2, .int .i64 n2, .int .i64 m2, .slice ya yl yc]] W fun e w' => e = .returned (.int .i64 (Lib.compareInt n1 n2)) ∧ ∃ q os', w' = grow (W.drewN q) os'
  generalize Lib.compareInt (n1 : Int) (n2 : Int) = r at *
  go_enter Tryz.func38, Tryz.ntmps38
  go_wp2_with fail
  refine (HC.out _).mono ?_
  rintro e w' ⟨rfl, rfl⟩
  go_wp2
  go_ret
  exact ⟨rfl, 0, _, by rw [alloc_eq_grow, alloc_eq_grow, grow_grow]; rfl⟩

theorem sk_flat (xs : List Sk) : (flatK skE 8 xs.toArray).toList = (xs.map skP).flatMap pcCells := by
  apply List.ext_getElem?
  intro i
  by_cases hi : i < xs.length * 8
  · have hd : i / 8 < xs.length := by omega
    have h2 := pcCells_at (xs.map skP) (i / 8) (by simp; omega) (i % 8) (by omega)
    rw [show i / 8 * 8 + i % 8 = i from by omega] at h2
    rw [h2, Array.getElem?_toList]
    have hd2 : i / 8 < (xs.map skP).length := by simpa using hd
    have h3 : (pcCells ((xs.map skP)[i / 8]'hd2)).length = 8 := rfl
    simp only [flatK, List.size_toArray, Array.getElem?_map, Array.getElem?_range, hi, if_true, Option.map_some]
    rw [List.getElem!_toArray, getElem!_pos xs (i / 8) hd, List.getElem?_eq_getElem (by rw [h3]; omega), getElem!_pos (skE xs[i / 8]) (i % 8) (show i % 8 < 8 by omega)]
    simp [skE]
  · rw [List.getElem?_eq_none (by simp; omega), List.getElem?_eq_none (by rw [pcCells_length]; simp; omega)]

theorem holds_sk {w : World} {g : Nat} {cur : Array Value} {e : TypeId} {xs : List Sk} (hb : w.heap[g]? = some (.cells cur e (0, 0))) (ht : cur.toList.take (xs.length * 8) = (xs.map skP).flatMap pcCells) : HoldsK skE 8 w g 0 xs.toArray := by
  intro j hj
  have hj' : j < xs.length * 8 := by simpa using hj
  refine ⟨?_, by simp [World.frozen?, hb]⟩
  have h1 : (cur.toList.take (xs.length * 8))[j]? = (flatK skE 8 xs.toArray).toList[j]? := by rw [ht, sk_flat]
  rw [List.getElem?_take_of_lt hj', Array.getElem?_toList, Array.getElem?_toList] at h1
  rw [Nat.zero_add]
  refine boxed_cell hb ?_
  rw [h1, getElem!_pos _ j hj, Array.getElem?_eq_getElem hj]
  rfl

theorem heap_sk {w : World} {g n : Nat} {os : Array Obj} {cur : Array Value} {e : TypeId} {fr : Nat × Nat} (d : Array Sk) (hb : w.heap[g]? = some (.cells cur e fr)) :
    (sortWorldK skE 8 w g 0 n d os).heap[g]? = some (.cells (putCells id 0 (flatK skE 8 d) cur) e fr) := by
  have hg : g < w.heap.size := (Array.getElem?_eq_some_iff.1 hb).1
  unfold sortWorldK putRowK
  rw [heap_grow_old _ _ (by simpa using hg)]
  simp [putRow, mapBlock, Sort.ahead, Array.getElem?_modify, hb, onCells]
theorem grown_sk {w : World} {g n : Nat} {os : Array Obj} (d : Array Sk) : w.grownBy (sortWorldK skE 8 w g 0 n d os) (some g) := by
  refine ⟨rfl, rfl, rfl, by unfold sortWorldK putRowK; simp, fun k hk hne => ?_⟩
  unfold sortWorldK putRowK
  rw [heap_grow_old _ _ (by simpa using hk)]
  have : g ≠ k := fun e => hne (by rw [e])
  simp [putRow, mapBlock, Sort.ahead, Array.getElem?_modify, this]
theorem take_sk (cur F : Array Value) (h : F.size ≤ cur.size) : (putCells id 0 F cur).toList.take F.size = F.toList := by
  apply List.ext_getElem?
  intro j
  by_cases hj : j < F.size
  · rw [List.getElem?_take_of_lt hj, Array.getElem?_toList, Array.getElem?_toList]
    simp [putCells, hj, show j < cur.size by omega]
  · rw [List.getElem?_take_eq_none (by omega), List.getElem?_eq_none (by simpa using hj)]

/-- **The sort of chunks by their numbers.** -/
theorem sort_any (g cap B : Nat) (xs : List Sk) (w : World) (h : OwnsP B w (.slice (some ⟨g, 0, none⟩) xs.length cap) (xs.map skP)) (hn : xs.length ≤ 100) :
    Calls Tryz.prog 37 #[.slice (some ⟨g, 0, none⟩) xs.length cap, .func (.func 38) #[] #[]] w fun e w' => e = .returned (.tuple #[]) ∧
      ∃ ys : List Sk, ys.Perm xs ∧ ys.Pairwise (fun a b => a.1.nu ≤ b.1.nu) ∧ OwnsP B w' (.slice (some ⟨g, 0, none⟩) xs.length cap) (ys.map skP) ∧ w.grownBy w' (some g) := by
  rcases h.2 with ⟨e0, h0⟩ | ⟨g', cap', cur, e0, hb, hg, hc, hm, hs, ht⟩
  · cases e0
  have e1 := e0
  simp only [Value.slice.injEq, Option.some.injEq, Addr.mk.injEq] at e1
  obtain ⟨⟨rfl, -, -⟩, -, rfl⟩ := e1
  rw [List.length_map] at hc ht
  have eg : ∀ args w, (callFunc 38 args).run Tryz.prog w = .ok (.enter 38 args) w := enters_of Tryz.func38 (by kernel_rfl) rfl
  have hlays : CmpLays Tryz.prog 38 #[] skE 8 skC g 0 xs.toArray.size w := fun _ _ _ _ x y => joined1_any x y _
  have hcon := AnyQ.slices_SortFunc Tryz.sortCk 8 Tryz.isAgg59 Tryz.sizeOf59 skE (fun _ => rfl) (fun x v hv => by simp [skE, pcCells, skP] at hv; rcases hv with rfl | rfl | rfl | rfl | rfl | rfl | rfl | rfl <;> rfl) skC sk_swo 38 #[] g 0 cap xs.toArray w eg hlays (holds_sk hg ht) ((Array.getElem?_eq_some_iff.1 hg).1) (by simp; omega)
  change Calls Tryz.prog 37 _ _ _ at hcon
  rw [show xs.toArray.size = xs.length from by simp] at hcon
  refine hcon.mono ?_
  rintro e w' ⟨rfl, d', n, os, hp, hsr, rfl⟩
  have hds : d'.size = xs.length := by rw [hp.1]; simp
  have hperm : d'.toList.Perm xs := by
    have := hp.2.2
    rw [show d'.extract 0 xs.length = d' from by rw [← hds]; simp, show xs.toArray.extract 0 xs.length = xs.toArray from by simp] at this
    simpa using this
  refine ⟨rfl, d'.toList, hperm, ?_, ?_, grown_sk d'⟩
  · rw [List.pairwise_iff_getElem]
    intro i j hi hj hij
    have := hsr i j (Nat.zero_le _) hij (by simpa [hds] using hj)
    rw [sk_lt, getElem!_pos d' j (by simpa using hj), getElem!_pos d' i (by simpa using hi)] at this
    simp only [decide_eq_false_iff_not, Nat.not_lt] at this
    simpa using this
  · have hl : (d'.toList.map skP).length = xs.length := by simp [hds]
    refine ⟨pcCells_length _, .inr ⟨g, cap, _, by rw [hl], hb, heap_sk d' hg, by rw [hl]; exact hc, hm, by simp [putCells, hs], ?_⟩⟩
    have hF : (flatK skE 8 d').toList = (d'.toList.map skP).flatMap pcCells := by
      have := sk_flat d'.toList
      simpa using this
    have hfs : (flatK skE 8 d').size = xs.length * 8 := by simp [hds]
    rw [hl, ← hF, ← hfs]
    exact take_sk cur _ (by rw [hfs, hs]; omega)
end Go.Proofs.YtdjmhagclcfnfabGreat
