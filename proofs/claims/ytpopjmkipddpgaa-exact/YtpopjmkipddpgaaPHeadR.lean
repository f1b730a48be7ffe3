/- The program's reader: the head. -/
import Derived.Test.YtpopjmkipddpgaaPSeq
namespace Go.Proofs.Ytpopjmkipddpgaa
open Go.RowKit Go.Shelf

set_option maxRecDepth 100000 in
set_option maxHeartbeats 1000000 in
theorem head_short (R : Nat) (l : List UInt8) (w : World) (hr : Rd w R l 0) (hl : l.length ≤ 4611686018427387904) (h : l.length < 18) :
    Calls Try.prog 58 #[.pointer (some ⟨R, 0, none⟩)] w fun e w' => e = .panicked (gave 2) ∧ w.grownBy w' (some R) := by
  have c0 := boxed_cell (i := 0) (v := .string ⟨l.toArray⟩) hr rfl
  have HR : Hid _ := hr
  clear hr
  have hlt : R < w.heap.size := (Array.getElem?_eq_some_iff.1 HR.out).1
  have hd : decide ((l.length : Int) < 18) = true := by simp; omega
  go_enter Try.func58, Try.ntmps58
  go_wp2
  exact ⟨rfl, rfl, galloc _ _ _⟩

set_option maxRecDepth 100000 in
set_option maxHeartbeats 1000000 in
theorem head_magic (R : Nat) (l : List UInt8) (w : World) (hr : Rd w R l 0) (hl : l.length ≤ 4611686018427387904) (h : 18 ≤ l.length) (hm : l.take 4 ≠ [83, 84, 82, 68]) :
    Calls Try.prog 58 #[.pointer (some ⟨R, 0, none⟩)] w fun e w' => e = .panicked (gave 3) ∧ w.grownBy w' (some R) := by
  have c0 := boxed_cell (i := 0) (v := .string ⟨l.toArray⟩) hr rfl
  have HR : Hid _ := hr
  clear hr
  have HT : Hid (∀ u : Unit, _) := fun _ => take_ok R l 0 4 (w.alloc (.cells #[.int .i64 0, .int .i64 0, .int .i64 0, .int .i64 0, .int .i64 0] 72)) (Rd.alloc HR.out _) hl (by omega)
  have hlt : R < w.heap.size := (Array.getElem?_eq_some_iff.1 HR.out).1
  have hd : decide ((l.length : Int) < 18) = false := by simp; omega
  go_enter Try.func58, Try.ntmps58
  go_wp2_with fail
  refine (HT.out ()).mono ?_
  rintro e w1 ⟨rfl, hr1, hg1⟩
  rw [List.drop_zero]
  generalize l.take 4 = d at *
  have e1 : (d == [83, 84, 82, 68]) = false := by simpa using hm
  go_wp2
  exact ⟨rfl, rfl, gtrans (galloc _ _ _) hg1⟩

/-- The head's five numbers. -/
def headR (l : List UInt8) : Nat × Nat × Nat × Nat × Nat := (num ((l.drop 4).take 4), num ((l.drop 8).take 4), num ((l.drop 12).take 2), num ((l.drop 14).take 2), num ((l.drop 16).take 2))

theorem num_le (l : List UInt8) (p k : Nat) (hk : k ≤ 4) : num ((l.drop p).take k) < 4294967296 := by
  have h := num_lt ((l.drop p).take k)
  have h2 : ((l.drop p).take k).length ≤ 4 := by simp; omega
  exact Nat.lt_of_lt_of_le h (Nat.pow_le_pow_right (by decide) h2)

set_option maxRecDepth 100000 in
set_option maxHeartbeats 2000000 in
theorem head_rest (R : Nat) (l : List UInt8) (w : World) (hr : Rd w R l 0) (hl : l.length ≤ 4611686018427387904) (h : 18 ≤ l.length) (hm : l.take 4 = [83, 84, 82, 68]) (ok : Bool) (f t b z m : Nat) (hh : headR l = (f, t, b, z, m)) (hok : headOk f t b z m = ok) :
    Calls Try.prog 58 #[.pointer (some ⟨R, 0, none⟩)] w fun e w' => w.grownBy w' (some R) ∧
      ((ok = false ∧ e = .panicked (gave 4)) ∨ (ok = true ∧ e = .returned (.agg #[.int .i64 f, .int .i64 t, .int .i64 b, .int .i64 z, .int .i64 m]) ∧ Rd w' R l 18)) := by
  have c0 := boxed_cell (i := 0) (v := .string ⟨l.toArray⟩) hr rfl
  have HR : Hid _ := hr
  clear hr
  have HT : Hid (∀ u : Unit, _) := fun _ => take_ok R l 0 4 (w.alloc (.cells #[.int .i64 0, .int .i64 0, .int .i64 0, .int .i64 0, .int .i64 0] 72)) (Rd.alloc HR.out _) hl (by omega)
  have H1 : Hid (∀ W, Rd W R l 4 → _) := fun W h => number_ok R l 4 4 W h hl (by omega) (by omega)
  have H2 : Hid (∀ W, Rd W R l 8 → _) := fun W h => number_ok R l 8 4 W h hl (by omega) (by omega)
  have H3 : Hid (∀ W, Rd W R l 12 → _) := fun W h => number_ok R l 12 2 W h hl (by omega) (by omega)
  have H4 : Hid (∀ W, Rd W R l 14 → _) := fun W h => number_ok R l 14 2 W h hl (by omega) (by omega)
  have H5 : Hid (∀ W, Rd W R l 16 → _) := fun W h => number_ok R l 16 2 W h hl (by omega) (by omega)
  have n1 := num_le l 4 4 (by omega)
  have n2 := num_le l 8 4 (by omega)
  have n3 := num_le l 12 2 (by omega)
  have n4 := num_le l 14 2 (by omega)
  have n5 := num_le l 16 2 (by omega)
  simp only [headR, Prod.mk.injEq] at hh
  obtain ⟨h1, h2, h3, h4, h5⟩ := hh
  rw [List.drop_zero] at HT
  rw [h1] at H1 n1
  rw [h2] at H2 n2
  rw [h3] at H3 n3
  rw [h4] at H4 n4
  rw [h5] at H5 n5
  rw [hm] at HT
  clear h1 h2 h3 h4 h5 hm
  have hlt : R < w.heap.size := (Array.getElem?_eq_some_iff.1 HR.out).1
  have hd : decide ((l.length : Int) < 18) = false := by simp; omega
  go_enter Try.func58, Try.ntmps58
  go_wp2_with fail
  refine (HT.out ()).mono ?_
  rintro e w1 ⟨rfl, hr1, hg1⟩
  have R1 : Hid _ := hr1
  have G1 : Hid _ := hg1
  clear hr1 hg1
  go_wp2_with fail
  refine (H1.out _ R1.out).mono ?_
  rintro e w2 ⟨rfl, hr2, hg2⟩
  have R2 : Hid _ := hr2
  have G2 : Hid _ := gtrans G1.out hg2
  clear hr2 hg2
  go_wp2_with fail
  refine (H2.out _ R2.out).mono ?_
  rintro e w3 ⟨rfl, hr3, hg3⟩
  have R3 : Hid _ := hr3
  have G3 : Hid _ := gtrans G2.out hg3
  clear hr3 hg3
  go_wp2_with fail
  refine (H3.out _ R3.out).mono ?_
  rintro e w4 ⟨rfl, hr4, hg4⟩
  have R4 : Hid _ := hr4
  have G4 : Hid _ := gtrans G3.out hg4
  clear hr4 hg4
  go_wp2_with fail
  refine (H4.out _ R4.out).mono ?_
  rintro e w5 ⟨rfl, hr5, hg5⟩
  have R5 : Hid _ := hr5
  have G5 : Hid _ := gtrans G4.out hg5
  clear hr5 hg5
  go_wp2_with fail
  refine (H5.out _ R5.out).mono ?_
  rintro e w6 ⟨rfl, hr6, hg6⟩
  have R6 : Hid (Rd w6 R l 18) := hr6
  have G6 : Hid _ := gtrans G5.out hg6
  clear hr6 hg6
  go_wp2_with fail
  cases ok with
  | false =>
    refine (hwell_bad _ _ _ _ _ _ hok).mono ?_
    rintro e w7 ⟨rfl, hb7⟩
    have G7 : Hid (w.grownBy w7 (some R)) := gtrans (galloc _ _ _) (gtrans G6.out (gtrans (galloc _ _ _) (gbelow hb7)))
    clear hb7
    go_wp2
    exact ⟨rfl, G7.out, rfl⟩
  | true =>
    refine (hwell_good _ _ _ _ _ _ hok).mono ?_
    rintro e w7 ⟨rfl, hb7⟩
    have hg7 : w6.grownBy w7 none := gtrans (galloc _ _ _) (gbelow hb7)
    have G7 : Hid (w.grownBy w7 (some R)) := gtrans (galloc _ _ _) (gtrans G6.out (gnone hg7))
    obtain ⟨hb, hlb⟩ := resBox hlt G6.out (gnone hg7)
    obtain ⟨-, hl6⟩ := resBox hlt G6.out (gtrans (galloc w6 (.cells #[] 0) _) (galloc _ (.cells #[] 0) _))
    have hx : w7.heap[w6.heap.size]? = _ := (hb7.block _ (by simp)).trans (World.alloc_heap_new _ _)
    have R7 : Hid (Rd w7 R l 18) := R6.out.kept hg7
    clear c0
    have c0 := boxed_cell (i := 0) hb rfl
    have f0 := boxed_frozen (i := 0) hb
    have d0 := boxed_cell (i := 0) hx rfl
    have c1 := boxed_cell (i := 1) hb rfl
    have f1 := boxed_frozen (i := 1) hb
    have d1 := boxed_cell (i := 1) hx rfl
    have c2 := boxed_cell (i := 2) hb rfl
    have f2 := boxed_frozen (i := 2) hb
    have d2 := boxed_cell (i := 2) hx rfl
    have c3 := boxed_cell (i := 3) hb rfl
    have f3 := boxed_frozen (i := 3) hb
    have d3 := boxed_cell (i := 3) hx rfl
    have c4 := boxed_cell (i := 4) hb rfl
    have f4 := boxed_frozen (i := 4) hb
    have d4 := boxed_cell (i := 4) hx rfl
    clear hb hx hb7 hg7
    go_wp2
    refine bodyPost_ret (v := .agg #[.int .i64 f, .int .i64 t, .int .i64 b, .int .i64 z, .int .i64 m]) (by simp [results, Try.results58, go_sem, c0, c1, c2, c3, c4]) rfl ?_
    exact ⟨gfresh (gfresh (gfresh (gfresh (gfresh G7.out (Nat.le_refl _)) (Nat.le_refl _)) (Nat.le_refl _)) (Nat.le_refl _)) (Nat.le_refl _), rfl, Rd.set (Rd.set (Rd.set (Rd.set (Rd.set R7.out (by omega)) (by omega)) (by omega)) (by omega)) (by omega)⟩

/-- What a text's first eighteen bytes tell: the error, or the five numbers. -/
def openR (l : List UInt8) : Int ⊕ (Nat × Nat × Nat × Nat × Nat) :=
  if l.length < 18 then .inl 2 else if l.take 4 ≠ [83, 84, 82, 68] then .inl 3 else
  if headOk (headR l).1 (headR l).2.1 (headR l).2.2.1 (headR l).2.2.2.1 (headR l).2.2.2.2 = true then .inr (headR l) else .inl 4

theorem phead (R : Nat) (l : List UInt8) (w : World) (hr : Rd w R l 0) (hl : l.length ≤ 4611686018427387904) :
    Calls Try.prog 58 #[.pointer (some ⟨R, 0, none⟩)] w fun e w' => w.grownBy w' (some R) ∧
      ((∃ k, openR l = .inl k ∧ e = .panicked (gave k)) ∨ (∃ f t b z m, openR l = .inr (f, t, b, z, m) ∧ e = .returned (.agg #[.int .i64 (f : Nat), .int .i64 (t : Nat), .int .i64 (b : Nat), .int .i64 (z : Nat), .int .i64 (m : Nat)]) ∧ Rd w' R l 18 ∧ 18 ≤ l.length ∧ headOk f t b z m = true)) := by
  unfold openR
  by_cases h1 : l.length < 18
  · rw [if_pos h1]
    refine (head_short R l w hr hl h1).mono ?_
    rintro e w' ⟨rfl, hg⟩
    exact ⟨hg, .inl ⟨_, rfl, rfl⟩⟩
  rw [if_neg h1]
  by_cases h2 : l.take 4 ≠ [83, 84, 82, 68]
  · rw [if_pos h2]
    refine (head_magic R l w hr hl (by omega) h2).mono ?_
    rintro e w' ⟨rfl, hg⟩
    exact ⟨hg, .inl ⟨_, rfl, rfl⟩⟩
  rw [if_neg h2]
  obtain ⟨f, t, b, z, m, hh⟩ : ∃ f t b z m, headR l = (f, t, b, z, m) := ⟨_, _, _, _, _, rfl⟩
  rw [hh]
  simp only []
  refine (head_rest R l w hr hl (by omega) (by simpa using h2) _ f t b z m hh rfl).mono ?_
  rintro e w' ⟨hg, (⟨h3, rfl⟩ | ⟨h3, rfl, hr'⟩)⟩
  · refine ⟨hg, .inl ⟨4, ?_, rfl⟩⟩
    rw [h3]
    rfl
  · refine ⟨hg, .inr ⟨f, t, b, z, m, ?_, rfl, hr', by omega, h3⟩⟩
    rw [h3]
    rfl
end Go.Proofs.Ytpopjmkipddpgaa
