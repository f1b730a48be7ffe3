/- The program's reader: the head. -/
import Derived.Test.YtkmeingnhaomaaaPSeq2
namespace Go.Proofs.Ytkmeingnhaomaaa
open Go.RowKit Go.Shelf

/-- The head's five numbers. -/
def headR (l : List UInt8) : Nat × Nat × Nat × Nat × Nat := (num ((l.drop 4).take 4), num ((l.drop 8).take 4), num ((l.drop 12).take 2), num ((l.drop 14).take 2), num ((l.drop 16).take 2))

theorem num_le (l : List UInt8) (p k : Nat) (hk : k ≤ 4) : num ((l.drop p).take k) < 4294967296 := by
  have h := num_lt ((l.drop p).take k)
  have h2 : ((l.drop p).take k).length ≤ 4 := by simp; omega
  exact Nat.lt_of_lt_of_le h (Nat.pow_le_pow_right (by decide) h2)

set_option maxRecDepth 100000 in
set_option maxHeartbeats 1000000 in
theorem begin_short (R : Nat) (l M : List UInt8) (n : Nat) (w : World) (hr : Rd w R l 0) (_hl : l.length ≤ 4611686018427387904) (h : l.length < n) :
    Calls Try.prog 110 #[.pointer (some ⟨R, 0, none⟩), .string ⟨M.toArray⟩, .int .i64 n] w fun e w' => e = .panicked (gave 2) ∧ w.grownBy w' (some R) := by
  have c0 := boxed_cell (i := 0) (v := .string ⟨l.toArray⟩) hr rfl
  have HR : Hid _ := hr
  clear hr
  have hlt : R < w.heap.size := (Array.getElem?_eq_some_iff.1 HR.out).1
  have hd : decide ((l.length : Int) < n) = true := by simp; omega
  go_enter Try.func110, Try.ntmps110
  go_wp2
  exact ⟨rfl, rfl, galloc _ _ _⟩

set_option maxRecDepth 100000 in
set_option maxHeartbeats 1000000 in
theorem begin_magic (R : Nat) (l M : List UInt8) (hM : M.length = 4) (n : Nat) (w : World) (hr : Rd w R l 0) (hl : l.length ≤ 4611686018427387904) (h18 : 18 ≤ n) (h : n ≤ l.length) (hm : l.take 4 ≠ M) :
    Calls Try.prog 110 #[.pointer (some ⟨R, 0, none⟩), .string ⟨M.toArray⟩, .int .i64 n] w fun e w' => e = .panicked (gave 3) ∧ w.grownBy w' (some R) := by
  have c0 := boxed_cell (i := 0) (v := .string ⟨l.toArray⟩) hr rfl
  have HR : Hid _ := hr
  clear hr
  have HT : Hid (∀ u : Unit, _) := fun _ => take_ok R l 0 4 (w.alloc (.cells #[.int .i64 0, .int .i64 0, .int .i64 0, .int .i64 0, .int .i64 0] 101)) (Rd.alloc HR.out _) hl (by omega)
  have hlt : R < w.heap.size := (Array.getElem?_eq_some_iff.1 HR.out).1
  have hd : decide ((l.length : Int) < n) = false := by simp; omega
  go_enter Try.func110, Try.ntmps110
  go_wp2_with fail
  refine (HT.out ()).mono ?_
  rintro e w1 ⟨rfl, hr1, hg1⟩
  rw [List.drop_zero]
  generalize l.take 4 = d at *
  have e1 : (d == M) = false := by simpa using hm
  go_wp2
  exact ⟨rfl, rfl, gtrans (galloc _ _ _) hg1⟩

set_option maxRecDepth 100000 in
set_option maxHeartbeats 2000000 in
theorem begin_rest (R : Nat) (l M : List UInt8) (hM : M.length = 4) (n : Nat) (w : World) (hr : Rd w R l 0) (hl : l.length ≤ 4611686018427387904) (h18 : 18 ≤ n) (h : n ≤ l.length) (hm : l.take 4 = M) (f t b z m : Nat) (hh : headR l = (f, t, b, z, m)) :
    Calls Try.prog 110 #[.pointer (some ⟨R, 0, none⟩), .string ⟨M.toArray⟩, .int .i64 n] w fun e w' => w.grownBy w' (some R) ∧ e = .returned (.agg #[.int .i64 f, .int .i64 t, .int .i64 b, .int .i64 z, .int .i64 m]) ∧ Rd w' R l 18 := by
  have c0 := boxed_cell (i := 0) (v := .string ⟨l.toArray⟩) hr rfl
  have HR : Hid _ := hr
  clear hr
  have HT : Hid (∀ u : Unit, _) := fun _ => take_ok R l 0 4 (w.alloc (.cells #[.int .i64 0, .int .i64 0, .int .i64 0, .int .i64 0, .int .i64 0] 101)) (Rd.alloc HR.out _) hl (by omega)
  have H1 : Hid (∀ W, Rd W R l 4 → _) := fun W h => number_ok R l 4 4 W h hl (by omega) (by omega)
  have H2 : Hid (∀ W, Rd W R l 8 → _) := fun W h => number_ok R l 8 4 W h hl (by omega) (by omega)
  have H3 : Hid (∀ W, Rd W R l 12 → _) := fun W h => number_ok R l 12 2 W h hl (by omega) (by omega)
  have H4 : Hid (∀ W, Rd W R l 14 → _) := fun W h => number_ok R l 14 2 W h hl (by omega) (by omega)
  have H5 : Hid (∀ W, Rd W R l 16 → _) := fun W h => number_ok R l 16 2 W h hl (by omega) (by omega)
  have n1 := num_le l 4 4 (by omega)
  have n2 := num_le l 8 4 (by omega)
  have n3 := num_le l 12 2 (by omega)
  have n4 := num_le l 14 2 (by omega)
  have n5 := num_le l 16 2 (by omega)
  simp only [headR, Prod.mk.injEq] at hh
  obtain ⟨h1, h2, h3, h4, h5⟩ := hh
  rw [List.drop_zero] at HT
  rw [h1] at H1 n1
  rw [h2] at H2 n2
  rw [h3] at H3 n3
  rw [h4] at H4 n4
  rw [h5] at H5 n5
  rw [hm] at HT
  clear h1 h2 h3 h4 h5 hm
  have hlt : R < w.heap.size := (Array.getElem?_eq_some_iff.1 HR.out).1
  have hd : decide ((l.length : Int) < n) = false := by simp; omega
  go_enter Try.func110, Try.ntmps110
  go_wp2_with fail
  refine (HT.out ()).mono ?_
  rintro e w1 ⟨rfl, hr1, hg1⟩
  have R1 : Hid _ := hr1
  have G1 : Hid _ := hg1
  clear hr1 hg1
  go_wp2_with fail
  refine (H1.out _ R1.out).mono ?_
  rintro e w2 ⟨rfl, hr2, hg2⟩
  have R2 : Hid _ := hr2
  have G2 : Hid _ := gtrans G1.out hg2
  clear hr2 hg2
  go_wp2_with fail
  refine (H2.out _ R2.out).mono ?_
  rintro e w3 ⟨rfl, hr3, hg3⟩
  have R3 : Hid _ := hr3
  have G3 : Hid _ := gtrans G2.out hg3
  clear hr3 hg3
  go_wp2_with fail
  refine (H3.out _ R3.out).mono ?_
  rintro e w4 ⟨rfl, hr4, hg4⟩
  have R4 : Hid _ := hr4
  have G4 : Hid _ := gtrans G3.out hg4
  clear hr4 hg4
  go_wp2_with fail
  refine (H4.out _ R4.out).mono ?_
  rintro e w5 ⟨rfl, hr5, hg5⟩
  have R5 : Hid _ := hr5
  have G5 : Hid _ := gtrans G4.out hg5
  clear hr5 hg5
  go_wp2_with fail
  refine (H5.out _ R5.out).mono ?_
  rintro e w6 ⟨rfl, hr6, hg6⟩
  have R6 : Hid (Rd w6 R l 18) := hr6
  have G6 : Hid _ := gtrans G5.out hg6
  clear hr6 hg6
  obtain ⟨hb, hlb⟩ := resBox hlt G6.out (⟨rfl, rfl, rfl, Nat.le_refl _, fun _ _ _ => rfl⟩ : w6.grownBy w6 (some R))
  clear c0
  have c0 := boxed_cell (i := 0) hb rfl
  have f0 := boxed_frozen (i := 0) hb
  have c1 := boxed_cell (i := 1) hb rfl
  have f1 := boxed_frozen (i := 1) hb
  have c2 := boxed_cell (i := 2) hb rfl
  have f2 := boxed_frozen (i := 2) hb
  have c3 := boxed_cell (i := 3) hb rfl
  have f3 := boxed_frozen (i := 3) hb
  have c4 := boxed_cell (i := 4) hb rfl
  have f4 := boxed_frozen (i := 4) hb
  have G7 : Hid (w.grownBy w6 (some R)) := gtrans (galloc _ _ _) G6.out
  clear hb
  go_wp2
  refine bodyPost_ret (v := .agg #[.int .i64 f, .int .i64 t, .int .i64 b, .int .i64 z, .int .i64 m]) (by simp [results, Try.results110, go_sem, c0, c1, c2, c3, c4]) rfl ?_
  exact ⟨gfresh (gfresh (gfresh (gfresh (gfresh G7.out (Nat.le_refl _)) (Nat.le_refl _)) (Nat.le_refl _)) (Nat.le_refl _)) (Nat.le_refl _), rfl, Rd.set (Rd.set (Rd.set (Rd.set (Rd.set R6.out (by omega)) (by omega)) (by omega)) (by omega)) (by omega)⟩

/-- **begin**, of any text. -/
theorem pbegin (R : Nat) (l M : List UInt8) (hM : M.length = 4) (n : Nat) (w : World) (hr : Rd w R l 0) (hl : l.length ≤ 4611686018427387904) (h18 : 18 ≤ n) :
    Calls Try.prog 110 #[.pointer (some ⟨R, 0, none⟩), .string ⟨M.toArray⟩, .int .i64 n] w fun e w' => w.grownBy w' (some R) ∧
      ((l.length < n ∧ e = .panicked (gave 2)) ∨ (n ≤ l.length ∧ l.take 4 ≠ M ∧ e = .panicked (gave 3)) ∨
       (n ≤ l.length ∧ l.take 4 = M ∧ ∃ f t b z m, headR l = (f, t, b, z, m) ∧ e = .returned (.agg #[.int .i64 (f : Nat), .int .i64 (t : Nat), .int .i64 (b : Nat), .int .i64 (z : Nat), .int .i64 (m : Nat)]) ∧ Rd w' R l 18)) := by
  by_cases h1 : l.length < n
  · refine (begin_short R l M n w hr hl h1).mono ?_
    rintro e w' ⟨rfl, hg⟩
    exact ⟨hg, .inl ⟨h1, rfl⟩⟩
  by_cases h2 : l.take 4 = M
  · obtain ⟨f, t, b, z, m, hh⟩ : ∃ f t b z m, headR l = (f, t, b, z, m) := ⟨_, _, _, _, _, rfl⟩
    refine (begin_rest R l M hM n w hr hl h18 (by omega) h2 f t b z m hh).mono ?_
    rintro e w' ⟨hg, rfl, hr'⟩
    exact ⟨hg, .inr (.inr ⟨by omega, h2, f, t, b, z, m, hh, rfl, hr'⟩)⟩
  · refine (begin_magic R l M hM n w hr hl h18 (by omega) h2).mono ?_
    rintro e w' ⟨rfl, hg⟩
    exact ⟨hg, .inr (.inl ⟨by omega, h2, rfl⟩)⟩

/-- What a text's first eighteen bytes tell: the error, or the five numbers. -/
def openR (l : List UInt8) : Int ⊕ (Nat × Nat × Nat × Nat × Nat) :=
  if l.length < 18 then .inl 2 else if l.take 4 ≠ [83, 84, 82, 68] then .inl 3 else
  if headOk (headR l).1 (headR l).2.1 (headR l).2.2.1 (headR l).2.2.2.1 (headR l).2.2.2.2 = true then .inr (headR l) else .inl 4

set_option maxRecDepth 100000 in
set_option maxHeartbeats 1000000 in
theorem phead (R : Nat) (l : List UInt8) (w : World) (hr : Rd w R l 0) (hl : l.length ≤ 4611686018427387904) :
    Calls Try.prog 82 #[.pointer (some ⟨R, 0, none⟩)] w fun e w' => w.grownBy w' (some R) ∧
      ((∃ k, openR l = .inl k ∧ e = .panicked (gave k)) ∨ (∃ f t b z m, openR l = .inr (f, t, b, z, m) ∧ e = .returned (.agg #[.int .i64 (f : Nat), .int .i64 (t : Nat), .int .i64 (b : Nat), .int .i64 (z : Nat), .int .i64 (m : Nat)]) ∧ Rd w' R l 18 ∧ 18 ≤ l.length ∧ headOk f t b z m = true)) := by
  have hlt := hr.lt
  have HB : Hid (∀ o : Obj, _) := fun o => pbegin R l [83, 84, 82, 68] rfl 18 (w.alloc o) (Rd.alloc hr o) hl (by omega)
  clear hr
  go_enter Try.func82, Try.ntmps82
  go_wp2_with fail
  refine (HB.out _).mono ?_
  rintro e w1 ⟨hg1, (⟨h1, rfl⟩ | ⟨h1, h2, rfl⟩ | ⟨h1, h2, f, t, b, z, m, hh, rfl, hr1⟩)⟩
  · exact ⟨rfl, gtrans (galloc _ _ _) hg1, .inl ⟨2, by unfold openR; rw [if_pos h1], rfl⟩⟩
  · exact ⟨rfl, gtrans (galloc _ _ _) hg1, .inl ⟨3, by unfold openR; rw [if_neg (by omega), if_pos h2], rfl⟩⟩
  have HO2 : Hid (openR l = if headOk f t b z m = true then .inr (f, t, b, z, m) else .inl 4) := by
    show _ = _
    unfold openR
    rw [if_neg (by omega), if_neg (by simpa using h2), hh]
  have HG1 : Hid _ := hg1
  have HR1 : Hid (Rd w1 R l 18) := hr1
  clear hg1 hr1 HB hh h2
  go_wp2_with fail
  refine (hwell_any f t b z m _).mono ?_
  rintro e w2 ⟨rfl, hb2⟩
  have hg2 : w1.grownBy w2 none := gtrans (galloc _ _ _) (gbelow hb2)
  have G2 : Hid (w.grownBy w2 (some R)) := gtrans (galloc _ _ _) (gtrans HG1.out (gnone hg2))
  cases hok : headOk f t b z m with
  | false =>
    have HX : Hid (openR l = .inl 4) := by rw [HO2.out, hok]; rfl
    clear hb2 hg2
    go_wp2
    exact ⟨rfl, G2.out, .inl ⟨4, HX.out, rfl⟩⟩
  | true =>
    have HX : Hid (openR l = .inr (f, t, b, z, m)) := by rw [HO2.out, hok]; rfl
    have HK : Hid (headOk f t b z m = true) := hok
    obtain ⟨hb, hlb⟩ := resBox hlt HG1.out (gnone hg2)
    have hx : w2.heap[w1.heap.size]? = _ := (hb2.block _ (by simp)).trans (World.alloc_heap_new _ _)
    have R2 : Hid (Rd w2 R l 18) := HR1.out.kept hg2
    have hl1 : w.heap.size < w1.heap.size := by have := HG1.out.size; simp at this; omega
    have c0 := boxed_cell (i := 0) hb rfl
    have f0 := boxed_frozen (i := 0) hb
    have d0 := boxed_cell (i := 0) hx rfl
    have c1 := boxed_cell (i := 1) hb rfl
    have f1 := boxed_frozen (i := 1) hb
    have d1 := boxed_cell (i := 1) hx rfl
    have c2 := boxed_cell (i := 2) hb rfl
    have f2 := boxed_frozen (i := 2) hb
    have d2 := boxed_cell (i := 2) hx rfl
    have c3 := boxed_cell (i := 3) hb rfl
    have f3 := boxed_frozen (i := 3) hb
    have d3 := boxed_cell (i := 3) hx rfl
    have c4 := boxed_cell (i := 4) hb rfl
    have f4 := boxed_frozen (i := 4) hb
    have d4 := boxed_cell (i := 4) hx rfl
    clear hb hx hb2 hg2 hok
    go_wp2
    refine bodyPost_ret (v := .agg #[.int .i64 f, .int .i64 t, .int .i64 b, .int .i64 z, .int .i64 m]) (by simp [results, Try.results82, go_sem, c0, c1, c2, c3, c4]) rfl ?_
    exact ⟨gfresh (gfresh (gfresh (gfresh (gfresh G2.out (Nat.le_refl _)) (Nat.le_refl _)) (Nat.le_refl _)) (Nat.le_refl _)) (Nat.le_refl _), .inr ⟨f, t, b, z, m, HX.out, rfl, Rd.set (Rd.set (Rd.set (Rd.set (Rd.set R2.out (by omega)) (by omega)) (by omega)) (by omega)) (by omega), h1, HK.out⟩⟩
end Go.Proofs.Ytkmeingnhaomaaa
