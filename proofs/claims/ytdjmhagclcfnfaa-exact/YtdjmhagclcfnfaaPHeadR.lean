/- The program's reader: the head. -/
import Derived.Test.YtdjmhagclcfnfaaPSeq2
namespace Go.Proofs.Ytdjmhagclcfnfaa
open Go.RowKit Go.Shelf

/-- The head's five numbers. -/
def headR (l : List UInt8) : Nat × Nat × Nat × Nat × Nat := (num ((l.drop 4).take 4), num ((l.drop 8).take 4), num ((l.drop 12).take 2), num ((l.drop 14).take 2), num ((l.drop 16).take 2))

theorem num_le (l : List UInt8) (p k : Nat) (hk : k ≤ 4) : num ((l.drop p).take k) < 4294967296 := by
  have h := num_lt ((l.drop p).take k)
  have h2 : ((l.drop p).take k).length ≤ 4 := by simp; omega
  exact Nat.lt_of_lt_of_le h (Nat.pow_le_pow_right (by decide) h2)

/-- What is written into a new block. -/
theorem gbut {A B C : World} {row : Option Nat} {k : Nat} (h : A.grownBy B row) (g : B.grownBy C (some k)) (hk : A.heap.size ≤ k) : A.grownBy C row :=
  ⟨g.os.trans h.os, g.tape.trans h.tape, g.output.trans h.output, Nat.le_trans h.size g.size, fun j hj hne => (g.block j (Nat.lt_of_lt_of_le hj h.size) (by simp; omega)).trans (h.block j hj hne)⟩

set_option maxRecDepth 100000 in
set_option maxHeartbeats 1000000 in
theorem begin_short (R : Nat) (l M : List UInt8) (n : Nat) (w : World) (hr : Rd w R l 0) (_hl : l.length ≤ 4611686018427387904) (h : l.length < n) :
    Calls Try.prog 115 #[.pointer (some ⟨R, 0, none⟩), .string ⟨M.toArray⟩, .int .i64 n] w fun e w' => e = .panicked (gave 2) ∧ w.grownBy w' (some R) := by
  have c1 := boxed_cell (i := 1) (v := .int .i64 l.length) hr.1 rfl
  have hlt : R < w.heap.size := hr.lt
  clear hr
  have hd : decide ((l.length : Int) < n) = true := by simp; omega
  go_enter Try.func115, Try.ntmps115
  go_wp2
  exact ⟨rfl, rfl, galloc _ _ _⟩

set_option maxRecDepth 100000 in
set_option maxHeartbeats 1000000 in
theorem begin_magic (R : Nat) (l M : List UInt8) (hM : M.length = 4) (n : Nat) (w : World) (hr : Rd w R l 0) (hl : l.length ≤ 4611686018427387904) (h18 : 18 ≤ n) (h : n ≤ l.length) (hm : l.take 4 ≠ M) :
    Calls Try.prog 115 #[.pointer (some ⟨R, 0, none⟩), .string ⟨M.toArray⟩, .int .i64 n] w fun e w' => e = .panicked (gave 3) ∧ w.grownBy w' (some R) := by
  have c1 := boxed_cell (i := 1) (v := .int .i64 l.length) hr.1 rfl
  have hlt : R < w.heap.size := hr.lt
  have HT : Hid (∀ o : Obj, _) := fun o => take_ok R l 0 18 (w.alloc o) (Rd.alloc hr o) hl (by omega) (by omega)
  rw [List.drop_zero] at HT
  clear hr
  have hL : (l.take 18).length = 18 := by simp; omega
  have hm4 : (l.take 18).take 4 = l.take 4 := by rw [List.take_take]; rfl
  rw [← hm4] at hm
  clear hm4
  generalize l.take 18 = L at *
  have hd : decide ((l.length : Int) < n) = false := by simp; omega
  go_enter Try.func115, Try.ntmps115
  go_wp2_with fail
  refine (HT.out _).mono ?_
  rintro e w1 ⟨rfl, hr1, hg1⟩
  have G1 : Hid _ := hg1
  have hw1 : w.heap.size < w1.heap.size := by have := hg1.size; simp at this; omega
  clear hr1 hg1
  go_wp2_with fail
  refine (overText_any L w1).mono ?_
  rintro e w2 ⟨rfl, hr2, hb2, hs2⟩
  have G2 : Hid _ := gtrans G1.out (gbelow hb2)
  have HT2 : Hid (∀ u : Unit, _) := fun _ => take_ok (w1.heap.size + 1) L 0 4 w2 hr2 (by omega) (by omega) (by omega)
  rw [List.drop_zero] at HT2
  clear hr2 hb2
  go_wp2_with fail
  refine (HT2.out ()).mono ?_
  rintro e w3 ⟨rfl, -, hg3⟩
  have G3 : Hid (w.grownBy w3 (some R)) := gtrans (galloc _ _ _) (gbut G2.out hg3 (by simp; omega))
  clear hg3
  generalize L.take 4 = d at *
  have e1 : (d == M) = false := by simpa using hm
  go_wp2
  exact ⟨rfl, rfl, G3.out⟩

set_option maxRecDepth 100000 in
set_option maxHeartbeats 2000000 in
theorem begin_rest (R : Nat) (l M : List UInt8) (hM : M.length = 4) (n : Nat) (w : World) (hr : Rd w R l 0) (hl : l.length ≤ 4611686018427387904) (h18 : 18 ≤ n) (h : n ≤ l.length) (hm : l.take 4 = M) (f t b z m : Nat) (hh : headR l = (f, t, b, z, m)) :
    Calls Try.prog 115 #[.pointer (some ⟨R, 0, none⟩), .string ⟨M.toArray⟩, .int .i64 n] w fun e w' => w.grownBy w' (some R) ∧ e = .returned (.agg #[.int .i64 f, .int .i64 t, .int .i64 b, .int .i64 z, .int .i64 m]) ∧ Rd w' R l 18 := by
  have c1 := boxed_cell (i := 1) (v := .int .i64 l.length) hr.1 rfl
  have hlt : R < w.heap.size := hr.lt
  have HT : Hid (∀ o : Obj, _) := fun o => take_ok R l 0 18 (w.alloc o) (Rd.alloc hr o) hl (by omega) (by omega)
  rw [List.drop_zero] at HT
  clear hr
  have hL : (l.take 18).length = 18 := by simp; omega
  have hm4 : (l.take 18).take 4 = M := by rw [List.take_take]; exact hm
  have hpart : ∀ p k, p + k ≤ 18 → ((l.take 18).drop p).take k = (l.drop p).take k := fun p k hpk => by
    rw [List.drop_take, List.take_take]
    congr 1
    omega
  have H1 : Hid (∀ R2 W, Rd W R2 (l.take 18) 4 → _) := fun R2 W h => number_ok R2 (l.take 18) 4 4 W h (by omega) (by omega) (by omega)
  have H2 : Hid (∀ R2 W, Rd W R2 (l.take 18) 8 → _) := fun R2 W h => number_ok R2 (l.take 18) 8 4 W h (by omega) (by omega) (by omega)
  have H3 : Hid (∀ R2 W, Rd W R2 (l.take 18) 12 → _) := fun R2 W h => number_ok R2 (l.take 18) 12 2 W h (by omega) (by omega) (by omega)
  have H4 : Hid (∀ R2 W, Rd W R2 (l.take 18) 14 → _) := fun R2 W h => number_ok R2 (l.take 18) 14 2 W h (by omega) (by omega) (by omega)
  have H5 : Hid (∀ R2 W, Rd W R2 (l.take 18) 16 → _) := fun R2 W h => number_ok R2 (l.take 18) 16 2 W h (by omega) (by omega) (by omega)
  rw [hpart 4 4 (by omega)] at H1
  rw [hpart 8 4 (by omega)] at H2
  rw [hpart 12 2 (by omega)] at H3
  rw [hpart 14 2 (by omega)] at H4
  rw [hpart 16 2 (by omega)] at H5
  have n1 := num_le l 4 4 (by omega)
  have n2 := num_le l 8 4 (by omega)
  have n3 := num_le l 12 2 (by omega)
  have n4 := num_le l 14 2 (by omega)
  have n5 := num_le l 16 2 (by omega)
  simp only [headR, Prod.mk.injEq] at hh
  obtain ⟨h1, h2, h3, h4, h5⟩ := hh
  rw [h1] at H1 n1
  rw [h2] at H2 n2
  rw [h3] at H3 n3
  rw [h4] at H4 n4
  rw [h5] at H5 n5
  clear h1 h2 h3 h4 h5 hm hpart
  generalize l.take 18 = L at *
  have hd : decide ((l.length : Int) < n) = false := by simp; omega
  go_enter Try.func115, Try.ntmps115
  go_wp2_with fail
  refine (HT.out _).mono ?_
  rintro e w1 ⟨rfl, hr1, hg1⟩
  have R1 : Hid (Rd w1 R l 18) := by rw [Nat.zero_add] at hr1; exact hr1
  have G1 : Hid _ := hg1
  have hw1 : w.heap.size < w1.heap.size := by have := hg1.size; simp at this; omega
  clear hr1 hg1
  go_wp2_with fail
  refine (overText_any L w1).mono ?_
  rintro e w2 ⟨rfl, hr2, hb2, hs2⟩
  have G2 : Hid _ := gtrans G1.out (gbelow hb2)
  have R2 : Hid (Rd w2 R l 18) := R1.out.kept (gbelow hb2)
  have HT2 : Hid (∀ u : Unit, _) := fun _ => take_ok (w1.heap.size + 1) L 0 4 w2 hr2 (by omega) (by omega) (by omega)
  rw [List.drop_zero, hm4] at HT2
  clear hr2 hb2
  go_wp2_with fail
  refine (HT2.out ()).mono ?_
  rintro e w3 ⟨rfl, hr3, hg3⟩
  have Q3 : Hid (Rd w3 (w1.heap.size + 1) L 4) := hr3
  have G3 : Hid _ := gbut G2.out hg3 (by simp; omega)
  have R3 : Hid (Rd w3 R l 18) := R2.out.keptBut hg3 (by omega)
  clear hr3 hg3
  go_wp2_with fail
  refine (H1.out _ _ Q3.out).mono ?_
  rintro e w4 ⟨rfl, hr4, hg4⟩
  have Q4 : Hid (Rd w4 (w1.heap.size + 1) L 8) := hr4
  have G4 : Hid _ := gbut G3.out hg4 (by simp; omega)
  have R4 : Hid (Rd w4 R l 18) := R3.out.keptBut hg4 (by omega)
  clear hr4 hg4
  go_wp2_with fail
  refine (H2.out _ _ Q4.out).mono ?_
  rintro e w5 ⟨rfl, hr5, hg5⟩
  have Q5 : Hid (Rd w5 (w1.heap.size + 1) L 12) := hr5
  have G5 : Hid _ := gbut G4.out hg5 (by simp; omega)
  have R5 : Hid (Rd w5 R l 18) := R4.out.keptBut hg5 (by omega)
  clear hr5 hg5
  go_wp2_with fail
  refine (H3.out _ _ Q5.out).mono ?_
  rintro e w6 ⟨rfl, hr6, hg6⟩
  have Q6 : Hid (Rd w6 (w1.heap.size + 1) L 14) := hr6
  have G6 : Hid _ := gbut G5.out hg6 (by simp; omega)
  have R6 : Hid (Rd w6 R l 18) := R5.out.keptBut hg6 (by omega)
  clear hr6 hg6
  go_wp2_with fail
  refine (H4.out _ _ Q6.out).mono ?_
  rintro e w7 ⟨rfl, hr7, hg7⟩
  have Q7 : Hid (Rd w7 (w1.heap.size + 1) L 16) := hr7
  have G7 : Hid _ := gbut G6.out hg7 (by simp; omega)
  have R7 : Hid (Rd w7 R l 18) := R6.out.keptBut hg7 (by omega)
  clear hr7 hg7
  go_wp2_with fail
  refine (H5.out _ _ Q7.out).mono ?_
  rintro e w8 ⟨rfl, hr8, hg8⟩
  have G8 : Hid _ := gbut G7.out hg8 (by simp; omega)
  have R8 : Hid (Rd w8 R l 18) := R7.out.keptBut hg8 (by omega)
  clear hr8 hg8
  obtain ⟨hb, hlb⟩ := resBox hlt G8.out (⟨rfl, rfl, rfl, Nat.le_refl _, fun _ _ _ => rfl⟩ : w8.grownBy w8 (some R))
  clear c1
  have c0 := boxed_cell (i := 0) hb rfl
  have f0 := boxed_frozen (i := 0) hb
  have c1 := boxed_cell (i := 1) hb rfl
  have f1 := boxed_frozen (i := 1) hb
  have c2 := boxed_cell (i := 2) hb rfl
  have f2 := boxed_frozen (i := 2) hb
  have c3 := boxed_cell (i := 3) hb rfl
  have f3 := boxed_frozen (i := 3) hb
  have c4 := boxed_cell (i := 4) hb rfl
  have f4 := boxed_frozen (i := 4) hb
  have G9 : Hid (w.grownBy w8 (some R)) := gtrans (galloc _ _ _) G8.out
  clear hb
  go_wp2
  refine bodyPost_ret (v := .agg #[.int .i64 f, .int .i64 t, .int .i64 b, .int .i64 z, .int .i64 m]) (by simp [results, Try.results115, go_sem, c0, c1, c2, c3, c4]) rfl ?_
  exact ⟨gfresh (gfresh (gfresh (gfresh (gfresh G9.out (Nat.le_refl _)) (Nat.le_refl _)) (Nat.le_refl _)) (Nat.le_refl _)) (Nat.le_refl _), rfl, Rd.set (Rd.set (Rd.set (Rd.set (Rd.set R8.out (by omega)) (by omega)) (by omega)) (by omega)) (by omega)⟩

/-- **begin**, of any text. -/
theorem pbegin (R : Nat) (l M : List UInt8) (hM : M.length = 4) (n : Nat) (w : World) (hr : Rd w R l 0) (hl : l.length ≤ 4611686018427387904) (h18 : 18 ≤ n) :
    Calls Try.prog 115 #[.pointer (some ⟨R, 0, none⟩), .string ⟨M.toArray⟩, .int .i64 n] w fun e w' => w.grownBy w' (some R) ∧
      ((l.length < n ∧ e = .panicked (gave 2)) ∨ (n ≤ l.length ∧ l.take 4 ≠ M ∧ e = .panicked (gave 3)) ∨
       (n ≤ l.length ∧ l.take 4 = M ∧ ∃ f t b z m, headR l = (f, t, b, z, m) ∧ e = .returned (.agg #[.int .i64 (f : Nat), .int .i64 (t : Nat), .int .i64 (b : Nat), .int .i64 (z : Nat), .int .i64 (m : Nat)]) ∧ Rd w' R l 18)) := by
  by_cases h1 : l.length < n
  · refine (begin_short R l M n w hr hl h1).mono ?_
    rintro e w' ⟨rfl, hg⟩
    exact ⟨hg, .inl ⟨h1, rfl⟩⟩
  by_cases h2 : l.take 4 = M
  · obtain ⟨f, t, b, z, m, hh⟩ : ∃ f t b z m, headR l = (f, t, b, z, m) := ⟨_, _, _, _, _, rfl⟩
    refine (begin_rest R l M hM n w hr hl h18 (by omega) h2 f t b z m hh).mono ?_
    rintro e w' ⟨hg, rfl, hr'⟩
    exact ⟨hg, .inr (.inr ⟨by omega, h2, f, t, b, z, m, hh, rfl, hr'⟩)⟩
  · refine (begin_magic R l M hM n w hr hl h18 (by omega) h2).mono ?_
    rintro e w' ⟨rfl, hg⟩
    exact ⟨hg, .inr (.inl ⟨by omega, h2, rfl⟩)⟩

/-- What a text's first eighteen bytes tell: the error, or the five numbers. -/
def openR (l : List UInt8) : Int ⊕ (Nat × Nat × Nat × Nat × Nat) :=
  if l.length < 18 then .inl 2 else if l.take 4 ≠ [83, 84, 82, 68] then .inl 3 else
  if headOk (headR l).1 (headR l).2.1 (headR l).2.2.1 (headR l).2.2.2.1 (headR l).2.2.2.2 = true then .inr (headR l) else .inl 4

set_option maxRecDepth 100000 in
set_option maxHeartbeats 1000000 in
theorem phead (R : Nat) (l : List UInt8) (w : World) (hr : Rd w R l 0) (hl : l.length ≤ 4611686018427387904) :
    Calls Try.prog 83 #[.pointer (some ⟨R, 0, none⟩)] w fun e w' => w.grownBy w' (some R) ∧
      ((∃ k, openR l = .inl k ∧ e = .panicked (gave k)) ∨ (∃ f t b z m, openR l = .inr (f, t, b, z, m) ∧ e = .returned (.agg #[.int .i64 (f : Nat), .int .i64 (t : Nat), .int .i64 (b : Nat), .int .i64 (z : Nat), .int .i64 (m : Nat)]) ∧ Rd w' R l 18 ∧ 18 ≤ l.length ∧ headOk f t b z m = true)) := by
  have hlt := hr.lt
  have HB : Hid (∀ o : Obj, _) := fun o => pbegin R l [83, 84, 82, 68] rfl 18 (w.alloc o) (Rd.alloc hr o) hl (by omega)
  clear hr
  go_enter Try.func83, Try.ntmps83
  go_wp2_with fail
  refine (HB.out _).mono ?_
  rintro e w1 ⟨hg1, (⟨h1, rfl⟩ | ⟨h1, h2, rfl⟩ | ⟨h1, h2, f, t, b, z, m, hh, rfl, hr1⟩)⟩
  · exact ⟨rfl, gtrans (galloc _ _ _) hg1, .inl ⟨2, by unfold openR; rw [if_pos h1], rfl⟩⟩
  · exact ⟨rfl, gtrans (galloc _ _ _) hg1, .inl ⟨3, by unfold openR; rw [if_neg (by omega), if_pos h2], rfl⟩⟩
  have HO2 : Hid (openR l = if headOk f t b z m = true then .inr (f, t, b, z, m) else .inl 4) := by
    show _ = _
    unfold openR
    rw [if_neg (by omega), if_neg (by simpa using h2), hh]
  have HG1 : Hid _ := hg1
  have HR1 : Hid (Rd w1 R l 18) := hr1
  clear hg1 hr1 HB hh h2
  go_wp2_with fail
  refine (hwell_any f t b z m _).mono ?_
  rintro e w2 ⟨rfl, hb2⟩
  have hg2 : w1.grownBy w2 none := gtrans (galloc _ _ _) (gbelow hb2)
  have G2 : Hid (w.grownBy w2 (some R)) := gtrans (galloc _ _ _) (gtrans HG1.out (gnone hg2))
  cases hok : headOk f t b z m with
  | false =>
    have HX : Hid (openR l = .inl 4) := by rw [HO2.out, hok]; rfl
    clear hb2 hg2
    go_wp2
    exact ⟨rfl, G2.out, .inl ⟨4, HX.out, rfl⟩⟩
  | true =>
    have HX : Hid (openR l = .inr (f, t, b, z, m)) := by rw [HO2.out, hok]; rfl
    have HK : Hid (headOk f t b z m = true) := hok
    obtain ⟨hb, hlb⟩ := resBox hlt HG1.out (gnone hg2)
    have hx : w2.heap[w1.heap.size]? = _ := (hb2.block _ (by simp)).trans (World.alloc_heap_new _ _)
    have R2 : Hid (Rd w2 R l 18) := HR1.out.kept hg2
    have hl1 : w.heap.size < w1.heap.size := by have := HG1.out.size; simp at this; omega
    have c0 := boxed_cell (i := 0) hb rfl
    have f0 := boxed_frozen (i := 0) hb
    have d0 := boxed_cell (i := 0) hx rfl
    have c1 := boxed_cell (i := 1) hb rfl
    have f1 := boxed_frozen (i := 1) hb
    have d1 := boxed_cell (i := 1) hx rfl
    have c2 := boxed_cell (i := 2) hb rfl
    have f2 := boxed_frozen (i := 2) hb
    have d2 := boxed_cell (i := 2) hx rfl
    have c3 := boxed_cell (i := 3) hb rfl
    have f3 := boxed_frozen (i := 3) hb
    have d3 := boxed_cell (i := 3) hx rfl
    have c4 := boxed_cell (i := 4) hb rfl
    have f4 := boxed_frozen (i := 4) hb
    have d4 := boxed_cell (i := 4) hx rfl
    clear hb hx hb2 hg2 hok
    go_wp2
    refine bodyPost_ret (v := .agg #[.int .i64 f, .int .i64 t, .int .i64 b, .int .i64 z, .int .i64 m]) (by simp [results, Try.results83, go_sem, c0, c1, c2, c3, c4]) rfl ?_
    exact ⟨gfresh (gfresh (gfresh (gfresh (gfresh G2.out (Nat.le_refl _)) (Nat.le_refl _)) (Nat.le_refl _)) (Nat.le_refl _)) (Nat.le_refl _), .inr ⟨f, t, b, z, m, HX.out, rfl, Rd.set (Rd.set (Rd.set (Rd.set (Rd.set R2.out (by omega)) (by omega)) (by omega)) (by omega)) (by omega), h1, HK.out⟩⟩
end Go.Proofs.Ytdjmhagclcfnfaa
