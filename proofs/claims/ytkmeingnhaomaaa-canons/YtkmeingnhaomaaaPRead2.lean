/- The program's reader: a record. -/
import Derived.Test.YtkmeingnhaomaaaPRead
namespace Go.Proofs.Ytkmeingnhaomaaa
open Go.RowKit Go.Shelf

/-- A record at the front of q, of blocks of z bytes: the error, or it and what is behind it. -/
def rdRec (z : Nat) (q : List UInt8) : Int ⊕ (Rc × List UInt8) :=
  if q.length < 1 then .inl 2 else
  if num (q.take 1) ≠ 1 ∧ num (q.take 1) ≠ 2 then .inl 5 else
  if q.length < 3 then .inl 2 else
  if num (q.take 1) = 2 then .inr (⟨true, num ((q.drop 1).take 2), ⟨#[]⟩⟩, q.drop 3) else
  if q.length < 3 + z then .inl 2 else .inr (⟨false, num ((q.drop 1).take 2), ⟨((q.drop 3).take z).toArray⟩⟩, q.drop (3 + z))

set_option maxRecDepth 100000 in
set_option maxHeartbeats 1000000 in
theorem number_short (R : Nat) (l : List UInt8) (p k : Nat) (w : World) (hr : Rd w R l p) (hp : p ≤ l.length) (hl : l.length ≤ 4611686018427387904) (hn : l.length < p + k) (hk : k ≤ 4) :
    Calls Try.prog 123 #[.pointer (some ⟨R, 0, none⟩), .int .i64 k] w fun e w' => e = .panicked (gave 2) ∧ w.grownBy w' none := by
  have HT : Hid (∀ u : Unit, Calls Try.prog 135 #[.pointer (some ⟨R, 0, none⟩), .int .i64 k] w fun e w' => e = .panicked (gave 2) ∧ w.grownBy w' none) := fun _ => take_short R l p k w hr hp hl (by omega) (by omega) (by omega)
  go_enter Try.func123, Try.ntmps123
  go_wp2_with (go_at_call 135; refine (HT.out ()).mono ?_; rintro e w1 ⟨rfl, hg1⟩)
  exact ⟨rfl, rfl, hg1⟩

theorem Rd.alloc {A : World} {R : Nat} {l : List UInt8} {p : Nat} (h : Rd A R l p) (o : Obj) : Rd (A.alloc o) R l p := (Below.heap_alloc A o R h.lt).trans h
theorem gfresh {A B : World} {row : Option Nat} (h : A.grownBy B row) {k o : Nat} {v : Value} (hk : A.heap.size ≤ k) : A.grownBy (B.setCell ⟨k, o, none⟩ v) row :=
  ⟨h.os, h.tape, h.output, by simpa using h.size, fun j hj hne => (Below.heap_setCell _ _ _ j (by show j ≠ k; omega)).trans (h.block j hj hne)⟩
theorem gallocR {A B : World} {row : Option Nat} (h : A.grownBy B row) (o : Obj) : A.grownBy (B.alloc o) row := gtrans h (World.grownBy_alloc B o row)
theorem gdrewR {A B : World} {row : Option Nat} (h : A.grownBy B row) (n : Nat) : A.grownBy (B.drewN n) row := gtrans h (drew_grown B n row)
theorem Rd.set {A : World} {R : Nat} {l : List UInt8} {p : Nat} (h : Rd A R l p) {k o : Nat} {v : Value} (hk : R ≠ k) : Rd (A.setCell ⟨k, o, none⟩ v) R l p := (Below.heap_setCell _ _ _ R hk).trans h
/-- The box of the result, as it lay. -/
theorem resBox {w w1 w2 : World} {R : Nat} {cs : Array Value} {t : TypeId} (hR : R < w.heap.size) (h1 : (w.alloc (.cells cs t)).grownBy w1 (some R)) (h2 : w1.grownBy w2 (some R)) : w2.heap[w.heap.size]? = some (.cells cs t (0, 0)) ∧ w.heap.size < w2.heap.size := by
  have h := (gtrans h1 h2)
  have hs := h.size
  rw [World.size_alloc] at hs
  exact ⟨(h.block _ (by simp) (by simp; omega)).trans (World.alloc_heap_new _ _), by omega⟩
theorem galloc (A : World) (o : Obj) (row : Option Nat) : A.grownBy (A.alloc o) row := World.grownBy_alloc A o row

set_option maxRecDepth 100000 in
set_option maxHeartbeats 1000000 in
theorem rec_short1 (R : Nat) (l : List UInt8) (p z : Nat) (w : World) (hr : Rd w R l p) (hp : p ≤ l.length) (hl : l.length ≤ 4611686018427387904) (h1 : l.length < p + 1) :
    Calls Try.prog 137 #[.pointer (some ⟨R, 0, none⟩), .int .i64 z] w fun e w' => e = .panicked (gave 2) ∧ w.grownBy w' (some R) := by
  have HT : Hid (∀ W, Rd W R l p → _) := fun W h => number_short R l p 1 W h hp hl h1 (by omega)
  have HR : Hid (∀ o, Rd (w.alloc o) R l p) := fun o => hr.alloc o
  clear hr
  go_enter Try.func137, Try.ntmps137
  go_wp2_with (go_at_call 123; refine (HT.out _ (HR.out _)).mono ?_; rintro e w1 ⟨rfl, hg1⟩)
  exact ⟨rfl, rfl, gtrans (galloc _ _ _) (gnone hg1)⟩

set_option maxRecDepth 100000 in
set_option maxHeartbeats 400000 in
theorem rec_kind (R : Nat) (l : List UInt8) (p z : Nat) (w : World) (hr : Rd w R l p) (hl : l.length ≤ 4611686018427387904) (h1 : p + 1 ≤ l.length) (hk : num ((l.drop p).take 1) ≠ 1 ∧ num ((l.drop p).take 1) ≠ 2) :
    Calls Try.prog 137 #[.pointer (some ⟨R, 0, none⟩), .int .i64 z] w fun e w' => e = .panicked (gave 5) ∧ w.grownBy w' (some R) := by
  have HT : Hid (∀ W, Rd W R l p → _) := fun W h => number_ok R l p 1 W h hl h1 (by omega)
  have HR : Hid (∀ o, Rd (w.alloc o) R l p) := fun o => hr.alloc o
  clear hr
  generalize num ((l.drop p).take 1) = k at *
  have e1 : ((k : Int) != 1) = true := by simp; omega
  have e2 : ((k : Int) != 2) = true := by simp; omega
  clear hk
  go_enter Try.func137, Try.ntmps137
  go_wp2_with (go_at_call 123; refine (HT.out _ (HR.out _)).mono ?_; rintro e w1 ⟨rfl, hr1, hg1⟩; have HG : Hid _ := hg1; clear hr1 hg1)
  exact ⟨rfl, rfl, gtrans (galloc _ _ _) HG.out⟩

set_option maxRecDepth 100000 in
set_option maxHeartbeats 400000 in
theorem rec_short2 (R : Nat) (l : List UInt8) (p z : Nat) (w : World) (hr : Rd w R l p) (hl : l.length ≤ 4611686018427387904) (h1 : p + 1 ≤ l.length) (hk : ¬ (num ((l.drop p).take 1) ≠ 1 ∧ num ((l.drop p).take 1) ≠ 2)) (h2 : l.length < p + 3) :
    Calls Try.prog 137 #[.pointer (some ⟨R, 0, none⟩), .int .i64 z] w fun e w' => e = .panicked (gave 2) ∧ w.grownBy w' (some R) := by
  have HT : Hid (∀ W, Rd W R l p → _) := fun W h => number_ok R l p 1 W h hl h1 (by omega)
  have HR : Hid (∀ o, Rd (w.alloc o) R l p) := fun o => hr.alloc o
  clear hr
  generalize num ((l.drop p).take 1) = k at *
  have HS : Hid (∀ W, Rd W R l (p + 1) → _) := fun W h => number_short R l (p + 1) 2 W h h1 hl h2 (by omega)
  have hkk : k = 1 ∨ k = 2 := by omega
  clear hk
  obtain rfl | rfl := hkk
  · go_enter Try.func137, Try.ntmps137
    go_wp2_with fail
    refine (HT.out _ (HR.out _)).mono ?_
    rintro e w1 ⟨rfl, hr1, hg1⟩
    have HG : Hid _ := hg1
    have HR1 : Hid _ := hr1
    clear hg1 hr1
    go_wp2_with (go_at_call 123; refine (HS.out _ HR1.out).mono ?_; rintro e w2 ⟨rfl, hg2⟩)
    exact ⟨rfl, rfl, gtrans (galloc _ _ _) (gtrans HG.out (gnone hg2))⟩
  · go_enter Try.func137, Try.ntmps137
    go_wp2_with fail
    refine (HT.out _ (HR.out _)).mono ?_
    rintro e w1 ⟨rfl, hr1, hg1⟩
    have HG : Hid _ := hg1
    have HR1 : Hid _ := hr1
    clear hg1 hr1
    go_wp2_with (go_at_call 123; refine (HS.out _ HR1.out).mono ?_; rintro e w2 ⟨rfl, hg2⟩)
    exact ⟨rfl, rfl, gtrans (galloc _ _ _) (gtrans HG.out (gnone hg2))⟩

set_option maxRecDepth 100000 in
set_option maxHeartbeats 1000000 in
theorem rec_free (R : Nat) (l : List UInt8) (p z : Nat) (w : World) (hr : Rd w R l p) (hl : l.length ≤ 4611686018427387904) (hk : num ((l.drop p).take 1) = 2) (h2 : p + 3 ≤ l.length) :
    Calls Try.prog 137 #[.pointer (some ⟨R, 0, none⟩), .int .i64 z] w fun e w' => e = .returned (.agg #[.bool true, .int .i64 (num ((l.drop (p + 1)).take 2) : Nat), .string ⟨#[]⟩]) ∧ Rd w' R l (p + 3) ∧ w.grownBy w' (some R) := by
  have HT : Hid (∀ W, Rd W R l p → _) := fun W h => number_ok R l p 1 W h hl (by omega) (by omega)
  have HR : Hid (∀ o, Rd (w.alloc o) R l p) := fun o => hr.alloc o
  have HL : Hid (R < w.heap.size) := hr.lt
  clear hr
  have HS : Hid (∀ W, Rd W R l (p + 1) → _) := fun W h => number_ok R l (p + 1) 2 W h hl h2 (by omega)
  rw [hk] at HT
  clear hk
  have hn := num_lt ((l.drop (p + 1)).take 2)
  have hn2 : ((l.drop (p + 1)).take 2).length = 2 := by simp; omega
  rw [hn2] at hn
  generalize num ((l.drop (p + 1)).take 2) = n at *
  clear hn2
  go_enter Try.func137, Try.ntmps137
  go_wp2_with fail
  refine (HT.out _ (HR.out _)).mono ?_
  rintro e w1 ⟨rfl, hr1, hg1⟩
  have HG : Hid _ := hg1
  have HR1 : Hid _ := hr1
  clear hg1 hr1
  go_wp2_with (go_at_call 123; refine (HS.out _ HR1.out).mono ?_; rintro e w2 ⟨rfl, hr2, hg2⟩; have HR2 : Hid _ := hr2; have HG2 : Hid _ := hg2; clear hr2 hg2; obtain ⟨hb, hlt⟩ := resBox HL.out HG.out HG2.out; have c0 := boxed_cell (i := 0) hb rfl; have c1 := boxed_cell (i := 1) hb rfl; have c2 := boxed_cell (i := 2) hb rfl; have f0 := boxed_frozen (i := 0) hb; have f1 := boxed_frozen (i := 1) hb; have f2 := boxed_frozen (i := 2) hb; clear hb)
  refine bodyPost_ret (v := .agg #[.bool true, .int .i64 n, .string ⟨#[]⟩]) (by simp [results, Try.results137, go_sem, c0, c1, c2, hlt]) rfl ?_
  exact ⟨rfl, (((Rd.set HR2.out (by have := HL.out; omega)).set (by have := HL.out; omega)).set (by have := HL.out; omega)).alloc _, gallocR (gfresh (gfresh (gfresh (gtrans (gtrans (galloc _ _ _) HG.out) HG2.out) (Nat.le_refl _)) (Nat.le_refl _)) (Nat.le_refl _)) _⟩

set_option maxRecDepth 100000 in
set_option maxHeartbeats 1000000 in
theorem rec_short3 (R : Nat) (l : List UInt8) (p z : Nat) (w : World) (hr : Rd w R l p) (hl : l.length ≤ 4611686018427387904) (hk : num ((l.drop p).take 1) = 1) (h2 : p + 3 ≤ l.length) (h3 : l.length < p + 3 + z) (hz : z ≤ 1000000) :
    Calls Try.prog 137 #[.pointer (some ⟨R, 0, none⟩), .int .i64 z] w fun e w' => e = .panicked (gave 2) ∧ w.grownBy w' (some R) := by
  have HT : Hid (∀ W, Rd W R l p → _) := fun W h => number_ok R l p 1 W h hl (by omega) (by omega)
  have HR : Hid (∀ o, Rd (w.alloc o) R l p) := fun o => hr.alloc o
  clear hr
  have HS : Hid (∀ W, Rd W R l (p + 1) → _) := fun W h => number_ok R l (p + 1) 2 W h hl h2 (by omega)
  have HU : Hid (∀ W, Rd W R l (p + 3) → _) := fun W h => take_short R l (p + 3) z W h h2 hl (by omega) (by omega) (by omega)
  rw [hk] at HT
  clear hk
  have hn := num_lt ((l.drop (p + 1)).take 2)
  have hn2 : ((l.drop (p + 1)).take 2).length = 2 := by simp; omega
  rw [hn2] at hn
  generalize num ((l.drop (p + 1)).take 2) = n at *
  clear hn2
  go_enter Try.func137, Try.ntmps137
  go_wp2_with fail
  refine (HT.out _ (HR.out _)).mono ?_
  rintro e w1 ⟨rfl, hr1, hg1⟩
  have HG : Hid _ := hg1
  have HR1 : Hid _ := hr1
  clear hg1 hr1
  go_wp2_with (go_at_call 123; refine (HS.out _ HR1.out).mono ?_; rintro e w2 ⟨rfl, hr2, hg2⟩; have HR2 : Hid _ := hr2; have HG2 : Hid _ := hg2; clear hr2 hg2)
  refine (HU.out _ (Rd.alloc HR2.out _)).mono ?_
  rintro e w3 ⟨rfl, hg3⟩
  exact ⟨rfl, rfl, gtrans (gallocR (gtrans (gtrans (galloc _ _ _) HG.out) HG2.out) _) (gnone hg3)⟩

set_option maxRecDepth 100000 in
set_option maxHeartbeats 1000000 in
theorem rec_full (R : Nat) (l : List UInt8) (p z : Nat) (w : World) (hr : Rd w R l p) (hl : l.length ≤ 4611686018427387904) (hk : num ((l.drop p).take 1) = 1) (h3 : p + 3 + z ≤ l.length) (hz : z ≤ 100000) :
    Calls Try.prog 137 #[.pointer (some ⟨R, 0, none⟩), .int .i64 z] w fun e w' => e = .returned (.agg #[.bool false, .int .i64 (num ((l.drop (p + 1)).take 2) : Nat), .string ⟨((l.drop (p + 3)).take z).toArray⟩]) ∧ Rd w' R l (p + 3 + z) ∧ w.grownBy w' (some R) := by
  have HT : Hid (∀ W, Rd W R l p → _) := fun W h => number_ok R l p 1 W h hl (by omega) (by omega)
  have HR : Hid (∀ o, Rd (w.alloc o) R l p) := fun o => hr.alloc o
  have HL : Hid (R < w.heap.size) := hr.lt
  clear hr
  have HS : Hid (∀ W, Rd W R l (p + 1) → _) := fun W h => number_ok R l (p + 1) 2 W h hl (by omega) (by omega)
  have HU : Hid (∀ W, Rd W R l (p + 3) → _) := fun W h => take_ok R l (p + 3) z W h hl h3
  have hdl : ((l.drop (p + 3)).take z).length ≤ 100000 := by simp; omega
  have HC : Hid (∀ W, _) := fun W => clone_any ⟨((l.drop (p + 3)).take z).toArray⟩ W (by simpa [ByteArray.size] using hdl)
  rw [hk] at HT
  clear hk hdl
  have hn := num_lt ((l.drop (p + 1)).take 2)
  have hn2 : ((l.drop (p + 1)).take 2).length = 2 := by simp; omega
  rw [hn2] at hn
  generalize num ((l.drop (p + 1)).take 2) = n at *
  generalize ((l.drop (p + 3)).take z) = d at *
  clear hn2
  go_enter Try.func137, Try.ntmps137
  go_wp2_with fail
  refine (HT.out _ (HR.out _)).mono ?_
  rintro e w1 ⟨rfl, hr1, hg1⟩
  have HG : Hid _ := hg1
  have HR1 : Hid _ := hr1
  clear hg1 hr1
  go_wp2_with (go_at_call 123; refine (HS.out _ HR1.out).mono ?_; rintro e w2 ⟨rfl, hr2, hg2⟩; have HR2 : Hid _ := hr2; have HG2 : Hid _ := hg2; clear hr2 hg2)
  refine (HU.out _ (Rd.alloc HR2.out _)).mono ?_
  rintro e w3 ⟨rfl, hr3, hg3⟩
  have HR3 : Hid _ := hr3
  have HG3 : Hid _ := hg3
  clear hr3 hg3
  go_wp2_with fail
  refine (HC.out _).mono ?_
  rintro e w4 ⟨rfl, hb4⟩
  have HG4 : Hid _ := hb4
  clear hb4
  obtain ⟨hb, hlt⟩ := resBox HL.out HG.out (gtrans HG2.out (gtrans (galloc _ _ _) (gtrans HG3.out (gbelow HG4.out))))
  obtain ⟨-, hlt2⟩ := resBox HL.out HG.out HG2.out
  obtain ⟨hr, hltr⟩ := resBox (Nat.lt_trans HL.out hlt2) HG3.out (gbelow HG4.out)
  have c0 := boxed_cell (i := 0) hb rfl
  have c1 := boxed_cell (i := 1) hb rfl
  have c2 := boxed_cell (i := 2) hb rfl
  have f0 := boxed_frozen (i := 0) hb
  have f1 := boxed_frozen (i := 1) hb
  have f2 := boxed_frozen (i := 2) hb
  have d0 := boxed_cell (i := 0) hr rfl
  have d1 := boxed_cell (i := 1) hr rfl
  have d2 := boxed_cell (i := 2) hr rfl
  have g2 := boxed_frozen (i := 2) hr
  clear hb hr
  go_wp2
  refine bodyPost_ret (v := .agg #[.bool false, .int .i64 n, .string ⟨d.toArray⟩]) (by simp [results, Try.results137, go_sem, c0, c1, c2]) rfl ?_
  have hs := HL.out
  exact ⟨rfl, Rd.set (Rd.set (Rd.set (Rd.set (Rd.kept HR3.out (gbelow HG4.out)) (by omega)) (by omega)) (by omega)) (by omega), gfresh (gfresh (gfresh (gfresh (gtrans (gtrans (gallocR (gtrans (gtrans (galloc _ _ _) HG.out) HG2.out) _) HG3.out) (gbelow HG4.out)) (by omega)) (Nat.le_refl _)) (Nat.le_refl _)) (Nat.le_refl _)⟩

/-- **record**, whatever lies there. -/
theorem precord (R : Nat) (l : List UInt8) (p z : Nat) (w : World) (hr : Rd w R l p) (hp : p ≤ l.length) (hl : l.length ≤ 4611686018427387904) (hz : z ≤ 64) :
    Calls Try.prog 137 #[.pointer (some ⟨R, 0, none⟩), .int .i64 z] w fun e w' => w.grownBy w' (some R) ∧
      ((∃ k, rdRec z (l.drop p) = .inl k ∧ e = .panicked (gave k)) ∨
       (∃ r q p', rdRec z (l.drop p) = .inr (r, q) ∧ e = .returned r.val ∧ Rd w' R l p' ∧ p' ≤ l.length ∧ l.drop p' = q)) := by
  have hdl : (l.drop p).length = l.length - p := by simp
  unfold rdRec
  rw [hdl]
  simp only [List.drop_drop]
  by_cases h1 : l.length - p < 1
  · rw [if_pos h1]
    refine (rec_short1 R l p z w hr hp hl (by omega)).mono ?_
    rintro e w' ⟨rfl, hg⟩
    exact ⟨hg, .inl ⟨_, rfl, rfl⟩⟩
  rw [if_neg h1]
  by_cases hk : num ((l.drop p).take 1) ≠ 1 ∧ num ((l.drop p).take 1) ≠ 2
  · rw [if_pos hk]
    refine (rec_kind R l p z w hr hl (by omega) hk).mono ?_
    rintro e w' ⟨rfl, hg⟩
    exact ⟨hg, .inl ⟨_, rfl, rfl⟩⟩
  rw [if_neg hk]
  by_cases h2 : l.length - p < 3
  · rw [if_pos h2]
    refine (rec_short2 R l p z w hr hl (by omega) hk (by omega)).mono ?_
    rintro e w' ⟨rfl, hg⟩
    exact ⟨hg, .inl ⟨_, rfl, rfl⟩⟩
  rw [if_neg h2]
  by_cases h3 : num ((l.drop p).take 1) = 2
  · rw [if_pos h3]
    refine (rec_free R l p z w hr hl h3 (by omega)).mono ?_
    rintro e w' ⟨rfl, hr', hg⟩
    exact ⟨hg, .inr ⟨_, _, p + 3, rfl, rfl, hr', by omega, rfl⟩⟩
  rw [if_neg h3]
  have h31 : num ((l.drop p).take 1) = 1 := by omega
  by_cases h4 : l.length - p < 3 + z
  · rw [if_pos h4]
    refine (rec_short3 R l p z w hr hl h31 (by omega) (by omega) (by omega)).mono ?_
    rintro e w' ⟨rfl, hg⟩
    exact ⟨hg, .inl ⟨_, rfl, rfl⟩⟩
  rw [if_neg h4]
  refine (rec_full R l p z w hr hl h31 (by omega) (by omega)).mono ?_
  rintro e w' ⟨rfl, hr', hg⟩
  exact ⟨hg, .inr ⟨_, _, p + 3 + z, rfl, rfl, hr', by omega, by rw [Nat.add_assoc]⟩⟩
end Go.Proofs.Ytkmeingnhaomaaa
