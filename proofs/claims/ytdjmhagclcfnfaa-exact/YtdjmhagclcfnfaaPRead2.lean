/- The program's reader: a record. -/
import Derived.Test.YtdjmhagclcfnfaaPRead
namespace Go.Proofs.Ytdjmhagclcfnfaa
open Go.RowKit Go.Shelf

/-- A record at the front of q, of blocks of z bytes: the error, or it and what is behind it. -/
def rdRec (z : Nat) (q : List UInt8) : Int ⊕ (Rc × List UInt8) :=
  if q.length < 1 then .inl 2 else
  if num (q.take 1) ≠ 1 ∧ num (q.take 1) ≠ 2 then .inl 5 else
  if q.length < 3 then .inl 2 else
  if num (q.take 1) = 2 then .inr (⟨true, num ((q.drop 1).take 2), ⟨#[]⟩⟩, q.drop 3) else
  if q.length < 3 + z then .inl 2 else .inr (⟨false, num ((q.drop 1).take 2), ⟨((q.drop 3).take z).toArray⟩⟩, q.drop (3 + z))

set_option maxRecDepth 100000 in
set_option maxHeartbeats 1000000 in
theorem number_short (R : Nat) (l : List UInt8) (p k : Nat) (w : World) (hr : Rd w R l p) (hp : p ≤ l.length) (hl : l.length ≤ 4611686018427387904) (hn : l.length < p + k) (hk : k ≤ 4) :
    Calls Try.prog 129 #[.pointer (some ⟨R, 0, none⟩), .int .i64 k] w fun e w' => e = .panicked (gave 2) ∧ w.grownBy w' none := by
  have HT : Hid (∀ u : Unit, Calls Try.prog 141 #[.pointer (some ⟨R, 0, none⟩), .int .i64 k] w fun e w' => e = .panicked (gave 2) ∧ w.grownBy w' none) := fun _ => take_short R l p k w hr hp hl (by omega) (by omega) (by omega)
  go_enter Try.func129, Try.ntmps129
  go_wp2_with (go_at_call 141; refine (HT.out ()).mono ?_; rintro e w1 ⟨rfl, hg1⟩)
  exact ⟨rfl, rfl, hg1⟩

theorem Rd.alloc {A : World} {R : Nat} {l : List UInt8} {p : Nat} (h : Rd A R l p) (o : Obj) : Rd (A.alloc o) R l p := h.of (Below.heap_alloc A o R h.lt) (Below.heap_alloc A o (R - 1) (by have := h.lt; omega))
theorem gfresh {A B : World} {row : Option Nat} (h : A.grownBy B row) {k o : Nat} {v : Value} (hk : A.heap.size ≤ k) : A.grownBy (B.setCell ⟨k, o, none⟩ v) row :=
  ⟨h.os, h.tape, h.output, by simpa using h.size, fun j hj hne => (Below.heap_setCell _ _ _ j (by show j ≠ k; omega)).trans (h.block j hj hne)⟩
theorem gallocR {A B : World} {row : Option Nat} (h : A.grownBy B row) (o : Obj) : A.grownBy (B.alloc o) row := gtrans h (World.grownBy_alloc B o row)
theorem gdrewR {A B : World} {row : Option Nat} (h : A.grownBy B row) (n : Nat) : A.grownBy (B.drewN n) row := gtrans h (drew_grown B n row)
theorem Rd.set {A : World} {R : Nat} {l : List UInt8} {p : Nat} (h : Rd A R l p) {k o : Nat} {v : Value} (hk : R < k) : Rd (A.setCell ⟨k, o, none⟩ v) R l p := h.of (Below.heap_setCell _ _ _ R (by show R ≠ k; omega)) (Below.heap_setCell _ _ _ (R - 1) (by show R - 1 ≠ k; omega))
/-- The box of the result, as it lay. -/
theorem resBox {w w1 w2 : World} {R : Nat} {cs : Array Value} {t : TypeId} (hR : R < w.heap.size) (h1 : (w.alloc (.cells cs t)).grownBy w1 (some R)) (h2 : w1.grownBy w2 (some R)) : w2.heap[w.heap.size]? = some (.cells cs t (0, 0)) ∧ w.heap.size < w2.heap.size := by
  have h := (gtrans h1 h2)
  have hs := h.size
  rw [World.size_alloc] at hs
  exact ⟨(h.block _ (by simp) (by simp; omega)).trans (World.alloc_heap_new _ _), by omega⟩
theorem galloc (A : World) (o : Obj) (row : Option Nat) : A.grownBy (A.alloc o) row := World.grownBy_alloc A o row

theorem unDrew {w w' : World} (h : Below w.drew.heap.size w.drew w') : Below w.heap.size w w' := ⟨h.os, h.tape, h.output, h.size, h.block⟩
theorem pnum_at (s : ByteArray) (bs : List UInt8) (w : World) (h : s.data.toList = bs) (hk : bs.length ≤ 4) : Calls Try.prog 152 #[.string s] w fun e w' => e = .returned (.int .u32 (num bs : Nat)) ∧ w' = w := by
  have e : s = ⟨bs.toArray⟩ := by
    apply ByteArray.ext
    rw [← h]
  rw [e]
  exact pnum_any bs w hk
theorem clone_at (s : ByteArray) (d : List UInt8) (w : World) (h : s.data.toList = d) (hs : d.length ≤ 100000) : Calls Try.prog 92 #[.string s] w fun e w' => e = .returned (.string ⟨d.toArray⟩) ∧ Below w.heap.size w w' := by
  have e : s = ⟨d.toArray⟩ := by
    apply ByteArray.ext
    rw [← h]
  rw [e]
  exact clone_any ⟨d.toArray⟩ w (by simpa [ByteArray.size] using hs)

set_option maxRecDepth 100000 in
set_option maxHeartbeats 1000000 in
theorem rec_short1 (R : Nat) (l : List UInt8) (p z : Nat) (w : World) (hr : Rd w R l p) (hp : p ≤ l.length) (hl : l.length ≤ 4611686018427387904) (h1 : l.length < p + 1) :
    Calls Try.prog 143 #[.pointer (some ⟨R, 0, none⟩), .int .i64 z] w fun e w' => e = .panicked (gave 2) ∧ w.grownBy w' (some R) := by
  have HT : Hid (∀ W, Rd W R l p → _) := fun W h => number_short R l p 1 W h hp hl h1 (by omega)
  have HR : Hid (∀ o, Rd (w.alloc o) R l p) := fun o => hr.alloc o
  clear hr
  go_enter Try.func143, Try.ntmps143
  go_wp2_with (go_at_call 129; refine (HT.out _ (HR.out _)).mono ?_; rintro e w1 ⟨rfl, hg1⟩)
  exact ⟨rfl, rfl, gtrans (galloc _ _ _) (gnone hg1)⟩

set_option maxRecDepth 100000 in
set_option maxHeartbeats 400000 in
theorem rec_kind (R : Nat) (l : List UInt8) (p z : Nat) (w : World) (hr : Rd w R l p) (hl : l.length ≤ 4611686018427387904) (h1 : p + 1 ≤ l.length) (hk : num ((l.drop p).take 1) ≠ 1 ∧ num ((l.drop p).take 1) ≠ 2) :
    Calls Try.prog 143 #[.pointer (some ⟨R, 0, none⟩), .int .i64 z] w fun e w' => e = .panicked (gave 5) ∧ w.grownBy w' (some R) := by
  have HT : Hid (∀ W, Rd W R l p → _) := fun W h => number_ok R l p 1 W h hl h1 (by omega)
  have HR : Hid (∀ o, Rd (w.alloc o) R l p) := fun o => hr.alloc o
  clear hr
  generalize num ((l.drop p).take 1) = k at *
  have e1 : ((k : Int) == 1) = false := by simp; omega
  have e2 : ((k : Int) == 2) = false := by simp; omega
  clear hk
  go_enter Try.func143, Try.ntmps143
  go_wp2_with (go_at_call 129; refine (HT.out _ (HR.out _)).mono ?_; rintro e w1 ⟨rfl, hr1, hg1⟩; have HG : Hid _ := hg1; clear hr1 hg1)
  exact ⟨rfl, rfl, gtrans (galloc _ _ _) HG.out⟩

set_option maxRecDepth 100000 in
set_option maxHeartbeats 400000 in
/-- .. too short behind a 2. -/
theorem rec_short2 (R : Nat) (l : List UInt8) (p z : Nat) (w : World) (hr : Rd w R l p) (hl : l.length ≤ 4611686018427387904) (h1 : p + 1 ≤ l.length) (hk : num ((l.drop p).take 1) = 2) (h2 : l.length < p + 3) :
    Calls Try.prog 143 #[.pointer (some ⟨R, 0, none⟩), .int .i64 z] w fun e w' => e = .panicked (gave 2) ∧ w.grownBy w' (some R) := by
  have HT : Hid (∀ W, Rd W R l p → _) := fun W h => number_ok R l p 1 W h hl h1 (by omega)
  have HR : Hid (∀ o, Rd (w.alloc o) R l p) := fun o => hr.alloc o
  clear hr
  rw [hk] at HT
  have HS : Hid (∀ W, Rd W R l (p + 1) → _) := fun W h => number_short R l (p + 1) 2 W h h1 hl h2 (by omega)
  clear hk
  go_enter Try.func143, Try.ntmps143
  go_wp2_with fail
  refine (HT.out _ (HR.out _)).mono ?_
  rintro e w1 ⟨rfl, hr1, hg1⟩
  have HG : Hid _ := hg1
  have HR1 : Hid _ := hr1
  clear hg1 hr1
  go_wp2_with (go_at_call 129; refine (HS.out _ HR1.out).mono ?_; rintro e w2 ⟨rfl, hg2⟩)
  exact ⟨rfl, rfl, gtrans (galloc _ _ _) (gtrans HG.out (gnone hg2))⟩

set_option maxRecDepth 100000 in
set_option maxHeartbeats 1000000 in
theorem rec_free (R : Nat) (l : List UInt8) (p z : Nat) (w : World) (hr : Rd w R l p) (hl : l.length ≤ 4611686018427387904) (hk : num ((l.drop p).take 1) = 2) (h2 : p + 3 ≤ l.length) :
    Calls Try.prog 143 #[.pointer (some ⟨R, 0, none⟩), .int .i64 z] w fun e w' => e = .returned (.agg #[.bool true, .int .i64 (num ((l.drop (p + 1)).take 2) : Nat), .string ⟨#[]⟩]) ∧ Rd w' R l (p + 3) ∧ w.grownBy w' (some R) := by
  have HT : Hid (∀ W, Rd W R l p → _) := fun W h => number_ok R l p 1 W h hl (by omega) (by omega)
  have HR : Hid (∀ o, Rd (w.alloc o) R l p) := fun o => hr.alloc o
  have HL : Hid (R < w.heap.size) := hr.lt
  clear hr
  have HS : Hid (∀ W, Rd W R l (p + 1) → _) := fun W h => number_ok R l (p + 1) 2 W h hl h2 (by omega)
  rw [hk] at HT
  clear hk
  have hn := num_lt ((l.drop (p + 1)).take 2)
  have hn2 : ((l.drop (p + 1)).take 2).length = 2 := by simp; omega
  rw [hn2] at hn
  generalize num ((l.drop (p + 1)).take 2) = n at *
  clear hn2
  go_enter Try.func143, Try.ntmps143
  go_wp2_with fail
  refine (HT.out _ (HR.out _)).mono ?_
  rintro e w1 ⟨rfl, hr1, hg1⟩
  have HG : Hid _ := hg1
  have HR1 : Hid _ := hr1
  clear hg1 hr1
  go_wp2_with (go_at_call 129; refine (HS.out _ HR1.out).mono ?_; rintro e w2 ⟨rfl, hr2, hg2⟩; have HR2 : Hid _ := hr2; have HG2 : Hid _ := hg2; clear hr2 hg2; obtain ⟨hb, hlt⟩ := resBox HL.out HG.out HG2.out; have c0 := boxed_cell (i := 0) hb rfl; have c1 := boxed_cell (i := 1) hb rfl; have c2 := boxed_cell (i := 2) hb rfl; have f0 := boxed_frozen (i := 0) hb; have f1 := boxed_frozen (i := 1) hb; have f2 := boxed_frozen (i := 2) hb; clear hb)
  refine bodyPost_ret (v := .agg #[.bool true, .int .i64 n, .string ⟨#[]⟩]) (by simp [results, Try.results143, go_sem, c0, c1, c2]) rfl ?_
  exact ⟨rfl, (((Rd.set HR2.out (by have := HL.out; omega)).set (by have := HL.out; omega)).set (by have := HL.out; omega)), (gfresh (gfresh (gfresh (gtrans (gtrans (galloc _ _ _) HG.out) HG2.out) (Nat.le_refl _)) (Nat.le_refl _)) (Nat.le_refl _))⟩

set_option maxRecDepth 100000 in
set_option maxHeartbeats 1000000 in
theorem rec_short3 (R : Nat) (l : List UInt8) (p z : Nat) (w : World) (hr : Rd w R l p) (hl : l.length ≤ 4611686018427387904) (hk : num ((l.drop p).take 1) = 1) (h2 : p + 1 ≤ l.length) (h3 : l.length < p + 3 + z) (hz : z ≤ 1000) :
    Calls Try.prog 143 #[.pointer (some ⟨R, 0, none⟩), .int .i64 z] w fun e w' => e = .panicked (gave 2) ∧ w.grownBy w' (some R) := by
  have HT : Hid (∀ W, Rd W R l p → _) := fun W h => number_ok R l p 1 W h hl (by omega) (by omega)
  have HR : Hid (∀ o, Rd (w.alloc o) R l p) := fun o => hr.alloc o
  clear hr
  have HU : Hid (∀ W, Rd W R l (p + 1) → _) := fun W h => take_short R l (p + 1) (2 + z) W h h2 hl (by omega) (by omega) (by omega)
  rw [hk] at HT
  clear hk
  go_enter Try.func143, Try.ntmps143
  go_wp2_with fail
  refine (HT.out _ (HR.out _)).mono ?_
  rintro e w1 ⟨rfl, hr1, hg1⟩
  have HG : Hid _ := hg1
  have HR1 : Hid _ := hr1
  clear hg1 hr1
  go_wp2_with fail
  refine (HU.out _ HR1.out).mono ?_
  rintro e w3 ⟨rfl, hg3⟩
  exact ⟨rfl, rfl, gtrans (gtrans (galloc _ _ _) HG.out) (gnone hg3)⟩

set_option maxRecDepth 100000 in
set_option maxHeartbeats 1000000 in
theorem rec_full (R : Nat) (l : List UInt8) (p z : Nat) (w : World) (hr : Rd w R l p) (hl : l.length ≤ 4611686018427387904) (hk : num ((l.drop p).take 1) = 1) (h3 : p + 3 + z ≤ l.length) (hz : z ≤ 1000) :
    Calls Try.prog 143 #[.pointer (some ⟨R, 0, none⟩), .int .i64 z] w fun e w' => e = .returned (.agg #[.bool false, .int .i64 (num ((l.drop (p + 1)).take 2) : Nat), .string ⟨((l.drop (p + 3)).take z).toArray⟩]) ∧ Rd w' R l (p + 3 + z) ∧ w.grownBy w' (some R) := by
  have HT : Hid (∀ W, Rd W R l p → _) := fun W h => number_ok R l p 1 W h hl (by omega) (by omega)
  have HR : Hid (∀ o, Rd (w.alloc o) R l p) := fun o => hr.alloc o
  have HL : Hid (R < w.heap.size) := hr.lt
  clear hr
  have HU : Hid (∀ W, Rd W R l (p + 1) → _) := fun W h => take_ok R l (p + 1) (2 + z) W h hl (by omega) (by omega)
  have hsp : (l.drop (p + 1)).take (2 + z) = (l.drop (p + 1)).take 2 ++ (l.drop (p + 3)).take z := by
    rw [List.take_add, List.drop_drop]
  have hl2 : ((l.drop (p + 1)).take 2).length = 2 := by simp; omega
  have hdl : ((l.drop (p + 3)).take z).length = z := by simp; omega
  have hn := num_lt ((l.drop (p + 1)).take 2)
  rw [hl2] at hn
  rw [hk] at HT
  clear hk
  have hrl : ((l.drop (p + 1)).take (2 + z)).length = 2 + z := by simp; omega
  have hq2 : ((l.drop (p + 1)).take (2 + z)).take 2 = (l.drop (p + 1)).take 2 := by rw [List.take_take]; congr 1; omega
  have hd2 : ((l.drop (p + 1)).take (2 + z)).drop 2 = (l.drop (p + 3)).take z := by rw [hsp, List.drop_left' hl2]
  clear hsp
  generalize (l.drop (p + 1)).take (2 + z) = rest at *
  generalize (l.drop (p + 1)).take 2 = q at *
  generalize (l.drop (p + 3)).take z = d at *
  have hle : (2 : Int) ≤ (rest.length : Int) := by omega
  have hle2 : 2 ≤ rest.length := by omega
  have hle3 : rest.length ≤ 10000 := by omega
  have HN : Hid (∀ (s : ByteArray) (W : World), s.data.toList = q → _) := fun s W h => pnum_at s q W h (by omega)
  have HC : Hid (∀ (s : ByteArray) (W : World), s.data.toList = d → _) := fun s W h => clone_at s d W h (by omega)
  have HQ : Hid (∀ s : ByteArray, s.data.toList = rest.take 2 → s.data.toList = q) := fun s h => by rw [h, hq2]
  have HD : Hid (∀ s : ByteArray, s.data.toList = rest.drop 2 → s.data.toList = d) := fun s h => by rw [h, hd2]
  clear hq2 hd2 hrl
  generalize num q = n at *
  have en : IntKind.i64.wrap (n : Int) = n := by rw [IntKind.wrap_i64]; omega
  go_enter Try.func143, Try.ntmps143
  go_wp2_with fail
  refine (HT.out _ (HR.out _)).mono ?_
  rintro e w1 ⟨rfl, hr1, hg1⟩
  have HG : Hid _ := hg1
  have HR1 : Hid _ := hr1
  clear hg1 hr1
  go_wp2_with fail
  refine (HU.out _ HR1.out).mono ?_
  rintro e w2 ⟨rfl, hr2, hg2⟩
  have HR2 : Hid (Rd w2 R l (p + 1 + (2 + z))) := hr2
  have HG2 : Hid _ := hg2
  clear hr2 hg2
  have HX : Hid (∀ w4 : World, Below w2.heap.size w2 w4 → w4.heap[w.heap.size]? = some (.cells #[.bool false, .int .i64 0, .string ⟨#[]⟩] 34 (0, 0))) := fun w4 h => (resBox HL.out HG.out (gtrans HG2.out (gbelow h))).1
  go_wp2
  go_region_held3 (fun w' => True) (exact trivial)
    (first | (go_at_call 152; refine (HN.out _ _ (HQ.out _ ?_)).mono ?_; (rw [Lib.extract_data]; simp); rintro e w3 ⟨rfl, rfl⟩) | (go_at_call 92; refine (HC.out _ _ (HD.out _ ?_)).mono ?_; (rw [Lib.extract_data]; simp; exact List.take_of_length_le (by simp)); rintro e w4 ⟨rfl, hb4⟩; replace hb4 := unDrew hb4; have hb := HX.out w4 hb4; have c0 := boxed_cell (i := 0) hb rfl; have c1 := boxed_cell (i := 1) hb rfl; have c2 := boxed_cell (i := 2) hb rfl; have f0 := boxed_frozen (i := 0) hb; have f1 := boxed_frozen (i := 1) hb; have f2 := boxed_frozen (i := 2) hb; clear hb))
  go_wp2
  refine bodyPost_ret (v := .agg #[.bool false, .int .i64 n, .string ⟨d.toArray⟩]) (by simp [results, Try.results143, go_sem, c0, c1, c2]) rfl ?_
  have hs := HL.out
  have hR3 : Rd w4 R l (p + 1 + (2 + z)) := HR2.out.kept (gbelow hb4)
  rw [show p + 1 + (2 + z) = p + 3 + z from by omega] at hR3
  exact ⟨rfl, Rd.set (Rd.set (Rd.set hR3 (by omega)) (by omega)) (by omega), gfresh (gfresh (gfresh (gtrans (gtrans (gtrans (galloc _ _ _) HG.out) HG2.out) (gbelow hb4)) (Nat.le_refl _)) (Nat.le_refl _)) (Nat.le_refl _)⟩

/-- **record**, whatever lies there. -/
theorem precord (R : Nat) (l : List UInt8) (p z : Nat) (w : World) (hr : Rd w R l p) (hp : p ≤ l.length) (hl : l.length ≤ 4611686018427387904) (hz : z ≤ 64) :
    Calls Try.prog 143 #[.pointer (some ⟨R, 0, none⟩), .int .i64 z] w fun e w' => w.grownBy w' (some R) ∧
      ((∃ k, rdRec z (l.drop p) = .inl k ∧ e = .panicked (gave k)) ∨
       (∃ r q p', rdRec z (l.drop p) = .inr (r, q) ∧ e = .returned r.val ∧ Rd w' R l p' ∧ p' ≤ l.length ∧ l.drop p' = q)) := by
  have hdl : (l.drop p).length = l.length - p := by simp
  unfold rdRec
  rw [hdl]
  simp only [List.drop_drop]
  by_cases h1 : l.length - p < 1
  · rw [if_pos h1]
    refine (rec_short1 R l p z w hr hp hl (by omega)).mono ?_
    rintro e w' ⟨rfl, hg⟩
    exact ⟨hg, .inl ⟨_, rfl, rfl⟩⟩
  rw [if_neg h1]
  by_cases hk : num ((l.drop p).take 1) ≠ 1 ∧ num ((l.drop p).take 1) ≠ 2
  · rw [if_pos hk]
    refine (rec_kind R l p z w hr hl (by omega) hk).mono ?_
    rintro e w' ⟨rfl, hg⟩
    exact ⟨hg, .inl ⟨_, rfl, rfl⟩⟩
  rw [if_neg hk]
  by_cases h2 : l.length - p < 3
  · rw [if_pos h2]
    by_cases h3 : num ((l.drop p).take 1) = 2
    · refine (rec_short2 R l p z w hr hl (by omega) h3 (by omega)).mono ?_
      rintro e w' ⟨rfl, hg⟩
      exact ⟨hg, .inl ⟨_, rfl, rfl⟩⟩
    · refine (rec_short3 R l p z w hr hl (by omega) (by omega) (by omega) (by omega)).mono ?_
      rintro e w' ⟨rfl, hg⟩
      exact ⟨hg, .inl ⟨_, rfl, rfl⟩⟩
  rw [if_neg h2]
  by_cases h3 : num ((l.drop p).take 1) = 2
  · rw [if_pos h3]
    refine (rec_free R l p z w hr hl h3 (by omega)).mono ?_
    rintro e w' ⟨rfl, hr', hg⟩
    exact ⟨hg, .inr ⟨_, _, p + 3, rfl, rfl, hr', by omega, rfl⟩⟩
  rw [if_neg h3]
  have h31 : num ((l.drop p).take 1) = 1 := by omega
  by_cases h4 : l.length - p < 3 + z
  · rw [if_pos h4]
    refine (rec_short3 R l p z w hr hl h31 (by omega) (by omega) (by omega)).mono ?_
    rintro e w' ⟨rfl, hg⟩
    exact ⟨hg, .inl ⟨_, rfl, rfl⟩⟩
  rw [if_neg h4]
  refine (rec_full R l p z w hr hl h31 (by omega) (by omega)).mono ?_
  rintro e w' ⟨rfl, hr', hg⟩
  exact ⟨hg, .inr ⟨_, _, p + 3 + z, rfl, rfl, hr', by omega, by rw [Nat.add_assoc]⟩⟩
end Go.Proofs.Ytdjmhagclcfnfaa
