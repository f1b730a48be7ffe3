/- The program's reading of an unsorted text: its head, its records. -/
import Derived.Test.YtkmeingnhaomaaaPUnsort
import Derived.Test.YtkmeingnhaomaaaPParse
import Derived.Test.YtkmeingnhaomaaaRCanon
namespace Go.Proofs.Ytkmeingnhaomaaa
open Go.RowKit Go.Shelf

set_option maxRecDepth 100000 in
set_option maxHeartbeats 1000000 in
theorem unsHead_any (R : Nat) (l : List UInt8) (w : World) (hr : Rd w R l 0) (hl : l.length ≤ 4611686018427387904) :
    Calls Try.prog 107 #[.pointer (some ⟨R, 0, none⟩)] w fun e w' => w.grownBy w' (some R) ∧
      ((∃ k, openG [83, 84, 82, 85] 18 400 l = .inl k ∧ e = .panicked (gave k)) ∨ (∃ f t b z m, openG [83, 84, 82, 85] 18 400 l = .inr (f, t, b, z, m) ∧ e = .returned (.agg #[.int .i64 (f : Nat), .int .i64 (t : Nat), .int .i64 (b : Nat), .int .i64 (z : Nat), .int .i64 (m : Nat)]) ∧ Rd w' R l 18 ∧ 18 ≤ l.length ∧ wellHead f t b z = true ∧ m ≤ 400)) := by
  have hlt := hr.lt
  have HB : Hid (∀ o : Obj, _) := fun o => pbegin R l [83, 84, 82, 85] rfl 18 (w.alloc o) (Rd.alloc hr o) hl (by omega)
  clear hr
  go_enter Try.func107, Try.ntmps107
  go_wp2_with fail
  refine (HB.out _).mono ?_
  rintro e w1 ⟨hg1, (⟨h1, rfl⟩ | ⟨h1, h2, rfl⟩ | ⟨h1, h2, f, t, b, z, m, hh, rfl, hr1⟩)⟩
  · exact ⟨rfl, gtrans (galloc _ _ _) hg1, .inl ⟨2, by unfold openG; rw [if_pos h1], rfl⟩⟩
  · exact ⟨rfl, gtrans (galloc _ _ _) hg1, .inl ⟨3, by unfold openG; rw [if_neg (by omega), if_pos h2], rfl⟩⟩
  have HO2 : Hid (openG [83, 84, 82, 85] 18 400 l = if (wellHead f t b z && decide ((m : Int) ≤ 400)) = true then .inr (f, t, b, z, m) else .inl 4) := by
    show _ = _
    unfold openG
    rw [if_neg (by omega), if_neg (by simpa using h2), hh]
    have e : decide ((m : Int) ≤ 400) = decide (m ≤ 400) := decide_eq_decide.2 (by omega)
    rw [e]
    simp
  have HG1 : Hid _ := hg1
  have HR1 : Hid (Rd w1 R l 18) := hr1
  clear hg1 hr1 HB hh h2
  go_wp2_with fail
  refine (fits_any f t b z m 400 _).mono ?_
  rintro e w2 ⟨rfl, hb2⟩
  have hg2 : w1.grownBy w2 none := gtrans (galloc _ _ _) (gbelow hb2)
  have G2 : Hid (w.grownBy w2 (some R)) := gtrans (galloc _ _ _) (gtrans HG1.out (gnone hg2))
  cases hok : (wellHead f t b z && decide ((m : Int) ≤ 400)) with
  | false =>
    have HX : Hid (openG [83, 84, 82, 85] 18 400 l = .inl 4) := by rw [HO2.out, hok]; rfl
    clear hb2 hg2
    go_wp2
    exact ⟨rfl, G2.out, .inl ⟨4, HX.out, rfl⟩⟩
  | true =>
    have HX : Hid (openG [83, 84, 82, 85] 18 400 l = .inr (f, t, b, z, m)) := by rw [HO2.out, hok]; rfl
    have HK : Hid (wellHead f t b z = true ∧ m ≤ 400) := by
      rw [Bool.and_eq_true, decide_eq_true_eq] at hok
      exact ⟨hok.1, by omega⟩
    obtain ⟨hb, hlb⟩ := resBox hlt HG1.out (gnone hg2)
    have hx : w2.heap[w1.heap.size]? = _ := (hb2.block _ (by simp)).trans (World.alloc_heap_new _ _)
    have R2 : Hid (Rd w2 R l 18) := HR1.out.kept hg2
    have hl1 : w.heap.size < w1.heap.size := by have := HG1.out.size; simp at this; omega
    have c0 := boxed_cell (i := 0) hb rfl
    have f0 := boxed_frozen (i := 0) hb
    have d0 := boxed_cell (i := 0) hx rfl
    have c1 := boxed_cell (i := 1) hb rfl
    have f1 := boxed_frozen (i := 1) hb
    have d1 := boxed_cell (i := 1) hx rfl
    have c2 := boxed_cell (i := 2) hb rfl
    have f2 := boxed_frozen (i := 2) hb
    have d2 := boxed_cell (i := 2) hx rfl
    have c3 := boxed_cell (i := 3) hb rfl
    have f3 := boxed_frozen (i := 3) hb
    have d3 := boxed_cell (i := 3) hx rfl
    have c4 := boxed_cell (i := 4) hb rfl
    have f4 := boxed_frozen (i := 4) hb
    have d4 := boxed_cell (i := 4) hx rfl
    clear hb hx hb2 hg2 hok
    go_wp2
    refine bodyPost_ret (v := .agg #[.int .i64 f, .int .i64 t, .int .i64 b, .int .i64 z, .int .i64 m]) (by simp [results, Try.results107, go_sem, c0, c1, c2, c3, c4]) rfl ?_
    exact ⟨gfresh (gfresh (gfresh (gfresh (gfresh G2.out (Nat.le_refl _)) (Nat.le_refl _)) (Nat.le_refl _)) (Nat.le_refl _)) (Nat.le_refl _), .inr ⟨f, t, b, z, m, HX.out, rfl, Rd.set (Rd.set (Rd.set (Rd.set (Rd.set R2.out (by omega)) (by omega)) (by omega)) (by omega)) (by omega), h1, HK.out⟩⟩

/-- An unsorted text's records: the error, or they. -/
def unsR (b z m : Nat) (q : List UInt8) : Int ⊕ List Rc :=
  match walkS (stepG true b z) m (-1) q with
  | (_, .inl k) => .inl k
  | (rs, .inr q') => if q'.length ≠ 0 then .inl 8 else .inr rs
theorem canonR_uns (l : List UInt8) : canonR l = match openG [83, 84, 82, 85] 18 400 l with
    | .inl k => .inl k
    | .inr (f, t, b, z, m) => match unsR b z m (l.drop 18) with
      | .inl k => .inl k
      | .inr rs => .inr (f, t, b, z, lastsR rs b) := by
  unfold canonR unsR
  rcases openG [83, 84, 82, 85] 18 400 l with k | ⟨f, t, b, z, m⟩
  · rfl
  · simp only []
    rcases walkS (stepG true b z) m (-1) (l.drop 18) with ⟨rs, (k | q)⟩
    · rfl
    · simp only []
      by_cases h : q.length ≠ 0
      · rw [if_pos h, if_pos h]
      · rw [if_neg h, if_neg h]
theorem unsR_ok (b z m : Nat) (q : List UInt8) (rs : List Rc) (h : unsR b z m q = .inr rs) : rs.length = m ∧ ∀ r ∈ rs, OkRec b z r := by
  unfold unsR at h
  rcases hw : walkS (stepG true b z) m (-1) q with ⟨xs, (k | q')⟩
  · rw [hw] at h; cases h
  · rw [hw] at h
    simp only [] at h
    by_cases h0 : q'.length ≠ 0
    · rw [if_pos h0] at h; cases h
    · rw [if_neg h0] at h
      cases h
      exact ⟨walkS_length true b z m (-1) q _ q' hw, walkS_okRec true b z m (-1) q _ _ hw⟩

set_option maxRecDepth 100000 in
set_option maxHeartbeats 1000000 in
theorem unsorted_any (R : Nat) (f t b z m : Int) (w : World) :
    Calls Try.prog 109 #[.pointer (some ⟨R, 0, none⟩), .agg #[.int .i64 f, .int .i64 t, .int .i64 b, .int .i64 z, .int .i64 m]] w fun e w' => e = .returned (.func (.func 133) #[] #[.pointer (some ⟨w.heap.size, 0, none⟩), .pointer (some ⟨w.heap.size + 1, 0, none⟩)]) ∧
      w' = (w.alloc (.cells #[.pointer (some ⟨R, 0, none⟩)] 122)).alloc (.cells #[.int .i64 f, .int .i64 t, .int .i64 b, .int .i64 z, .int .i64 m] 101) := by
  have hmf : ∀ (fn : Fn) (first cap : Array Value) (w : World), (Instr.makeFunc fn first cap).run Try.prog w = .ok (.func fn first cap) w := fun _ _ _ _ => rfl
  go_enter Try.func109, Try.ntmps109
  go_wp2
  go_ret
  exact ⟨rfl, rfl⟩

theorem unsorted_told (R f t b z m : Nat) (l : List UInt8) (w : World) (hr : Rd w R l 18) (hp : 18 ≤ l.length) (hl : l.length ≤ 4611686018427387904) (hz : z ≤ 64) (hm : m ≤ 400) :
    Calls Try.prog 109 #[.pointer (some ⟨R, 0, none⟩), .agg #[.int .i64 f, .int .i64 t, .int .i64 b, .int .i64 z, .int .i64 m]] w fun e w' => ∃ fv, e = .returned (.func (.func 133) #[] fv) ∧ w.grownBy w' none ∧
      Calls Try.prog 84 #[.func (.func 133) #[] fv] w' fun e2 w2 => w'.grownBy w2 (some R) ∧
        ((∃ k, unsR b z m (l.drop 18) = .inl k ∧ e2 = .panicked (gave k)) ∨ (∃ rs v, unsR b z m (l.drop 18) = .inr rs ∧ e2 = .returned v ∧ OwnsR w'.heap.size w2 v rs)) := by
  refine (unsorted_any R f t b z m w).mono ?_
  rintro e w' ⟨rfl, hw'⟩
  have hg : w.grownBy w' none := by rw [hw']; exact gallocR (galloc _ _ _) _
  have hs : w'.heap.size = w.heap.size + 2 := by rw [hw']; simp
  have hlR := hr.lt
  have hi : w'.heap[w.heap.size]? = some (.cells #[.pointer (some ⟨R, 0, none⟩)] 122 (0, 0)) := by
    rw [hw']
    exact (Below.heap_alloc _ _ _ (by simp)).trans (World.alloc_heap_new _ _)
  have hh : w'.heap[w.heap.size + 1]? = some (.cells #[.int .i64 f, .int .i64 t, .int .i64 b, .int .i64 z, .int .i64 m] 101 (0, 0)) := by
    rw [hw']
    have h := World.alloc_heap_new (w.alloc (.cells #[.pointer (some ⟨R, 0, none⟩)] 122)) (.cells #[.int .i64 f, .int .i64 t, .int .i64 b, .int .i64 z, .int .i64 m] 101)
    rwa [World.size_alloc] at h
  refine ⟨_, rfl, hg, ?_⟩
  refine (collect_wide w' (enters_of Try.func133 (by kernel_rfl) rfl)
    (unsorted_seq 8 (by decide) R (w.heap.size + 1) w.heap.size f t b z m l 18 w' (Rd.kept hr hg) hp hl hz hm hh hi)
    (fun k hk => by rcases hk with rfl | rfl | rfl | rfl <;> omega) (fun b hb => by cases hb; omega) (fun pre x hx => by obtain ⟨_, _, h⟩ := hx; omega)).mono ?_
  rintro e w2 ⟨hg2, (⟨xs, v, ⟨q', hw, he⟩, rfl, hown⟩ | ⟨ch, xs, ⟨k, rfl, hk⟩, rfl⟩)⟩
  · refine ⟨hg2, .inr ⟨xs, v, ?_, rfl, hown⟩⟩
    unfold unsR
    rw [hw]
    simp only []
    rw [if_neg (by omega)]
  · refine ⟨hg2, .inl ⟨k, ?_, rfl⟩⟩
    unfold unsR
    rcases hk with hk | ⟨rfl, q', hw, he⟩
    · rw [hk]
    · rw [hw]
      simp only []
      rw [if_pos he]
end Go.Proofs.Ytkmeingnhaomaaa
