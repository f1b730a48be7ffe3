/- The program's Parse. -/
import Derived.Test.YtpopjmkipddpgaaPCollect
import Derived.Recover
import Derived.Defers
import Derived.Laws.Pointers
namespace Go.Proofs.Ytpopjmkipddpgaa
open Go.RowKit Go.Shelf

/-- P3, as mathematics: the error, or the stream. -/
def parseR (l : List UInt8) : Int ⊕ (Nat × Nat × Nat × Nat × List Rc) :=
  match openR l with
  | .inl k => .inl k
  | .inr (f, t, b, z, m) =>
    match walkR b z m (-1) (l.drop 18) with
    | (_, .inl k) => .inl k
    | (rs, .inr q) => match endR l (l.length - q.length) with
      | some k => .inl k
      | none => .inr (f, t, b, z, rs)

theorem OwnsR.base {B B' : Nat} {W : World} {v : Value} {rs : List Rc} (h : OwnsR B W v rs) (hb : B' ≤ B) : OwnsR B' W v rs := by
  have h0 : W.ownsRow B 34 3 v rs.length (recVals rs) := h
  refine ⟨h0.1, ?_⟩
  rcases h0.2 with hn | ⟨g, cap, cur, hv, hbg, rest⟩
  · exact .inl hn
  · exact .inr ⟨g, cap, cur, hv, Nat.le_trans hb hbg, rest⟩
theorem OwnsR.set {B : Nat} {W : World} {v : Value} {rs : List Rc} (h : OwnsR B W v rs) {k o : Nat} {x : Value} (hk : k < B) : OwnsR B (W.setCell ⟨k, o, none⟩ x) v rs := by
  refine World.ownsRow.kept h (gset W k o x) ?_
  rcases h.2 with ⟨rfl, _⟩ | ⟨g, cap, cur, rfl, hbg, _⟩
  · exact .inl rfl
  · refine .inr fun e => ?_
    have : g = k := by simpa [Value.ownBlock] using e
    omega
theorem OwnsR.drew {B : Nat} {W : World} {v : Value} {rs : List Rc} (h : OwnsR B W v rs) (n : Nat) : OwnsR B (W.drewN n) v rs := h
/-- What turned lay behind what there was. -/
theorem grown_fresh {A B C : World} {r : Nat} (h : A.grownBy B none) (k : B.grownBy C (some r)) (hr : A.heap.size ≤ r) : A.grownBy C none :=
  ⟨k.os.trans h.os, k.tape.trans h.tape, k.output.trans h.output, Nat.le_trans h.size k.size, fun j hj hne => (k.block j (Nat.lt_of_lt_of_le hj h.size) (by simp; omega)).trans (h.block j hj hne)⟩

set_option maxRecDepth 100000 in
set_option maxHeartbeats 1000000 in
theorem readStream_any (l : List UInt8) (w : World) (hl : l.length ≤ 4611686018427387904) :
    Calls Try.prog 36 #[.string ⟨l.toArray⟩] w fun e w' => w.grownBy w' none ∧
      ((∃ k, parseR l = .inl k ∧ e = .panicked (gave k)) ∨ (∃ f t b z rs v, parseR l = .inr (f, t, b, z, rs) ∧ e = .returned (.agg #[.int .i64 (f : Nat), .int .i64 (t : Nat), .int .i64 (b : Nat), .int .i64 (z : Nat), v]) ∧ OwnsR w.heap.size w' v rs)) := by
  go_enter Try.func36, Try.ntmps36
  go_wp2_with fail
  have hs1 : ((w.alloc (.cells #[.int .i64 0, .int .i64 0, .int .i64 0, .int .i64 0, .slice none 0 0] 24)).alloc (.cells #[.string ⟨l.toArray⟩, .int .i64 0] 96)).heap.size = w.heap.size + 2 := by simp
  have hb1 : ((w.alloc (.cells #[.int .i64 0, .int .i64 0, .int .i64 0, .int .i64 0, .slice none 0 0] 24)).alloc (.cells #[.string ⟨l.toArray⟩, .int .i64 0] 96)).heap[w.heap.size]? = some (.cells #[.int .i64 0, .int .i64 0, .int .i64 0, .int .i64 0, .slice none 0 0] 24 (0, 0)) := (Below.heap_alloc _ _ _ (by simp)).trans (World.alloc_heap_new _ _)
  have hr1 : Rd ((w.alloc (.cells #[.int .i64 0, .int .i64 0, .int .i64 0, .int .i64 0, .slice none 0 0] 24)).alloc (.cells #[.string ⟨l.toArray⟩, .int .i64 0] 96)) (w.heap.size + 1) l 0 := by
    have h := World.alloc_heap_new (w.alloc (.cells #[.int .i64 0, .int .i64 0, .int .i64 0, .int .i64 0, .slice none 0 0] 24)) (.cells #[.string ⟨l.toArray⟩, .int .i64 0] 96)
    rw [World.size_alloc] at h
    exact h
  have hg1 : w.grownBy ((w.alloc (.cells #[.int .i64 0, .int .i64 0, .int .i64 0, .int .i64 0, .slice none 0 0] 24)).alloc (.cells #[.string ⟨l.toArray⟩, .int .i64 0] 96)) none := gallocR (galloc _ _ _) _
  generalize (w.alloc (.cells #[.int .i64 0, .int .i64 0, .int .i64 0, .int .i64 0, .slice none 0 0] 24)).alloc (.cells #[.string ⟨l.toArray⟩, .int .i64 0] 96) = W1 at *
  refine (phead (w.heap.size + 1) l W1 hr1 hl).mono ?_
  clear hr1
  rintro e W2 ⟨hg2, (⟨k, hk, rfl⟩ | ⟨f, t, b, z, m, ho, rfl, hr2, h18, hok⟩)⟩
  · refine ⟨rfl, grown_fresh hg1 hg2 (by omega), .inl ⟨k, ?_, rfl⟩⟩
    unfold parseR
    rw [hk]
  have hb2 := (hg2.block w.heap.size (by omega) (by simp)).trans hb1
  have HO : Hid _ := ho
  have HB2 : Hid _ := hb2
  have HG2 : Hid _ := hg2
  have HG1 : Hid _ := hg1
  have HR2 : Hid _ := hr2
  clear ho hb2 hg2 hg1 hr2 hb1
  go_wp2_with fail
  obtain ⟨W3, hW3⟩ : ∃ W3, W3 = W2.alloc (.cells #[.int .i64 f, .int .i64 t, .int .i64 b, .int .i64 z, .int .i64 m] 72) := ⟨_, rfl⟩
  rw [← hW3]
  have hg3 : W2.grownBy W3 none := by rw [hW3]; exact galloc _ _ _
  have hx3 : W3.heap[W2.heap.size]? = some (.cells #[.int .i64 f, .int .i64 t, .int .i64 b, .int .i64 z, .int .i64 m] 72 (0, 0)) := by rw [hW3]; exact World.alloc_heap_new _ _
  have hs3 : W3.heap.size = W2.heap.size + 1 := by rw [hW3]; simp
  clear hW3
  have hs2 : w.heap.size + 2 ≤ W2.heap.size := by have := HG2.out.size; omega
  refine (records_any (w.heap.size + 1) f t b z m W3).mono ?_
  rintro e W4 ⟨rfl, hW4⟩
  have hg4 : W3.grownBy W4 none := by rw [hW4]; exact gallocR (galloc _ _ _) _
  have hs4 : W4.heap.size = W3.heap.size + 2 := by rw [hW4]; simp
  have hi4 : W4.heap[W3.heap.size]? = some (.cells #[.pointer (some ⟨w.heap.size + 1, 0, none⟩)] 94 (0, 0)) := by rw [hW4]; exact (Below.heap_alloc _ _ _ (by simp)).trans (World.alloc_heap_new _ _)
  have hh4 : W4.heap[W3.heap.size + 1]? = some (.cells #[.int .i64 f, .int .i64 t, .int .i64 b, .int .i64 z, .int .i64 m] 72 (0, 0)) := by
    rw [hW4]
    have h := World.alloc_heap_new (W3.alloc (.cells #[.pointer (some ⟨w.heap.size + 1, 0, none⟩)] 94)) (.cells #[.int .i64 f, .int .i64 t, .int .i64 b, .int .i64 z, .int .i64 m] 72)
    rw [World.size_alloc] at h
    exact h
  clear hW4
  have hx4 := (hg4.block W2.heap.size (by omega) (by simp)).trans hx3
  have hr4 : Rd W4 (w.heap.size + 1) l 18 := Rd.kept (Rd.kept HR2.out hg3) hg4
  have hb4 := (hg4.block w.heap.size (by omega) (by simp)).trans ((hg3.block w.heap.size (by omega) (by simp)).trans HB2.out)
  have hhd := hok
  simp only [headOk, wellHead, Bool.and_eq_true, decide_eq_true_eq] at hhd
  have HC : Hid (∀ u : Unit, _) := fun _ => collect_any W4 (enters_of Try.func77 (by kernel_rfl) rfl)
    (records_seq 8 (by decide) (w.heap.size + 1) (W3.heap.size + 1) W3.heap.size f t b z m l 18 W4 hr4 h18 (by decide) hl (by omega) (by omega) hh4 hi4)
    (fun k hk => by rcases hk with rfl | rfl | rfl <;> omega) (fun b hb => by cases hb; omega) (fun pre x hx => by obtain ⟨_, _, h⟩ := hx; omega)
  have HG4 : Hid (W2.grownBy W4 none) := gtrans hg3 hg4
  have HX4 : Hid _ := hx4
  have HB4 : Hid _ := hb4
  clear hg3 hx3 hg4 hi4 hh4 hx4 hr4 hb4 hhd
  rw [hs3] at HC
  go_wp2_with fail
  refine (HC.out ()).mono ?_
  rintro e W5 ⟨hg5, (⟨xs, v, ⟨q', hw, he⟩, rfl, hown⟩ | ⟨ch, xs, ⟨k, rfl, hk⟩, rfl⟩)⟩
  · obtain ⟨a, ln, cp, rfl⟩ : ∃ a ln cp, v = .slice a ln cp := by
      rcases hown.2 with ⟨rfl, _⟩ | ⟨g, cap, cur, rfl, _⟩
      · exact ⟨_, _, _, rfl⟩
      · exact ⟨_, _, _, rfl⟩
    have HP : Hid (parseR l = .inr (f, t, b, z, xs)) := by
      show _ = _
      unfold parseR
      rw [HO.out]
      simp only []
      rw [hw]
      simp only []
      rw [he]
    have hx5 := (hg5.block W2.heap.size (by omega) (by simp; omega)).trans HX4.out
    have hb5 := (hg5.block w.heap.size (by omega) (by simp)).trans HB4.out
    have hlt5 : w.heap.size < W5.heap.size := by have := hg5.size; omega
    have HW5 : Hid (w.grownBy W5 none) := grown_fresh (grown_fresh HG1.out (gtrans HG2.out (gnone HG4.out)) (by omega)) hg5 (by omega)
    have HOW : Hid _ := hown
    have c0 := boxed_cell (i := 0) hb5 rfl
    have f0 := boxed_frozen (i := 0) hb5
    have c1 := boxed_cell (i := 1) hb5 rfl
    have f1 := boxed_frozen (i := 1) hb5
    have c2 := boxed_cell (i := 2) hb5 rfl
    have f2 := boxed_frozen (i := 2) hb5
    have c3 := boxed_cell (i := 3) hb5 rfl
    have f3 := boxed_frozen (i := 3) hb5
    have c4 := boxed_cell (i := 4) hb5 rfl
    have f4 := boxed_frozen (i := 4) hb5
    have d0 := boxed_cell (i := 0) hx5 rfl
    have d1 := boxed_cell (i := 1) hx5 rfl
    have d2 := boxed_cell (i := 2) hx5 rfl
    have d3 := boxed_cell (i := 3) hx5 rfl
    clear hw he hown hg5 hx5 hb5
    go_wp2
    refine bodyPost_ret (v := .agg #[.int .i64 f, .int .i64 t, .int .i64 b, .int .i64 z, .slice a ln cp]) (by simp [results, Try.results36, go_sem, c0, c1, c2, c3, c4]) rfl ?_
    refine ⟨?_, .inr ⟨f, t, b, z, xs, _, HP.out, rfl, ?_⟩⟩
    · exact gfresh (gfresh (gfresh (gfresh (gfresh HW5.out (Nat.le_refl _)) (Nat.le_refl _)) (Nat.le_refl _)) (Nat.le_refl _)) (Nat.le_refl _)
    · exact OwnsR.base (OwnsR.set (OwnsR.set (OwnsR.set (OwnsR.set (OwnsR.set HOW.out (by omega)) (by omega)) (by omega)) (by omega)) (by omega)) (by omega)
  · refine ⟨rfl, grown_fresh (grown_fresh HG1.out (gtrans HG2.out (gnone HG4.out)) (by omega)) hg5 (by omega), .inl ⟨k, ?_, rfl⟩⟩
    unfold parseR
    rw [HO.out]
    simp only []
    rcases hk with hk | ⟨q', hw, he⟩
    · rw [hk]
    · rw [hw]
      simp only []
      rw [he]
end Go.Proofs.Ytpopjmkipddpgaa
