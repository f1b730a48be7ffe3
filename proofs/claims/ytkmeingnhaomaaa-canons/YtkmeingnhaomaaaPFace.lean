/- The program's face: what is given up is recovered. -/
import Derived.Test.YtkmeingnhaomaaaPParse
namespace Go.Proofs.Ytkmeingnhaomaaa
open Go.RowKit Go.Shelf

theorem assert_errno (w : World) (v : Value) : (Instr.typeAssert (.iface 25 v) 20 25 true).run Try.prog w = .ok (.tuple #[v, .bool true]) w := by
  simp [Instr.typeAssert, run_underlying Try.underlying25, go_sem, Result.andThen]

set_option maxRecDepth 100000 in
set_option maxHeartbeats 400000 in
theorem reason_any (k : Int) (w : World) :
    Calls Try.prog 81 #[.iface 25 (.int .i64 k)] w fun e w' => e = .returned (.int .i64 k) ∧ w' = w := by
  have ha := assert_errno w (.int .i64 k)
  go_enter Try.func81, Try.ntmps81
  go_wp2
  go_ret
  exact ⟨rfl, rfl⟩

set_option maxRecDepth 100000 in
set_option maxHeartbeats 400000 in
theorem catch_panicking (b : Nat) (x : Int) (k : Int) (w : World) (hc : w.cell? ⟨b, 0, none⟩ = some (.int .i64 x)) (hz : w.frozen? ⟨b, 0, none⟩ = false) :
    CallsD Try.prog 80 #[.pointer (some ⟨b, 0, none⟩)] (.panicking (gave k)) w fun e u' w' =>
      e = .returned (.tuple #[]) ∧ u' = .panicking [{ v := .iface 25 (.int .i64 k), recovered := true }] ∧ w' = w.setCell ⟨b, 0, none⟩ (.int .i64 k) := by
  refine callsD_of_wpS Try.func80 rfl fun c₀ cs hu => ?_
  simp only [Try.ntmps80, List.size_toArray, List.length_cons, List.length_nil, Nat.reduceAdd, Nat.reduceSub, Array.replicate_succ, Array.replicate_zero, List.push_toArray, List.append_toArray, List.nil_append, List.cons_append]
  apply wpS_seq
  apply wpS_region
  simp [wpOpsS, go_sem, recoverD, hu, Exit.thenS, gave]
  refine wpS_of_wp ?_
  go_wp2_with (go_at_call 81; refine (reason_any _ _).mono ?_; rintro e w1 ⟨rfl, rfl⟩)
  exact ⟨rfl, _, rfl, _, results_none rfl _ _ _, rfl, rfl, rfl⟩

set_option maxRecDepth 100000 in
set_option maxHeartbeats 400000 in
theorem catch_idle (b : Nat) (w : World) :
    CallsD Try.prog 80 #[.pointer (some ⟨b, 0, none⟩)] .returning w fun e u' w' => e = .returned (.tuple #[]) ∧ u' = .returning ∧ w' = w := by
  refine callsD_of_wpS Try.func80 rfl fun c₀ cs hu => ?_
  simp only [Try.ntmps80, List.size_toArray, List.length_cons, List.length_nil, Nat.reduceAdd, Nat.reduceSub, Array.replicate_succ, Array.replicate_zero, List.push_toArray, List.append_toArray, List.nil_append, List.cons_append]
  apply wpS_seq
  apply wpS_region
  simp [wpOpsS, go_sem, recoverD, hu, Exit.thenS]
  refine wpS_of_wp ?_
  go_wp2
  cases c₀
  simp only at hu
  subst hu
  exact ⟨rfl, _, rfl, _, results_none rfl _ _ _, rfl, rfl, rfl⟩

/-- How a reading ends, as Parse tells it. -/
def Told (l : List UInt8) (w : World) (e : Ending) (w' : World) : Prop :=
  w.grownBy w' none ∧
    ((∃ k, parseR l = .inl k ∧ e = .returned (.tuple #[.agg #[.int .i64 0, .int .i64 0, .int .i64 0, .int .i64 0, .slice none 0 0], .int .i64 k])) ∨
     (∃ f t b z rs v, parseR l = .inr (f, t, b, z, rs) ∧ e = .returned (.tuple #[.agg #[.int .i64 (f : Nat), .int .i64 (t : Nat), .int .i64 (b : Nat), .int .i64 (z : Nat), v], .int .i64 0]) ∧ OwnsR w.heap.size w' v rs))

set_option maxRecDepth 100000 in
set_option maxHeartbeats 1000000 in
theorem parse1_any (Bt : Nat) (l : List UInt8) (w : World) (hl : l.length ≤ 4611686018427387904) (ht : w.cell? ⟨Bt, 0, none⟩ = some (.string ⟨l.toArray⟩)) (hb : Bt < w.heap.size) :
    Calls Try.prog 49 #[.pointer (some ⟨Bt, 0, none⟩)] w fun e w' => w.grownBy w' none ∧
      ((∃ k, parseR l = .inl k ∧ e = .panicked (gave k)) ∨ (∃ f t b z rs v, parseR l = .inr (f, t, b, z, rs) ∧ e = .returned (.agg #[.int .i64 (f : Nat), .int .i64 (t : Nat), .int .i64 (b : Nat), .int .i64 (z : Nat), v]) ∧ OwnsR w.heap.size w' v rs)) := by
  have hne : Bt ≠ w.heap.size := by omega
  go_enter Try.func49, Try.ntmps49
  go_wp2_with fail
  obtain ⟨W1, hW1⟩ : ∃ W1, W1 = w.alloc (.cells #[.int .i64 0, .int .i64 0, .int .i64 0, .int .i64 0, .slice none 0 0] 24) := ⟨_, rfl⟩
  rw [← hW1]
  have hs1 : W1.heap.size = w.heap.size + 1 := by rw [hW1]; simp
  have hg1 : w.grownBy W1 none := by rw [hW1]; exact galloc _ _ _
  have hb1 : W1.heap[w.heap.size]? = some (.cells #[.int .i64 0, .int .i64 0, .int .i64 0, .int .i64 0, .slice none 0 0] 24 (0, 0)) := by rw [hW1]; exact World.alloc_heap_new _ _
  clear hW1 ht
  refine (readStream_any l W1 hl).mono ?_
  rintro e W2 ⟨hg2, (⟨k, hk, rfl⟩ | ⟨f, t, b, z, rs, v, hk, rfl, hown⟩)⟩
  · exact ⟨rfl, gtrans hg1 hg2, .inl ⟨k, hk, rfl⟩⟩
  · have hb2 := (hg2.block w.heap.size (by omega) (by simp)).trans hb1
    have G2 : Hid (w.grownBy W2 none) := gtrans hg1 hg2
    have hlt2 : w.heap.size < W2.heap.size := by have := hg2.size; omega
    have HO : Hid _ := hown
    have HP : Hid _ := hk
    obtain ⟨a, ln, cp, rfl⟩ : ∃ a ln cp, v = .slice a ln cp := by
      rcases hown.2 with ⟨rfl, _⟩ | ⟨g, cap, cur, rfl, _⟩
      · exact ⟨_, _, _, rfl⟩
      · exact ⟨_, _, _, rfl⟩
    have c0 := boxed_cell (i := 0) hb2 rfl
    have f0 := boxed_frozen (i := 0) hb2
    have c1 := boxed_cell (i := 1) hb2 rfl
    have f1 := boxed_frozen (i := 1) hb2
    have c2 := boxed_cell (i := 2) hb2 rfl
    have f2 := boxed_frozen (i := 2) hb2
    have c3 := boxed_cell (i := 3) hb2 rfl
    have f3 := boxed_frozen (i := 3) hb2
    have c4 := boxed_cell (i := 4) hb2 rfl
    have f4 := boxed_frozen (i := 4) hb2
    clear hg1 hg2 hb1 hb2 hown hk
    go_wp2
    refine bodyPost_ret (v := .agg #[.int .i64 f, .int .i64 t, .int .i64 b, .int .i64 z, .slice a ln cp]) (by simp [results, Try.results49, go_sem, c0, c1, c2, c3, c4]) rfl ?_
    refine ⟨?_, .inr ⟨f, t, b, z, rs, _, HP.out, rfl, ?_⟩⟩
    · exact gfresh (gfresh (gfresh (gfresh (gfresh G2.out (Nat.le_refl _)) (Nat.le_refl _)) (Nat.le_refl _)) (Nat.le_refl _)) (Nat.le_refl _)
    · exact OwnsR.base (OwnsR.set (OwnsR.set (OwnsR.set (OwnsR.set (OwnsR.set HO.out (by omega)) (by omega)) (by omega)) (by omega)) (by omega)) (by omega)

set_option maxRecDepth 100000 in
set_option maxHeartbeats 1000000 in
theorem atFace_any (Bt : Nat) (l : List UInt8) (w : World) (hl : l.length ≤ 4611686018427387904) (ht : w.cell? ⟨Bt, 0, none⟩ = some (.string ⟨l.toArray⟩)) (hb : Bt < w.heap.size) :
    Calls Try.prog 48 #[.func (.func 49) #[] #[.pointer (some ⟨Bt, 0, none⟩)]] w (Told l w) := by
  have hmf : ∀ (fn : Fn) (first cap : Array Value) (w : World), (Instr.makeFunc fn first cap).run Try.prog w = .ok (.func fn first cap) w := fun _ _ _ _ => rfl
  go_enter_defers Try.func48, Try.ntmps48
  go_wp2_with fail
  obtain ⟨W1, hW1⟩ : ∃ W1, W1 = (w.alloc (.cells #[.int .i64 0, .int .i64 0, .int .i64 0, .int .i64 0, .slice none 0 0] 24)).alloc (.cells #[.int .i64 0] 25) := ⟨_, rfl⟩
  rw [← hW1]
  have hs1 : W1.heap.size = w.heap.size + 2 := by rw [hW1]; simp
  have hg1 : w.grownBy W1 none := by rw [hW1]; exact gallocR (galloc _ _ _) _
  have hb1 : W1.heap[w.heap.size]? = some (.cells #[.int .i64 0, .int .i64 0, .int .i64 0, .int .i64 0, .slice none 0 0] 24 (0, 0)) := by rw [hW1]; exact (Below.heap_alloc _ _ _ (by simp)).trans (World.alloc_heap_new _ _)
  have he1 : W1.heap[w.heap.size + 1]? = some (.cells #[.int .i64 0] 25 (0, 0)) := by
    rw [hW1]
    have h := World.alloc_heap_new (w.alloc (.cells #[.int .i64 0, .int .i64 0, .int .i64 0, .int .i64 0, .slice none 0 0] 24)) (.cells #[.int .i64 0] 25)
    rw [World.size_alloc] at h
    exact h
  clear hW1
  have ht1 : W1.cell? ⟨Bt, 0, none⟩ = some (.string ⟨l.toArray⟩) := (World.cell?_of_block (hg1.block Bt hb (by simp))).trans ht
  refine (parse1_any Bt l W1 hl ht1 (by omega)).mono ?_
  rintro e W2 ⟨hg2, hcase⟩
  have hb2 := (hg2.block w.heap.size (by omega) (by simp)).trans hb1
  have he2 := (hg2.block (w.heap.size + 1) (by omega) (by simp)).trans he1
  have G2 : Hid (w.grownBy W2 none) := gtrans hg1 hg2
  have hlt2 : w.heap.size + 1 < W2.heap.size := by have := hg2.size; omega
  have e0 := boxed_cell (i := 0) he2 rfl
  have ef := boxed_frozen (i := 0) he2
  clear hg1 hg2 hb1 he1 ht1 ht
  rcases hcase with ⟨k, hk, rfl⟩ | ⟨f, t, b, z, rs, v, hk, rfl, hown⟩
  · show Leaves _ _ _ _ _ _ _
    refine leaves_cons (f := 80) (args := #[.pointer (some ⟨w.heap.size + 1, 0, none⟩)]) (by simp) (by simp [go_sem]) ?_
    refine (catch_panicking (w.heap.size + 1) 0 k W2 e0 ef).mono ?_
    rintro e u' w'' ⟨rfl, rfl, rfl⟩
    have hb3 : (W2.setCell ⟨w.heap.size + 1, 0, none⟩ (.int .i64 k)).heap[w.heap.size]? = _ := (Below.heap_setCell _ _ _ _ (by simp)).trans hb2
    have he3 := block_set (i := 0) he2 (.int .i64 k)
    have c0 := boxed_cell (i := 0) hb3 rfl
    have c1 := boxed_cell (i := 1) hb3 rfl
    have c2 := boxed_cell (i := 2) hb3 rfl
    have c3 := boxed_cell (i := 3) hb3 rfl
    have c4 := boxed_cell (i := 4) hb3 rfl
    have e3 := boxed_cell (i := 0) (v := .int .i64 k) he3 rfl
    refine ⟨.tuple #[.agg #[.int .i64 0, .int .i64 0, .int .i64 0, .int .i64 0, .slice none 0 0], .int .i64 k], ?_, ?_⟩
    · clear hb3 he3 hb2 he2
      simp [results, Try.results48, go_sem, c0, c1, c2, c3, c4, e3]
    · exact ⟨gfresh G2.out (by omega), .inl ⟨k, hk, rfl⟩⟩
  · obtain ⟨a, ln, cp, rfl⟩ : ∃ a ln cp, v = .slice a ln cp := by
      rcases hown.2 with ⟨rfl, _⟩ | ⟨g, cap, cur, rfl, _⟩
      · exact ⟨_, _, _, rfl⟩
      · exact ⟨_, _, _, rfl⟩
    have c0 := boxed_cell (i := 0) hb2 rfl
    have f0 := boxed_frozen (i := 0) hb2
    have c1 := boxed_cell (i := 1) hb2 rfl
    have f1 := boxed_frozen (i := 1) hb2
    have c2 := boxed_cell (i := 2) hb2 rfl
    have f2 := boxed_frozen (i := 2) hb2
    have c3 := boxed_cell (i := 3) hb2 rfl
    have f3 := boxed_frozen (i := 3) hb2
    have c4 := boxed_cell (i := 4) hb2 rfl
    have f4 := boxed_frozen (i := 4) hb2
    have HO : Hid _ := hown
    have HP : Hid _ := hk
    clear hb2 he2 hown hk
    go_wp2
    show Leaves _ _ _ _ _ _ _
    refine leaves_cons (f := 80) (args := #[.pointer (some ⟨w.heap.size + 1, 0, none⟩)]) (by simp) (by simp [go_sem]) ?_
    refine (catch_idle (w.heap.size + 1) _).mono ?_
    rintro e u' w'' ⟨rfl, rfl, rfl⟩
    refine ⟨.tuple #[.agg #[.int .i64 f, .int .i64 t, .int .i64 b, .int .i64 z, .slice a ln cp], .int .i64 0], ?_, ?_⟩
    · simp [results, Try.results48, go_sem, c0, c1, c2, c3, c4, e0]
    · refine ⟨gfresh (gfresh (gfresh (gfresh (gfresh (gfresh G2.out (Nat.le_refl _)) (Nat.le_refl _)) (Nat.le_refl _)) (Nat.le_refl _)) (Nat.le_refl _)) (by omega), .inr ⟨f, t, b, z, rs, _, HP.out, rfl, ?_⟩⟩
      exact OwnsR.base (OwnsR.set (OwnsR.set (OwnsR.set (OwnsR.set (OwnsR.set (OwnsR.set HO.out (by omega)) (by omega)) (by omega)) (by omega)) (by omega)) (by omega)) (by omega)

set_option maxRecDepth 100000 in
set_option maxHeartbeats 1000000 in
/-- **Parse**, of any text. -/
theorem pparse (l : List UInt8) (w : World) (hl : l.length ≤ 4611686018427387904) :
    Calls Try.prog 14 #[.string ⟨l.toArray⟩] w (Told l w) := by
  have hmf : ∀ (fn : Fn) (first cap : Array Value) (w : World), (Instr.makeFunc fn first cap).run Try.prog w = .ok (.func fn first cap) w := fun _ _ _ _ => rfl
  go_enter Try.func14, Try.ntmps14
  go_wp2_with fail
  obtain ⟨W1, hW1⟩ : ∃ W1, W1 = (w.alloc (.cells #[.string ⟨l.toArray⟩] 9)).alloc (.cells #[.int .i64 0, .int .i64 0, .int .i64 0, .int .i64 0, .slice none 0 0] 24) := ⟨_, rfl⟩
  rw [← hW1]
  have hs1 : W1.heap.size = w.heap.size + 2 := by rw [hW1]; simp
  have hg1 : w.grownBy W1 none := by rw [hW1]; exact gallocR (galloc _ _ _) _
  have ht1 : W1.heap[w.heap.size]? = some (.cells #[.string ⟨l.toArray⟩] 9 (0, 0)) := by rw [hW1]; exact (Below.heap_alloc _ _ _ (by simp)).trans (World.alloc_heap_new _ _)
  have hb1 : W1.heap[w.heap.size + 1]? = some (.cells #[.int .i64 0, .int .i64 0, .int .i64 0, .int .i64 0, .slice none 0 0] 24 (0, 0)) := by
    rw [hW1]
    have h := World.alloc_heap_new (w.alloc (.cells #[.string ⟨l.toArray⟩] 9)) (.cells #[.int .i64 0, .int .i64 0, .int .i64 0, .int .i64 0, .slice none 0 0] 24)
    rw [World.size_alloc] at h
    exact h
  clear hW1
  refine (atFace_any w.heap.size l W1 hl (boxed_cell (i := 0) ht1 rfl) (by omega)).mono ?_
  rintro e W2 ⟨hg2, hcase⟩
  have hb2 := (hg2.block (w.heap.size + 1) (by omega) (by simp)).trans hb1
  have G2 : Hid (w.grownBy W2 none) := gtrans hg1 hg2
  have hlt2 : w.heap.size + 1 < W2.heap.size := by have := hg2.size; omega
  clear hg1 hg2 hb1 ht1
  have c0 := boxed_cell (i := 0) hb2 rfl
  have f0 := boxed_frozen (i := 0) hb2
  have c1 := boxed_cell (i := 1) hb2 rfl
  have f1 := boxed_frozen (i := 1) hb2
  have c2 := boxed_cell (i := 2) hb2 rfl
  have f2 := boxed_frozen (i := 2) hb2
  have c3 := boxed_cell (i := 3) hb2 rfl
  have f3 := boxed_frozen (i := 3) hb2
  have c4 := boxed_cell (i := 4) hb2 rfl
  have f4 := boxed_frozen (i := 4) hb2
  clear hb2
  rcases hcase with ⟨k, hk, rfl⟩ | ⟨f, t, b, z, rs, v, hk, rfl, hown⟩
  · have HP : Hid _ := hk
    clear hk
    go_wp2
    refine bodyPost_ret (v := .tuple #[.agg #[.int .i64 0, .int .i64 0, .int .i64 0, .int .i64 0, .slice none 0 0], .int .i64 k]) (by simp [results, Try.results14, go_sem, c0, c1, c2, c3, c4]) rfl ?_
    exact ⟨gfresh (gfresh (gfresh (gfresh (gfresh G2.out (by omega)) (by omega)) (by omega)) (by omega)) (by omega), .inl ⟨k, HP.out, rfl⟩⟩
  · obtain ⟨a, ln, cp, rfl⟩ : ∃ a ln cp, v = .slice a ln cp := by
      rcases hown.2 with ⟨rfl, _⟩ | ⟨g, cap, cur, rfl, _⟩
      · exact ⟨_, _, _, rfl⟩
      · exact ⟨_, _, _, rfl⟩
    have HO : Hid _ := hown
    have HP : Hid _ := hk
    clear hown hk
    go_wp2
    refine bodyPost_ret (v := .tuple #[.agg #[.int .i64 f, .int .i64 t, .int .i64 b, .int .i64 z, .slice a ln cp], .int .i64 0]) (by simp [results, Try.results14, go_sem, c0, c1, c2, c3, c4]) rfl ?_
    refine ⟨gfresh (gfresh (gfresh (gfresh (gfresh G2.out (by omega)) (by omega)) (by omega)) (by omega)) (by omega), .inr ⟨f, t, b, z, rs, _, HP.out, rfl, ?_⟩⟩
    exact OwnsR.base (OwnsR.set (OwnsR.set (OwnsR.set (OwnsR.set (OwnsR.set HO.out (by omega)) (by omega)) (by omega)) (by omega)) (by omega)) (by omega)
end Go.Proofs.Ytkmeingnhaomaaa
