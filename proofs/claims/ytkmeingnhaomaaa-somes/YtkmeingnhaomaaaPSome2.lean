/- The program's Some. -/
import Derived.Test.YtkmeingnhaomaaaPSome
namespace Go.Proofs.Ytkmeingnhaomaaa
open Go.RowKit Go.Shelf

set_option maxRecDepth 100000 in
set_option maxHeartbeats 400000 in
theorem catchS_panicking (b : Nat) (x : Int) (k : Int) (w : World) (hc : w.cell? ⟨b, 0, none⟩ = some (.int .i64 x)) (hz : w.frozen? ⟨b, 0, none⟩ = false) :
    CallsD Try.prog 93 #[.pointer (some ⟨b, 0, none⟩)] (.panicking (gave k)) w fun e u' w' =>
      e = .returned (.tuple #[]) ∧ u' = .panicking [{ v := .iface 25 (.int .i64 k), recovered := true }] ∧ w' = w.setCell ⟨b, 0, none⟩ (.int .i64 k) := by
  refine callsD_of_wpS Try.func93 rfl fun c₀ cs hu => ?_
  simp only [Try.ntmps93, List.size_toArray, List.length_cons, List.length_nil, Nat.reduceAdd, Nat.reduceSub, Array.replicate_succ, Array.replicate_zero, List.push_toArray, List.append_toArray, List.nil_append, List.cons_append]
  apply wpS_seq
  apply wpS_region
  simp [wpOpsS, go_sem, recoverD, hu, Exit.thenS, gave]
  refine wpS_of_wp ?_
  go_wp2_with (go_at_call 81; refine (reason_any _ _).mono ?_; rintro e w1 ⟨rfl, rfl⟩)
  exact ⟨rfl, _, rfl, _, results_none rfl _ _ _, rfl, rfl, rfl⟩

set_option maxRecDepth 100000 in
set_option maxHeartbeats 400000 in
theorem catchS_idle (b : Nat) (w : World) :
    CallsD Try.prog 93 #[.pointer (some ⟨b, 0, none⟩)] .returning w fun e u' w' => e = .returned (.tuple #[]) ∧ u' = .returning ∧ w' = w := by
  refine callsD_of_wpS Try.func93 rfl fun c₀ cs hu => ?_
  simp only [Try.ntmps93, List.size_toArray, List.length_cons, List.length_nil, Nat.reduceAdd, Nat.reduceSub, Array.replicate_succ, Array.replicate_zero, List.push_toArray, List.append_toArray, List.nil_append, List.cons_append]
  apply wpS_seq
  apply wpS_region
  simp [wpOpsS, go_sem, recoverD, hu, Exit.thenS]
  refine wpS_of_wp ?_
  go_wp2
  cases c₀
  simp only at hu
  subst hu
  exact ⟨rfl, _, rfl, _, results_none rfl _ _ _, rfl, rfl, rfl⟩

/-- How Some ends, the numbers being none below zero. -/
def ToldS (l : List UInt8) (fr mn : Nat) (w : World) (e : Ending) (w' : World) : Prop :=
  w.grownBy w' none ∧ ((∃ k, someR l fr mn = .inl k ∧ e = .returned (.tuple #[.slice none 0 0, .int .i64 k])) ∨ (∃ rs v, someR l fr mn = .inr rs ∧ e = .returned (.tuple #[v, .int .i64 0]) ∧ OwnsR w.heap.size w' v rs))

set_option maxRecDepth 100000 in
set_option maxHeartbeats 1000000 in
theorem some1_any (Ba Bb Bc : Nat) (l : List UInt8) (fr mn : Nat) (w : World) (hl : l.length ≤ 4611686018427387904) (hfr : fr ≤ 9223372036854775807) (hmn : mn ≤ 9223372036854775807) (ha : w.cell? ⟨Ba, 0, none⟩ = some (.string ⟨l.toArray⟩)) (hb : w.cell? ⟨Bb, 0, none⟩ = some (.int .i64 fr)) (hc : w.cell? ⟨Bc, 0, none⟩ = some (.int .i64 mn)) :
    Calls Try.prog 63 #[.pointer (some ⟨Ba, 0, none⟩), .pointer (some ⟨Bb, 0, none⟩), .pointer (some ⟨Bc, 0, none⟩)] w fun e w' => w.grownBy w' none ∧
      ((∃ k, someR l fr mn = .inl k ∧ e = .panicked (gave k)) ∨ (∃ rs v, someR l fr mn = .inr rs ∧ e = .returned v ∧ OwnsR w.heap.size w' v rs)) := by
  have HR : Hid (∀ u : Unit, _) := fun _ => readSome_any l fr mn w hl hfr hmn
  go_enter Try.func63, Try.ntmps63
  go_wp2_with fail
  refine (HR.out ()).mono ?_
  rintro e W2 ⟨hg2, (⟨k, hk, rfl⟩ | ⟨rs, v, hk, rfl, hown⟩)⟩
  · exact ⟨rfl, hg2, .inl ⟨k, hk, rfl⟩⟩
  · have G2 : Hid _ := hg2
    have HO : Hid _ := hown
    have HP : Hid _ := hk
    obtain ⟨a, ln, cp, rfl⟩ : ∃ a ln cp, v = .slice a ln cp := by
      rcases hown.2 with ⟨rfl, _⟩ | ⟨g, cap, cur, rfl, _⟩
      · exact ⟨_, _, _, rfl⟩
      · exact ⟨_, _, _, rfl⟩
    clear hg2 hown hk
    go_wp2
    go_ret
    exact ⟨G2.out, .inr ⟨rs, _, HP.out, rfl, HO.out⟩⟩

set_option maxRecDepth 100000 in
set_option maxHeartbeats 1000000 in
theorem atFaceS_any (Ba Bb Bc : Nat) (l : List UInt8) (fr mn : Nat) (w : World) (hl : l.length ≤ 4611686018427387904) (hfr : fr ≤ 9223372036854775807) (hmn : mn ≤ 9223372036854775807) (ha : w.cell? ⟨Ba, 0, none⟩ = some (.string ⟨l.toArray⟩)) (hb : w.cell? ⟨Bb, 0, none⟩ = some (.int .i64 fr)) (hc : w.cell? ⟨Bc, 0, none⟩ = some (.int .i64 mn)) (la : Ba < w.heap.size) (lb : Bb < w.heap.size) (lc : Bc < w.heap.size) :
    Calls Try.prog 62 #[.func (.func 63) #[] #[.pointer (some ⟨Ba, 0, none⟩), .pointer (some ⟨Bb, 0, none⟩), .pointer (some ⟨Bc, 0, none⟩)]] w (ToldS l fr mn w) := by
  have hmf : ∀ (fn : Fn) (first cap : Array Value) (w : World), (Instr.makeFunc fn first cap).run Try.prog w = .ok (.func fn first cap) w := fun _ _ _ _ => rfl
  go_enter_defers Try.func62, Try.ntmps62
  go_wp2_with fail
  obtain ⟨W1, hW1⟩ : ∃ W1, W1 = w.alloc (.cells #[.int .i64 0] 25) := ⟨_, rfl⟩
  rw [← hW1]
  have hg1 : w.grownBy W1 none := by rw [hW1]; exact galloc _ _ _
  have he1 : W1.heap[w.heap.size]? = some (.cells #[.int .i64 0] 25 (0, 0)) := by rw [hW1]; exact World.alloc_heap_new _ _
  have hs1 : W1.heap.size = w.heap.size + 1 := by rw [hW1]; simp
  clear hW1
  have ha1 := (World.cell?_of_block (hg1.block Ba la (by simp))).trans ha
  have hb1 := (World.cell?_of_block (hg1.block Bb lb (by simp))).trans hb
  have hc1 := (World.cell?_of_block (hg1.block Bc lc (by simp))).trans hc
  refine (some1_any Ba Bb Bc l fr mn W1 hl hfr hmn ha1 hb1 hc1).mono ?_
  rintro e W2 ⟨hg2, hcase⟩
  have he2 := (hg2.block w.heap.size (by omega) (by simp)).trans he1
  have G2 : Hid (w.grownBy W2 none) := gtrans hg1 hg2
  have hlt2 : w.heap.size < W2.heap.size := by have := hg2.size; omega
  have e0 := boxed_cell (i := 0) (v := .int .i64 0) he2 rfl
  have ef := boxed_frozen (i := 0) he2
  clear hg1 hg2 he1 ha1 hb1 hc1 ha hb hc
  rcases hcase with ⟨k, hk, rfl⟩ | ⟨rs, v, hk, rfl, hown⟩
  · show Leaves _ _ _ _ _ _ _
    refine leaves_cons (f := 93) (args := #[.pointer (some ⟨w.heap.size, 0, none⟩)]) (by simp) (by simp [go_sem]) ?_
    refine (catchS_panicking w.heap.size 0 k W2 e0 ef).mono ?_
    rintro e u' w'' ⟨rfl, rfl, rfl⟩
    have he3 := block_set (i := 0) he2 (.int .i64 k)
    have e3 := boxed_cell (i := 0) (v := .int .i64 k) he3 rfl
    refine ⟨.tuple #[.slice none 0 0, .int .i64 k], ?_, ?_⟩
    · clear he3 he2
      simp [results, Try.results62, go_sem, e3]
    · exact ⟨gfresh G2.out (by omega), .inl ⟨k, hk, rfl⟩⟩
  · obtain ⟨a, ln, cp, rfl⟩ : ∃ a ln cp, v = .slice a ln cp := by
      rcases hown.2 with ⟨rfl, _⟩ | ⟨g, cap, cur, rfl, _⟩
      · exact ⟨_, _, _, rfl⟩
      · exact ⟨_, _, _, rfl⟩
    have HO : Hid _ := hown
    have HP : Hid _ := hk
    clear he2 hown hk
    go_wp2
    show Leaves _ _ _ _ _ _ _
    refine leaves_cons (f := 93) (args := #[.pointer (some ⟨w.heap.size, 0, none⟩)]) (by simp) (by simp [go_sem]) ?_
    refine (catchS_idle w.heap.size _).mono ?_
    rintro e u' w'' ⟨rfl, rfl, rfl⟩
    refine ⟨.tuple #[.slice a ln cp, .int .i64 0], ?_, ?_⟩
    · simp [results, Try.results62, go_sem, e0]
    · refine ⟨gfresh G2.out (by omega), .inr ⟨rs, _, HP.out, rfl, ?_⟩⟩
      exact OwnsR.base (OwnsR.set HO.out (by omega)) (by omega)

set_option maxRecDepth 100000 in
set_option maxHeartbeats 1000000 in
/-- **Some**, of numbers that are none below zero. -/
theorem psome (l : List UInt8) (fr mn : Nat) (w : World) (hl : l.length ≤ 4611686018427387904) (hfr : fr ≤ 9223372036854775807) (hmn : mn ≤ 9223372036854775807) :
    Calls Try.prog 27 #[.string ⟨l.toArray⟩, .int .i64 fr, .int .i64 mn] w (ToldS l fr mn w) := by
  have hmf : ∀ (fn : Fn) (first cap : Array Value) (w : World), (Instr.makeFunc fn first cap).run Try.prog w = .ok (.func fn first cap) w := fun _ _ _ _ => rfl
  go_enter Try.func27, Try.ntmps27
  go_wp2_with fail
  obtain ⟨W1, hW1⟩ : ∃ W1, W1 = ((w.alloc (.cells #[.string ⟨l.toArray⟩] 9)).alloc (.cells #[.int .i64 fr] 3)).alloc (.cells #[.int .i64 mn] 3) := ⟨_, rfl⟩
  rw [← hW1]
  have hg1 : w.grownBy W1 none := by rw [hW1]; exact gallocR (gallocR (galloc _ _ _) _) _
  have hs1 : W1.heap.size = w.heap.size + 3 := by rw [hW1]; simp
  have ha1 : W1.heap[w.heap.size]? = some (.cells #[.string ⟨l.toArray⟩] 9 (0, 0)) := by rw [hW1]; exact (Below.heap_alloc _ _ _ (by simp; omega)).trans ((Below.heap_alloc _ _ _ (by simp)).trans (World.alloc_heap_new _ _))
  have hb1 : W1.heap[w.heap.size + 1]? = some (.cells #[.int .i64 fr] 3 (0, 0)) := by
    rw [hW1]
    have h := World.alloc_heap_new (w.alloc (.cells #[.string ⟨l.toArray⟩] 9)) (.cells #[.int .i64 fr] 3)
    rw [World.size_alloc] at h
    exact (Below.heap_alloc _ _ _ (by simp)).trans h
  have hc1 : W1.heap[w.heap.size + 1 + 1]? = some (.cells #[.int .i64 mn] 3 (0, 0)) := by
    rw [hW1]
    have h := World.alloc_heap_new ((w.alloc (.cells #[.string ⟨l.toArray⟩] 9)).alloc (.cells #[.int .i64 fr] 3)) (.cells #[.int .i64 mn] 3)
    rw [World.size_alloc, World.size_alloc] at h
    exact h
  clear hW1
  refine (atFaceS_any w.heap.size (w.heap.size + 1) (w.heap.size + 1 + 1) l fr mn W1 hl hfr hmn (boxed_cell ha1 rfl) (boxed_cell hb1 rfl) (boxed_cell hc1 rfl) (by omega) (by omega) (by omega)).mono ?_
  rintro e W2 ⟨hg2, hcase⟩
  have G2 : Hid (w.grownBy W2 none) := gtrans hg1 hg2
  clear hg1 hg2 ha1 hb1 hc1
  rcases hcase with ⟨k, hk, rfl⟩ | ⟨rs, v, hk, rfl, hown⟩
  · have HP : Hid _ := hk
    clear hk
    go_wp2
    refine bodyPost_ret (results_tmp2 rfl _ _ _) rfl ?_
    exact ⟨G2.out, .inl ⟨k, HP.out, rfl⟩⟩
  · obtain ⟨a, ln, cp, rfl⟩ : ∃ a ln cp, v = .slice a ln cp := by
      rcases hown.2 with ⟨rfl, _⟩ | ⟨g, cap, cur, rfl, _⟩
      · exact ⟨_, _, _, rfl⟩
      · exact ⟨_, _, _, rfl⟩
    have HO : Hid _ := hown
    have HP : Hid _ := hk
    clear hown hk
    go_wp2
    refine bodyPost_ret (results_tmp2 rfl _ _ _) rfl ?_
    exact ⟨G2.out, .inr ⟨rs, _, HP.out, rfl, OwnsR.base HO.out (by omega)⟩⟩
set_option maxRecDepth 100000 in
set_option maxHeartbeats 1000000 in
/-- .. of others. -/
theorem psome_bad (l : List UInt8) (fr mn : Int) (w : World) (h : fr < 0 ∨ mn < 0) :
    Calls Try.prog 27 #[.string ⟨l.toArray⟩, .int .i64 fr, .int .i64 mn] w fun e w' => w.grownBy w' none ∧ e = .returned (.tuple #[.slice none 0 0, .int .i64 1]) := by
  have hmf : ∀ (fn : Fn) (first cap : Array Value) (w : World), (Instr.makeFunc fn first cap).run Try.prog w = .ok (.func fn first cap) w := fun _ _ _ _ => rfl
  have e1 : (decide (fr < 0) || decide (mn < 0)) = true := by simpa using h
  go_enter Try.func27, Try.ntmps27
  go_wp2
  all_goals
    refine bodyPost_ret (results_tmp2 rfl _ _ _) rfl ?_
    exact ⟨gallocR (gallocR (galloc _ _ _) _) _, rfl⟩
end Go.Proofs.Ytkmeingnhaomaaa
