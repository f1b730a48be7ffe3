/- The program's face: what is given up is recovered. -/
import Derived.Test.YtdjmhagclcfnfaaPParse
namespace Go.Proofs.Ytdjmhagclcfnfaa
open Go.RowKit Go.Shelf

theorem assert_errno (w : World) (v : Value) : (Instr.typeAssert (.iface 25 v) 20 25 true).run Try.prog w = .ok (.tuple #[v, .bool true]) w := by
  simp [Instr.typeAssert, run_underlying Try.underlying25, go_sem, Result.andThen]

set_option maxRecDepth 100000 in
set_option maxHeartbeats 400000 in
theorem reason_any (k : Int) (w : World) :
    Calls Try.prog 112 #[.iface 25 (.int .i64 k)] w fun e w' => e = .returned (.int .i64 k) ∧ w' = w := by
  have ha := assert_errno w (.int .i64 k)
  go_enter Try.func112, Try.ntmps112
  go_wp2
  go_ret
  exact ⟨rfl, rfl⟩

set_option maxRecDepth 100000 in
set_option maxHeartbeats 400000 in
theorem catch_panicking (b : Nat) (x : Int) (k : Int) (w : World) (hc : w.cell? ⟨b, 0, none⟩ = some (.int .i64 x)) (hz : w.frozen? ⟨b, 0, none⟩ = false) :
    CallsD Try.prog 111 #[.pointer (some ⟨b, 0, none⟩)] (.panicking (gave k)) w fun e u' w' =>
      e = .returned (.tuple #[]) ∧ u' = .panicking [{ v := .iface 25 (.int .i64 k), recovered := true }] ∧ w' = w.setCell ⟨b, 0, none⟩ (.int .i64 k) := by
  refine callsD_of_wpS Try.func111 rfl fun c₀ cs hu => ?_
  simp only [Try.ntmps111, List.size_toArray, List.length_cons, List.length_nil, Nat.reduceAdd, Nat.reduceSub, Array.replicate_succ, Array.replicate_zero, List.push_toArray, List.append_toArray, List.nil_append, List.cons_append]
  apply wpS_seq
  apply wpS_region
  simp [wpOpsS, go_sem, recoverD, hu, Exit.thenS, gave]
  refine wpS_of_wp ?_
  go_wp2_with (go_at_call 112; refine (reason_any _ _).mono ?_; rintro e w1 ⟨rfl, rfl⟩)
  exact ⟨rfl, _, rfl, _, results_none rfl _ _ _, rfl, rfl, rfl⟩

set_option maxRecDepth 100000 in
set_option maxHeartbeats 400000 in
theorem catch_idle (b : Nat) (w : World) :
    CallsD Try.prog 111 #[.pointer (some ⟨b, 0, none⟩)] .returning w fun e u' w' => e = .returned (.tuple #[]) ∧ u' = .returning ∧ w' = w := by
  refine callsD_of_wpS Try.func111 rfl fun c₀ cs hu => ?_
  simp only [Try.ntmps111, List.size_toArray, List.length_cons, List.length_nil, Nat.reduceAdd, Nat.reduceSub, Array.replicate_succ, Array.replicate_zero, List.push_toArray, List.append_toArray, List.nil_append, List.cons_append]
  apply wpS_seq
  apply wpS_region
  simp [wpOpsS, go_sem, recoverD, hu, Exit.thenS]
  refine wpS_of_wp ?_
  go_wp2
  cases c₀
  simp only at hu
  subst hu
  exact ⟨rfl, _, rfl, _, results_none rfl _ _ _, rfl, rfl, rfl⟩

set_option maxRecDepth 100000 in
set_option maxHeartbeats 1000000 in
/-- **Caught**: what is given up with an error's number becomes the answer. -/
theorem caught_any (g : Nat) (lb : Array Value) (eg : ∀ args w, (callFunc g args).run Try.prog w = .ok (.enter g args) w) (w : World) (A : World → Prop) (B : Int → World → Prop)
    (hc : Calls Try.prog g lb (w.alloc (.cells #[.int .i64 0] 25)) fun e w' => w'.heap[w.heap.size]? = some (.cells #[.int .i64 0] 25 (0, 0)) ∧ ((e = .returned (.tuple #[]) ∧ A w') ∨ (∃ k, e = .panicked (gave k) ∧ B k w'))) :
    Calls Try.prog 80 #[.func (.func g) #[] lb] w fun e w'' => ∃ w' k, e = .returned (.int .i64 k) ∧ w'' = w'.setCell ⟨w.heap.size, 0, none⟩ (.int .i64 k) ∧ ((k = 0 ∧ A w') ∨ B k w') := by
  have hmf : ∀ (fn : Fn) (first cap : Array Value) (w : World), (Instr.makeFunc fn first cap).run Try.prog w = .ok (.func fn first cap) w := fun _ _ _ _ => rfl
  go_enter_defers Try.func80, Try.ntmps80
  have HC : Hid (∀ u : Unit, _) := fun _ => hc
  clear hc
  go_wp2_with fail
  refine (HC.out ()).mono ?_
  rintro e W2 ⟨hb2, hcase⟩
  have e0 := boxed_cell (i := 0) hb2 rfl
  have ef := boxed_frozen (i := 0) hb2
  rcases hcase with ⟨rfl, hA⟩ | ⟨k, rfl, hB⟩
  · have HA : Hid _ := hA
    clear hA
    go_wp2
    show Leaves _ _ _ _ _ _ _
    refine leaves_cons (f := 111) (args := #[.pointer (some ⟨w.heap.size, 0, none⟩)]) (by simp) (by simp [go_sem]) ?_
    refine (catch_idle w.heap.size _).mono ?_
    rintro e u' w'' ⟨rfl, rfl, rfl⟩
    have e3 := boxed_cell (i := 0) (v := .int .i64 0) (block_set (i := 0) hb2 (.int .i64 0)) rfl
    refine ⟨.int .i64 0, ?_, W2, 0, rfl, rfl, .inl ⟨rfl, HA.out⟩⟩
    simp [results, Try.results80, go_sem, e3]
  · show Leaves _ _ _ _ _ _ _
    refine leaves_cons (f := 111) (args := #[.pointer (some ⟨w.heap.size, 0, none⟩)]) (by simp) (by simp [go_sem]) ?_
    refine (catch_panicking w.heap.size 0 k W2 e0 ef).mono ?_
    rintro e u' w'' ⟨rfl, rfl, rfl⟩
    have e3 := boxed_cell (i := 0) (v := .int .i64 k) (block_set (i := 0) hb2 (.int .i64 k)) rfl
    refine ⟨.int .i64 k, ?_, W2, k, rfl, rfl, .inr hB⟩
    simp [results, Try.results80, go_sem, e3]

set_option maxRecDepth 100000 in
set_option maxHeartbeats 1000000 in
theorem face1_gen (gd : Nat) (ld : Array Value) (ed : ∀ args w, (callFunc gd args).run Try.prog w = .ok (.enter gd args) w) (Bd Ba : Nat) (PK : Int → Prop) (PR : Nat → Nat → Nat → Nat → List Rc → Prop) (w : World)
    (hd : w.cell? ⟨Bd, 0, none⟩ = some (.func (.func gd) #[] ld)) (ha : w.heap[Ba]? = some (.cells #[.int .i64 0, .int .i64 0, .int .i64 0, .int .i64 0, .slice none 0 0] 24 (0, 0)))
    (hdo : Calls Try.prog gd ld w fun e w' => w.grownBy w' none ∧ ((∃ k, PK k ∧ e = .panicked (gave k)) ∨ (∃ f t b z rs v, PR f t b z rs ∧ e = .returned (.agg #[.int .i64 (f : Nat), .int .i64 (t : Nat), .int .i64 (b : Nat), .int .i64 (z : Nat), v]) ∧ OwnsR w.heap.size w' v rs))) :
    Calls Try.prog 81 #[.pointer (some ⟨Bd, 0, none⟩), .pointer (some ⟨Ba, 0, none⟩)] w fun e w' =>
      (∃ k, e = .panicked (gave k) ∧ PK k ∧ w.grownBy w' none) ∨ (e = .returned (.tuple #[]) ∧ ∃ f t b z rs a ln cp, PR f t b z rs ∧ w'.heap[Ba]? = some (.cells #[.int .i64 (f : Nat), .int .i64 (t : Nat), .int .i64 (b : Nat), .int .i64 (z : Nat), .slice a ln cp] 24 (0, 0)) ∧ OwnsR w.heap.size w' (.slice a ln cp) rs ∧ w.grownBy w' (some Ba)) := by
  have HD : Hid (∀ u : Unit, _) := fun _ => hdo
  have HA : Hid _ := ha
  have la : Ba < w.heap.size := (Array.getElem?_eq_some_iff.1 ha).1
  clear hdo ha
  go_enter Try.func81, Try.ntmps81
  go_wp2_with fail
  refine (HD.out ()).mono ?_
  rintro e W2 ⟨hg2, (⟨k, hk, rfl⟩ | ⟨f, t, b, z, rs, v, hk, rfl, hown⟩)⟩
  · exact ⟨rfl, .inl ⟨k, rfl, hk, hg2⟩⟩
  · have hb2 := (hg2.block Ba la (by simp)).trans HA.out
    obtain ⟨a, ln, cp, rfl⟩ : ∃ a ln cp, v = .slice a ln cp := by
      rcases hown.2 with ⟨rfl, _⟩ | ⟨g, cap, cur, rfl, _⟩
      · exact ⟨_, _, _, rfl⟩
      · exact ⟨_, _, _, rfl⟩
    have HO : Hid (OwnsR w.heap.size W2 (.slice a ln cp) rs) := hown
    have HP : Hid _ := hk
    have HG : Hid (w.grownBy W2 none) := hg2
    have HB : Hid (W2.heap[Ba]? = some (.cells #[.int .i64 0, .int .i64 0, .int .i64 0, .int .i64 0, .slice none 0 0] 24 (0, 0))) := hb2
    have c0 := boxed_cell (i := 0) hb2 rfl
    have f0 := boxed_frozen (i := 0) hb2
    have c1 := boxed_cell (i := 1) hb2 rfl
    have f1 := boxed_frozen (i := 1) hb2
    have c2 := boxed_cell (i := 2) hb2 rfl
    have f2 := boxed_frozen (i := 2) hb2
    have c3 := boxed_cell (i := 3) hb2 rfl
    have f3 := boxed_frozen (i := 3) hb2
    have c4 := boxed_cell (i := 4) hb2 rfl
    have f4 := boxed_frozen (i := 4) hb2
    clear hb2 hown hk hg2
    go_wp2
    go_end0
    refine .inr ⟨rfl, f, t, b, z, rs, a, ln, cp, HP.out, ?_, ?_, ?_⟩
    · exact block_set (i := 4) (block_set (i := 3) (block_set (i := 2) (block_set (i := 1) (block_set (i := 0) HB.out (.int .i64 f)) (.int .i64 t)) (.int .i64 b)) (.int .i64 z)) (.slice a ln cp)
    · exact OwnsR.set (OwnsR.set (OwnsR.set (OwnsR.set (OwnsR.set HO.out la) la) la) la) la
    · exact gtrans (gnone HG.out) (gtrans (gset _ Ba 0 _) (gtrans (gset _ Ba 1 _) (gtrans (gset _ Ba 2 _) (gtrans (gset _ Ba 3 _) (gset _ Ba 4 _)))))

set_option maxRecDepth 100000 in
set_option maxHeartbeats 1000000 in
/-- **atFace**, of a call that answers a stream. -/
theorem atFace_gen (gd : Nat) (ld : Array Value) (ed : ∀ args w, (callFunc gd args).run Try.prog w = .ok (.enter gd args) w) (PK : Int → Prop) (PR : Nat → Nat → Nat → Nat → List Rc → Prop) (w : World)
    (hdo : ∀ W, w.grownBy W none → Calls Try.prog gd ld W fun e w' => W.grownBy w' none ∧ ((∃ k, PK k ∧ e = .panicked (gave k)) ∨ (∃ f t b z rs v, PR f t b z rs ∧ e = .returned (.agg #[.int .i64 (f : Nat), .int .i64 (t : Nat), .int .i64 (b : Nat), .int .i64 (z : Nat), v]) ∧ OwnsR W.heap.size w' v rs))) :
    Calls Try.prog 48 #[.func (.func gd) #[] ld] w fun e w' => w.grownBy w' none ∧
      ((∃ k, PK k ∧ e = .returned (.tuple #[.agg #[.int .i64 0, .int .i64 0, .int .i64 0, .int .i64 0, .slice none 0 0], .int .i64 k])) ∨
       (∃ f t b z rs v, PR f t b z rs ∧ e = .returned (.tuple #[.agg #[.int .i64 (f : Nat), .int .i64 (t : Nat), .int .i64 (b : Nat), .int .i64 (z : Nat), v], .int .i64 0]) ∧ OwnsR w.heap.size w' v rs)) := by
  have hmf : ∀ (fn : Fn) (first cap : Array Value) (w : World), (Instr.makeFunc fn first cap).run Try.prog w = .ok (.func fn first cap) w := fun _ _ _ _ => rfl
  have HD : Hid _ := hdo
  clear hdo
  go_enter Try.func48, Try.ntmps48
  go_wp2_with fail
  obtain ⟨W1, hW1⟩ : ∃ W1, W1 = (w.alloc (.cells #[.func (.func gd) #[] ld] 81)).alloc (.cells #[.int .i64 0, .int .i64 0, .int .i64 0, .int .i64 0, .slice none 0 0] 24) := ⟨_, rfl⟩
  rw [← hW1]
  have hs1 : W1.heap.size = w.heap.size + 2 := by rw [hW1]; simp
  have hg1 : w.grownBy W1 none := by rw [hW1]; exact gallocR (galloc _ _ _) _
  have hd1 : W1.heap[w.heap.size]? = some (.cells #[.func (.func gd) #[] ld] 81 (0, 0)) := by rw [hW1]; exact (Below.heap_alloc _ _ _ (by simp)).trans (World.alloc_heap_new _ _)
  have ha1 : W1.heap[w.heap.size + 1]? = some (.cells #[.int .i64 0, .int .i64 0, .int .i64 0, .int .i64 0, .slice none 0 0] 24 (0, 0)) := by
    rw [hW1]
    have h := World.alloc_heap_new (w.alloc (.cells #[.func (.func gd) #[] ld] 81)) (.cells #[.int .i64 0, .int .i64 0, .int .i64 0, .int .i64 0, .slice none 0 0] 24)
    rw [World.size_alloc] at h
    exact h
  clear hW1
  obtain ⟨O, hO⟩ : ∃ O : Obj, O = .cells #[.int .i64 0] 25 := ⟨_, rfl⟩
  have hg2 : w.grownBy (W1.alloc O) none := gallocR hg1 _
  have hf := face1_gen gd ld ed w.heap.size (w.heap.size + 1) PK PR (W1.alloc O) (boxed_cell (i := 0) ((Below.heap_alloc _ _ _ (by omega)).trans hd1) rfl) ((Below.heap_alloc _ _ _ (by omega)).trans ha1) (HD.out _ hg2)
  have hn : (W1.alloc O).heap[W1.heap.size]? = some O := World.alloc_heap_new _ _
  have hsO : (W1.alloc O).heap.size = w.heap.size + 3 := by simp; omega
  have hca := caught_any 81 #[.pointer (some ⟨w.heap.size, 0, none⟩), .pointer (some ⟨w.heap.size + 1, 0, none⟩)] (enters_of Try.func81 (by kernel_rfl) rfl) W1
    (fun w' => ∃ f t b z rs a ln cp, PR f t b z rs ∧ w'.heap[w.heap.size + 1]? = some (.cells #[.int .i64 (f : Nat), .int .i64 (t : Nat), .int .i64 (b : Nat), .int .i64 (z : Nat), .slice a ln cp] 24 (0, 0)) ∧ OwnsR (w.heap.size + 3) w' (.slice a ln cp) rs ∧ w.grownBy w' none ∧ W1.heap.size < w'.heap.size)
    (fun k w' => PK k ∧ w'.heap[w.heap.size + 1]? = some (.cells #[.int .i64 0, .int .i64 0, .int .i64 0, .int .i64 0, .slice none 0 0] 24 (0, 0)) ∧ w.grownBy w' none ∧ W1.heap.size < w'.heap.size) (by
      rw [← hO]
      refine hf.mono ?_
      rintro e w' (⟨k, rfl, hk, hg⟩ | ⟨rfl, f, t, b, z, rs, a, ln, cp, hk, hb, ho, hg⟩)
      · refine ⟨(hg.block _ (by omega) (by simp)).trans hn, .inr ⟨k, rfl, hk, (hg.block _ (by omega) (by simp)).trans ((Below.heap_alloc _ _ _ (by omega)).trans ha1), gtrans hg2 hg, by have := hg.size; omega⟩⟩
      · refine ⟨(hg.block _ (by omega) (by simp; omega)).trans hn, .inl ⟨rfl, f, t, b, z, rs, a, ln, cp, hk, hb, by rw [← hsO]; exact ho, gbut hg2 hg (by omega), by have := hg.size; omega⟩⟩)
  refine hca.mono ?_
  clear hf hca hn hg2
  rintro e w'' ⟨w', k, rfl, rfl, (⟨rfl, f, t, b, z, rs, a, ln, cp, hk, hb, ho, hg, hsz⟩ | ⟨hk, hb, hg, hsz⟩)⟩
  · have hb2 : (w'.setCell ⟨W1.heap.size, 0, none⟩ (.int .i64 0)).heap[w.heap.size + 1]? = _ := (Below.heap_setCell _ _ _ _ (by show w.heap.size + 1 ≠ W1.heap.size; omega)).trans hb
    have HO : Hid (OwnsR (w.heap.size + 3) (w'.setCell ⟨W1.heap.size, 0, none⟩ (.int .i64 0)) (.slice a ln cp) rs) := ho.set (by omega)
    have HP : Hid _ := hk
    have HG : Hid (w.grownBy (w'.setCell ⟨W1.heap.size, 0, none⟩ (.int .i64 0)) none) := gfresh hg (by omega)
    generalize w'.setCell ⟨W1.heap.size, 0, none⟩ (.int .i64 0) = W3 at *
    have c0 := boxed_cell (i := 0) hb2 rfl
    have f0 := boxed_frozen (i := 0) hb2
    have c1 := boxed_cell (i := 1) hb2 rfl
    have f1 := boxed_frozen (i := 1) hb2
    have c2 := boxed_cell (i := 2) hb2 rfl
    have f2 := boxed_frozen (i := 2) hb2
    have c3 := boxed_cell (i := 3) hb2 rfl
    have f3 := boxed_frozen (i := 3) hb2
    have c4 := boxed_cell (i := 4) hb2 rfl
    have f4 := boxed_frozen (i := 4) hb2
    clear hb2 ho hk hg hb ha1 hd1
    go_wp2
    refine bodyPost_ret (v := .tuple #[.agg #[.int .i64 f, .int .i64 t, .int .i64 b, .int .i64 z, .slice a ln cp], .int .i64 0]) (by simp [results, Try.results48, go_sem, c0, c1, c2, c3, c4]) rfl ?_
    refine ⟨gfresh (gfresh (gfresh (gfresh (gfresh HG.out (by omega)) (by omega)) (by omega)) (by omega)) (by omega), .inr ⟨f, t, b, z, rs, _, HP.out, rfl, ?_⟩⟩
    exact OwnsR.base (OwnsR.set (OwnsR.set (OwnsR.set (OwnsR.set (OwnsR.set HO.out (by omega)) (by omega)) (by omega)) (by omega)) (by omega)) (by omega)
  · have hb2 : (w'.setCell ⟨W1.heap.size, 0, none⟩ (.int .i64 k)).heap[w.heap.size + 1]? = _ := (Below.heap_setCell _ _ _ _ (by show w.heap.size + 1 ≠ W1.heap.size; omega)).trans hb
    have HP : Hid _ := hk
    have HG : Hid (w.grownBy (w'.setCell ⟨W1.heap.size, 0, none⟩ (.int .i64 k)) none) := gfresh hg (by omega)
    generalize w'.setCell ⟨W1.heap.size, 0, none⟩ (.int .i64 k) = W3 at *
    have c0 := boxed_cell (i := 0) hb2 rfl
    have f0 := boxed_frozen (i := 0) hb2
    have c1 := boxed_cell (i := 1) hb2 rfl
    have f1 := boxed_frozen (i := 1) hb2
    have c2 := boxed_cell (i := 2) hb2 rfl
    have f2 := boxed_frozen (i := 2) hb2
    have c3 := boxed_cell (i := 3) hb2 rfl
    have f3 := boxed_frozen (i := 3) hb2
    have c4 := boxed_cell (i := 4) hb2 rfl
    have f4 := boxed_frozen (i := 4) hb2
    clear hb2 hk hg hb ha1 hd1
    go_wp2
    refine bodyPost_ret (v := .tuple #[.agg #[.int .i64 0, .int .i64 0, .int .i64 0, .int .i64 0, .slice none 0 0], .int .i64 k]) (by simp [results, Try.results48, go_sem, c0, c1, c2, c3, c4]) rfl ?_
    exact ⟨gfresh (gfresh (gfresh (gfresh (gfresh HG.out (by omega)) (by omega)) (by omega)) (by omega)) (by omega), .inl ⟨k, HP.out, rfl⟩⟩

/-- How a reading ends, as Parse tells it. -/
def Told (l : List UInt8) (w : World) (e : Ending) (w' : World) : Prop :=
  w.grownBy w' none ∧
    ((∃ k, parseR l = .inl k ∧ e = .returned (.tuple #[.agg #[.int .i64 0, .int .i64 0, .int .i64 0, .int .i64 0, .slice none 0 0], .int .i64 k])) ∨
     (∃ f t b z rs v, parseR l = .inr (f, t, b, z, rs) ∧ e = .returned (.tuple #[.agg #[.int .i64 (f : Nat), .int .i64 (t : Nat), .int .i64 (b : Nat), .int .i64 (z : Nat), v], .int .i64 0]) ∧ OwnsR w.heap.size w' v rs))

set_option maxRecDepth 100000 in
set_option maxHeartbeats 1000000 in
theorem parse1_any (Bt : Nat) (l : List UInt8) (w : World) (hl : l.length ≤ 4611686018427387904) (ht : w.cell? ⟨Bt, 0, none⟩ = some (.string ⟨l.toArray⟩)) (hb : Bt < w.heap.size) :
    Calls Try.prog 49 #[.pointer (some ⟨Bt, 0, none⟩)] w fun e w' => w.grownBy w' none ∧
      ((∃ k, parseR l = .inl k ∧ e = .panicked (gave k)) ∨ (∃ f t b z rs v, parseR l = .inr (f, t, b, z, rs) ∧ e = .returned (.agg #[.int .i64 (f : Nat), .int .i64 (t : Nat), .int .i64 (b : Nat), .int .i64 (z : Nat), v]) ∧ OwnsR w.heap.size w' v rs)) := by
  have hne : Bt ≠ w.heap.size := by omega
  go_enter Try.func49, Try.ntmps49
  go_wp2_with fail
  obtain ⟨W1, hW1⟩ : ∃ W1, W1 = w.alloc (.cells #[.int .i64 0, .int .i64 0, .int .i64 0, .int .i64 0, .slice none 0 0] 24) := ⟨_, rfl⟩
  rw [← hW1]
  have hs1 : W1.heap.size = w.heap.size + 1 := by rw [hW1]; simp
  have hg1 : w.grownBy W1 none := by rw [hW1]; exact galloc _ _ _
  have hb1 : W1.heap[w.heap.size]? = some (.cells #[.int .i64 0, .int .i64 0, .int .i64 0, .int .i64 0, .slice none 0 0] 24 (0, 0)) := by rw [hW1]; exact World.alloc_heap_new _ _
  clear hW1 ht
  refine (readStream_any l W1 hl).mono ?_
  rintro e W2 ⟨hg2, (⟨k, hk, rfl⟩ | ⟨f, t, b, z, rs, v, hk, rfl, hown⟩)⟩
  · exact ⟨rfl, gtrans hg1 hg2, .inl ⟨k, hk, rfl⟩⟩
  · have hb2 := (hg2.block w.heap.size (by omega) (by simp)).trans hb1
    have G2 : Hid (w.grownBy W2 none) := gtrans hg1 hg2
    have hlt2 : w.heap.size < W2.heap.size := by have := hg2.size; omega
    have HO : Hid _ := hown
    have HP : Hid _ := hk
    obtain ⟨a, ln, cp, rfl⟩ : ∃ a ln cp, v = .slice a ln cp := by
      rcases hown.2 with ⟨rfl, _⟩ | ⟨g, cap, cur, rfl, _⟩
      · exact ⟨_, _, _, rfl⟩
      · exact ⟨_, _, _, rfl⟩
    have c0 := boxed_cell (i := 0) hb2 rfl
    have f0 := boxed_frozen (i := 0) hb2
    have c1 := boxed_cell (i := 1) hb2 rfl
    have f1 := boxed_frozen (i := 1) hb2
    have c2 := boxed_cell (i := 2) hb2 rfl
    have f2 := boxed_frozen (i := 2) hb2
    have c3 := boxed_cell (i := 3) hb2 rfl
    have f3 := boxed_frozen (i := 3) hb2
    have c4 := boxed_cell (i := 4) hb2 rfl
    have f4 := boxed_frozen (i := 4) hb2
    clear hg1 hg2 hb1 hb2 hown hk
    go_wp2
    refine bodyPost_ret (v := .agg #[.int .i64 f, .int .i64 t, .int .i64 b, .int .i64 z, .slice a ln cp]) (by simp [results, Try.results49, go_sem, c0, c1, c2, c3, c4]) rfl ?_
    refine ⟨?_, .inr ⟨f, t, b, z, rs, _, HP.out, rfl, ?_⟩⟩
    · exact gfresh (gfresh (gfresh (gfresh (gfresh G2.out (Nat.le_refl _)) (Nat.le_refl _)) (Nat.le_refl _)) (Nat.le_refl _)) (Nat.le_refl _)
    · exact OwnsR.base (OwnsR.set (OwnsR.set (OwnsR.set (OwnsR.set (OwnsR.set HO.out (by omega)) (by omega)) (by omega)) (by omega)) (by omega)) (by omega)

theorem atFace_any (Bt : Nat) (l : List UInt8) (w : World) (hl : l.length ≤ 4611686018427387904) (ht : w.cell? ⟨Bt, 0, none⟩ = some (.string ⟨l.toArray⟩)) (hb : Bt < w.heap.size) :
    Calls Try.prog 48 #[.func (.func 49) #[] #[.pointer (some ⟨Bt, 0, none⟩)]] w (Told l w) :=
  atFace_gen 49 #[.pointer (some ⟨Bt, 0, none⟩)] (enters_of Try.func49 (by kernel_rfl) rfl) (fun k => parseR l = .inl k) (fun f t b z rs => parseR l = .inr (f, t, b, z, rs)) w
    (fun W hg => parse1_any Bt l W hl ((World.cell?_of_block (hg.block Bt hb (by simp))).trans ht) (Nat.lt_of_lt_of_le hb hg.size))

set_option maxRecDepth 100000 in
set_option maxHeartbeats 1000000 in
/-- **Parse**, of any text. -/
theorem pparse (l : List UInt8) (w : World) (hl : l.length ≤ 4611686018427387904) :
    Calls Try.prog 14 #[.string ⟨l.toArray⟩] w (Told l w) := by
  have hmf : ∀ (fn : Fn) (first cap : Array Value) (w : World), (Instr.makeFunc fn first cap).run Try.prog w = .ok (.func fn first cap) w := fun _ _ _ _ => rfl
  go_enter Try.func14, Try.ntmps14
  go_wp2_with fail
  obtain ⟨W1, hW1⟩ : ∃ W1, W1 = (w.alloc (.cells #[.string ⟨l.toArray⟩] 9)).alloc (.cells #[.int .i64 0, .int .i64 0, .int .i64 0, .int .i64 0, .slice none 0 0] 24) := ⟨_, rfl⟩
  rw [← hW1]
  have hs1 : W1.heap.size = w.heap.size + 2 := by rw [hW1]; simp
  have hg1 : w.grownBy W1 none := by rw [hW1]; exact gallocR (galloc _ _ _) _
  have ht1 : W1.heap[w.heap.size]? = some (.cells #[.string ⟨l.toArray⟩] 9 (0, 0)) := by rw [hW1]; exact (Below.heap_alloc _ _ _ (by simp)).trans (World.alloc_heap_new _ _)
  have hb1 : W1.heap[w.heap.size + 1]? = some (.cells #[.int .i64 0, .int .i64 0, .int .i64 0, .int .i64 0, .slice none 0 0] 24 (0, 0)) := by
    rw [hW1]
    have h := World.alloc_heap_new (w.alloc (.cells #[.string ⟨l.toArray⟩] 9)) (.cells #[.int .i64 0, .int .i64 0, .int .i64 0, .int .i64 0, .slice none 0 0] 24)
    rw [World.size_alloc] at h
    exact h
  clear hW1
  refine (atFace_any w.heap.size l W1 hl (boxed_cell (i := 0) ht1 rfl) (by omega)).mono ?_
  rintro e W2 ⟨hg2, hcase⟩
  have hb2 := (hg2.block (w.heap.size + 1) (by omega) (by simp)).trans hb1
  have G2 : Hid (w.grownBy W2 none) := gtrans hg1 hg2
  have hlt2 : w.heap.size + 1 < W2.heap.size := by have := hg2.size; omega
  clear hg1 hg2 hb1 ht1
  have c0 := boxed_cell (i := 0) hb2 rfl
  have f0 := boxed_frozen (i := 0) hb2
  have c1 := boxed_cell (i := 1) hb2 rfl
  have f1 := boxed_frozen (i := 1) hb2
  have c2 := boxed_cell (i := 2) hb2 rfl
  have f2 := boxed_frozen (i := 2) hb2
  have c3 := boxed_cell (i := 3) hb2 rfl
  have f3 := boxed_frozen (i := 3) hb2
  have c4 := boxed_cell (i := 4) hb2 rfl
  have f4 := boxed_frozen (i := 4) hb2
  clear hb2
  rcases hcase with ⟨k, hk, rfl⟩ | ⟨f, t, b, z, rs, v, hk, rfl, hown⟩
  · have HP : Hid _ := hk
    clear hk
    go_wp2
    refine bodyPost_ret (v := .tuple #[.agg #[.int .i64 0, .int .i64 0, .int .i64 0, .int .i64 0, .slice none 0 0], .int .i64 k]) (by simp [results, Try.results14, go_sem, c0, c1, c2, c3, c4]) rfl ?_
    exact ⟨gfresh (gfresh (gfresh (gfresh (gfresh G2.out (by omega)) (by omega)) (by omega)) (by omega)) (by omega), .inl ⟨k, HP.out, rfl⟩⟩
  · obtain ⟨a, ln, cp, rfl⟩ : ∃ a ln cp, v = .slice a ln cp := by
      rcases hown.2 with ⟨rfl, _⟩ | ⟨g, cap, cur, rfl, _⟩
      · exact ⟨_, _, _, rfl⟩
      · exact ⟨_, _, _, rfl⟩
    have HO : Hid _ := hown
    have HP : Hid _ := hk
    clear hown hk
    go_wp2
    refine bodyPost_ret (v := .tuple #[.agg #[.int .i64 f, .int .i64 t, .int .i64 b, .int .i64 z, .slice a ln cp], .int .i64 0]) (by simp [results, Try.results14, go_sem, c0, c1, c2, c3, c4]) rfl ?_
    refine ⟨gfresh (gfresh (gfresh (gfresh (gfresh G2.out (by omega)) (by omega)) (by omega)) (by omega)) (by omega), .inr ⟨f, t, b, z, rs, _, HP.out, rfl, ?_⟩⟩
    exact OwnsR.base (OwnsR.set (OwnsR.set (OwnsR.set (OwnsR.set (OwnsR.set HO.out (by omega)) (by omega)) (by omega)) (by omega)) (by omega)) (by omega)
end Go.Proofs.Ytdjmhagclcfnfaa
