/- The program's face: what is given up is recovered. -/
import Derived.Test.YtdjmhagclcfnfabPParse
namespace Go.Proofs.Ytdjmhagclcfnfab
open Go.RowKit Go.Shelf

theorem assert_errno (w : World) (v : Value) : (Instr.typeAssert (.iface 30 v) 20 30 true).run Try.prog w = .ok (.tuple #[v, .bool true]) w := by
  simp [Instr.typeAssert, run_underlying Try.underlying30, go_sem, Result.andThen]

set_option maxRecDepth 100000 in
set_option maxHeartbeats 400000 in
theorem reason_any (k : Int) (w : World) :
    Calls Try.prog 32 #[.iface 30 (.int .i64 k)] w fun e w' => e = .returned (.int .i64 k) ∧ w' = w := by
  have ha := assert_errno w (.int .i64 k)
  go_enter Try.func32, Try.ntmps32
  go_wp2
  go_ret
  exact ⟨rfl, rfl⟩

set_option maxRecDepth 100000 in
set_option maxHeartbeats 400000 in
theorem catch_panicking (b : Nat) (x : Int) (k : Int) (w : World) (hc : w.cell? ⟨b, 0, none⟩ = some (.int .i64 x)) (hz : w.frozen? ⟨b, 0, none⟩ = false) :
    CallsD Try.prog 31 #[.pointer (some ⟨b, 0, none⟩)] (.panicking (gave k)) w fun e u' w' =>
      e = .returned (.tuple #[]) ∧ u' = .panicking [{ v := .iface 30 (.int .i64 k), recovered := true }] ∧ w' = w.setCell ⟨b, 0, none⟩ (.int .i64 k) := by
  refine callsD_of_wpS Try.func31 rfl fun c₀ cs hu => ?_
  simp only [Try.ntmps31, List.size_toArray, List.length_cons, List.length_nil, Nat.reduceAdd, Nat.reduceSub, Array.replicate_succ, Array.replicate_zero, List.push_toArray, List.append_toArray, List.nil_append, List.cons_append]
  apply wpS_seq
  apply wpS_region
  simp [wpOpsS, go_sem, recoverD, hu, Exit.thenS, gave]
  refine wpS_of_wp ?_
  go_wp2_with (go_at_call 32; refine (reason_any _ _).mono ?_; rintro e w1 ⟨rfl, rfl⟩)
  exact ⟨rfl, _, rfl, _, results_none rfl _ _ _, rfl, rfl, rfl⟩

set_option maxRecDepth 100000 in
set_option maxHeartbeats 400000 in
theorem catch_idle (b : Nat) (w : World) :
    CallsD Try.prog 31 #[.pointer (some ⟨b, 0, none⟩)] .returning w fun e u' w' => e = .returned (.tuple #[]) ∧ u' = .returning ∧ w' = w := by
  refine callsD_of_wpS Try.func31 rfl fun c₀ cs hu => ?_
  simp only [Try.ntmps31, List.size_toArray, List.length_cons, List.length_nil, Nat.reduceAdd, Nat.reduceSub, Array.replicate_succ, Array.replicate_zero, List.push_toArray, List.append_toArray, List.nil_append, List.cons_append]
  apply wpS_seq
  apply wpS_region
  simp [wpOpsS, go_sem, recoverD, hu, Exit.thenS]
  refine wpS_of_wp ?_
  go_wp2
  cases c₀
  simp only at hu
  subst hu
  exact ⟨rfl, _, rfl, _, results_none rfl _ _ _, rfl, rfl, rfl⟩

set_option maxRecDepth 100000 in
set_option maxHeartbeats 1000000 in
/-- **Caught**: what is given up with an error's number becomes the answer. -/
theorem caught_any (g : Nat) (lb : Array Value) (eg : ∀ args w, (callFunc g args).run Try.prog w = .ok (.enter g args) w) (w : World) (A : World → Prop) (B : Int → World → Prop)
    (hc : Calls Try.prog g lb (w.alloc (.cells #[.int .i64 0] 30)) fun e w' => w'.heap[w.heap.size]? = some (.cells #[.int .i64 0] 30 (0, 0)) ∧ ((e = .returned (.tuple #[]) ∧ A w') ∨ (∃ k, e = .panicked (gave k) ∧ B k w'))) :
    Calls Try.prog 17 #[.func (.func g) #[] lb] w fun e w'' => ∃ w' k, e = .returned (.int .i64 k) ∧ w'' = w'.setCell ⟨w.heap.size, 0, none⟩ (.int .i64 k) ∧ ((k = 0 ∧ A w') ∨ B k w') := by
  have hmf : ∀ (fn : Fn) (first cap : Array Value) (w : World), (Instr.makeFunc fn first cap).run Try.prog w = .ok (.func fn first cap) w := fun _ _ _ _ => rfl
  go_enter_defers Try.func17, Try.ntmps17
  have HC : Hid (∀ u : Unit, _) := fun _ => hc
  clear hc
  go_wp2_with fail
  refine (HC.out ()).mono ?_
  rintro e W2 ⟨hb2, hcase⟩
  have e0 := boxed_cell (i := 0) hb2 rfl
  have ef := boxed_frozen (i := 0) hb2
  rcases hcase with ⟨rfl, hA⟩ | ⟨k, rfl, hB⟩
  · have HA : Hid _ := hA
    clear hA
    go_wp2
    show Leaves _ _ _ _ _ _ _
    refine leaves_cons (f := 31) (args := #[.pointer (some ⟨w.heap.size, 0, none⟩)]) (by simp) (by simp [go_sem]) ?_
    refine (catch_idle w.heap.size _).mono ?_
    rintro e u' w'' ⟨rfl, rfl, rfl⟩
    have e3 := boxed_cell (i := 0) (v := .int .i64 0) (block_set (i := 0) hb2 (.int .i64 0)) rfl
    refine ⟨.int .i64 0, ?_, W2, 0, rfl, rfl, .inl ⟨rfl, HA.out⟩⟩
    simp [results, Try.results17, go_sem, e3]
  · show Leaves _ _ _ _ _ _ _
    refine leaves_cons (f := 31) (args := #[.pointer (some ⟨w.heap.size, 0, none⟩)]) (by simp) (by simp [go_sem]) ?_
    refine (catch_panicking w.heap.size 0 k W2 e0 ef).mono ?_
    rintro e u' w'' ⟨rfl, rfl, rfl⟩
    have e3 := boxed_cell (i := 0) (v := .int .i64 k) (block_set (i := 0) hb2 (.int .i64 k)) rfl
    refine ⟨.int .i64 k, ?_, W2, k, rfl, rfl, .inr hB⟩
    simp [results, Try.results17, go_sem, e3]

/-- How a reading ends, as Parse tells it. -/
def Told (l : List UInt8) (w : World) (e : Ending) (w' : World) : Prop :=
  w.grownBy w' none ∧
    ((∃ k, parseR l = .inl k ∧ e = .returned (.tuple #[.agg #[.int .i64 0, .int .i64 0, .int .i64 0, .int .i64 0, .slice none 0 0], .int .i64 k])) ∨
     (∃ f t b z rs v, parseR l = .inr (f, t, b, z, rs) ∧ e = .returned (.tuple #[.agg #[.int .i64 (f : Nat), .int .i64 (t : Nat), .int .i64 (b : Nat), .int .i64 (z : Nat), v], .int .i64 0]) ∧ OwnsR w.heap.size w' v rs))

end Go.Proofs.Ytdjmhagclcfnfab
