/- LExact2, KInts, PSome2, KEarly, KEarly2 -/
import Derived.Test.YtkmeingnhaomaabLExact
import Derived.Test.YtkmeingnhaomaabLWrites3
import Derived.OpenShut
import Derived.ShutString
import Derived.Test.YtkmeingnhaomaabKPick
import Derived.ChangeSlices
import Derived.Test.YtkmeingnhaomaabPSome
import Derived.Test.YtkmeingnhaomaabKText
import Derived.Test.YtkmeingnhaomaabEarlyM
/- The statement on Exact. -/
namespace Go.Proofs.Ytkmeingnhaomaab
open Go.ChangeShapes Go.WideShapes Go.ChangeAt Go.RowKit
open Go.ChangeMaps (open_string shut_string)

theorem below_of_grown {A B : World} (h : A.grownBy B none) : Below A.heap.size A B := ⟨h.os, h.tape, h.output, h.size, fun k hk => h.block k hk (by simp)⟩

end Go.Proofs.Ytkmeingnhaomaab
/- Lists of ints and ints, opened. -/
namespace Go.Proofs.Ytkmeingnhaomaab
open Go.ChangeShapes Go.WideShapes Go.ChangeAt Go.RowKit

theorem wf_i64 {n : Int} (h : (Lit.int .i64 n).wf = true) : I64 n := by
  simp only [Lit.wf, Bool.and_eq_true, decide_eq_true_eq] at h
  exact ⟨h.1, h.2⟩
theorem getD_at (zs : List Int) (j : Nat) (h : j < zs.length) : zs.getD j 0 = zs[j] := by
  rw [List.getD_eq_getElem?_getD, List.getElem?_eq_getElem h, Option.getD_some]
set_option maxRecDepth 100000 in
theorem open_nums {H : Type} {enc : TypeId × Value → H} {W : World} {base : Nat} {v : Value} {d : DataW H} {p : List MemPlace} (hv : Value.okWide Try.prog W .any base 22 v) (h : DataW.Trod enc Try.prog W 0 (fun _ => true) true 22 v d p) :
    ∃ xs : List Int, Ints W.heap.size W v xs ∧ (∀ x ∈ xs, I64 x) ∧ xs.length ≤ 9223372036854775807 := by
  obtain ⟨a, len, cap, rfl⟩ := okWide_slice Try.underlying22 hv
  obtain ⟨fuel, hf⟩ := h
  rcases open_ints Try.underlying22 Try.underlying3 Try.cellsInt hf with ⟨e, _⟩ | ⟨a', len', cap', zs, e, _, hl, hm, hzl, _, hc, hwf⟩
  · simp [Value.cells] at e
    obtain ⟨rfl, rfl, rfl⟩ := e
    exact ⟨[], .inl ⟨rfl, none, 0, rfl⟩, (fun x hx => by cases hx), by simp⟩
  · simp [Value.cells] at e
    obtain ⟨rfl, rfl, rfl⟩ := e
    simp only [if_true] at hzl
    have hl2 : (zs.take len).length = len := by rw [List.length_take]; omega
    have hm' : cap ≤ 9223372036854775807 := hm
    refine ⟨zs.take len, ?_, fun x hx => wf_i64 (hwf x (List.mem_of_mem_take hx)), by omega⟩
    by_cases h0 : len = 0
    · subst h0
      exact .inl ⟨by simp, some a', cap, rfl⟩
    · have c0 := hc 0 (by omega)
      obtain ⟨b, o, sp⟩ := a'
      obtain rfl : sp = none := by
        have := World.cell?_spot c0
        simpa [Addr.add] using this
      refine .inr ⟨b, o, cap, by rw [hl2], World.block_lt_of_cell? W _ c0, fun j hj => ?_⟩
      rw [hl2] at hj
      have := hc j (by omega)
      rw [Addr.add_lit, getD_at zs j (by omega)] at this
      rw [List.getElem_take]
      exact this
end Go.Proofs.Ytkmeingnhaomaab
/- The program's Some. -/
namespace Go.Proofs.Ytkmeingnhaomaab
open Go.RowKit Go.Shelf

set_option maxRecDepth 100000 in
set_option maxHeartbeats 400000 in
theorem catchS_panicking (b : Nat) (x : Int) (k : Int) (w : World) (hc : w.cell? ⟨b, 0, none⟩ = some (.int .i64 x)) (hz : w.frozen? ⟨b, 0, none⟩ = false) :
    CallsD Try.prog 29 #[.pointer (some ⟨b, 0, none⟩)] (.panicking (gave k)) w fun e u' w' =>
      e = .returned (.tuple #[]) ∧ u' = .panicking [{ v := .iface 30 (.int .i64 k), recovered := true }] ∧ w' = w.setCell ⟨b, 0, none⟩ (.int .i64 k) := by
  refine callsD_of_wpS Try.func29 rfl fun c₀ cs hu => ?_
  simp only [Try.ntmps29, List.size_toArray, List.length_cons, List.length_nil, Nat.reduceAdd, Nat.reduceSub, Array.replicate_succ, Array.replicate_zero, List.push_toArray, List.append_toArray, List.nil_append, List.cons_append]
  apply wpS_seq
  apply wpS_region
  simp [wpOpsS, go_sem, recoverD, hu, Exit.thenS, gave]
  refine wpS_of_wp ?_
  go_wp2_with (go_at_call 30; refine (reason_any _ _).mono ?_; rintro e w1 ⟨rfl, rfl⟩)
  exact ⟨rfl, _, rfl, _, results_none rfl _ _ _, rfl, rfl, rfl⟩

set_option maxRecDepth 100000 in
set_option maxHeartbeats 400000 in
theorem catchS_idle (b : Nat) (w : World) :
    CallsD Try.prog 29 #[.pointer (some ⟨b, 0, none⟩)] .returning w fun e u' w' => e = .returned (.tuple #[]) ∧ u' = .returning ∧ w' = w := by
  refine callsD_of_wpS Try.func29 rfl fun c₀ cs hu => ?_
  simp only [Try.ntmps29, List.size_toArray, List.length_cons, List.length_nil, Nat.reduceAdd, Nat.reduceSub, Array.replicate_succ, Array.replicate_zero, List.push_toArray, List.append_toArray, List.nil_append, List.cons_append]
  apply wpS_seq
  apply wpS_region
  simp [wpOpsS, go_sem, recoverD, hu, Exit.thenS]
  refine wpS_of_wp ?_
  go_wp2
  cases c₀
  simp only at hu
  subst hu
  exact ⟨rfl, _, rfl, _, results_none rfl _ _ _, rfl, rfl, rfl⟩

/-- How Some ends, the numbers being none below zero. -/
def ToldS (l : List UInt8) (fr mn : Nat) (w : World) (e : Ending) (w' : World) : Prop :=
  w.grownBy w' none ∧ ((∃ k, someR l fr mn = .inl k ∧ e = .returned (.tuple #[.slice none 0 0, .int .i64 k])) ∨ (∃ rs v, someR l fr mn = .inr rs ∧ e = .returned (.tuple #[v, .int .i64 0]) ∧ OwnsR w.heap.size w' v rs))

set_option maxRecDepth 100000 in
set_option maxHeartbeats 1000000 in
theorem some1_any (Ba Bb Bc : Nat) (l : List UInt8) (fr mn : Nat) (w : World) (hl : l.length ≤ 4611686018427387904) (hfr : fr ≤ 9223372036854775807) (hmn : mn ≤ 9223372036854775807) (ha : w.cell? ⟨Ba, 0, none⟩ = some (.string ⟨l.toArray⟩)) (hb : w.cell? ⟨Bb, 0, none⟩ = some (.int .i64 fr)) (hc : w.cell? ⟨Bc, 0, none⟩ = some (.int .i64 mn)) :
    Calls Try.prog 16 #[.pointer (some ⟨Ba, 0, none⟩), .pointer (some ⟨Bb, 0, none⟩), .pointer (some ⟨Bc, 0, none⟩)] w fun e w' => w.grownBy w' none ∧
      ((∃ k, someR l fr mn = .inl k ∧ e = .panicked (gave k)) ∨ (∃ rs v, someR l fr mn = .inr rs ∧ e = .returned v ∧ OwnsR w.heap.size w' v rs)) := by
  have HR : Hid (∀ u : Unit, _) := fun _ => readSome_any l fr mn w hl hfr hmn
  go_enter Try.func16, Try.ntmps16
  go_wp2_with fail
  refine (HR.out ()).mono ?_
  rintro e W2 ⟨hg2, (⟨k, hk, rfl⟩ | ⟨rs, v, hk, rfl, hown⟩)⟩
  · exact ⟨rfl, hg2, .inl ⟨k, hk, rfl⟩⟩
  · have G2 : Hid _ := hg2
    have HO : Hid _ := hown
    have HP : Hid _ := hk
    obtain ⟨a, ln, cp, rfl⟩ : ∃ a ln cp, v = .slice a ln cp := by
      rcases hown.2 with ⟨rfl, _⟩ | ⟨g, cap, cur, rfl, _⟩
      · exact ⟨_, _, _, rfl⟩
      · exact ⟨_, _, _, rfl⟩
    clear hg2 hown hk
    go_wp2
    go_ret
    exact ⟨G2.out, .inr ⟨rs, _, HP.out, rfl, HO.out⟩⟩

set_option maxRecDepth 100000 in
set_option maxHeartbeats 1000000 in
theorem atFaceS_any (Ba Bb Bc : Nat) (l : List UInt8) (fr mn : Nat) (w : World) (hl : l.length ≤ 4611686018427387904) (hfr : fr ≤ 9223372036854775807) (hmn : mn ≤ 9223372036854775807) (ha : w.cell? ⟨Ba, 0, none⟩ = some (.string ⟨l.toArray⟩)) (hb : w.cell? ⟨Bb, 0, none⟩ = some (.int .i64 fr)) (hc : w.cell? ⟨Bc, 0, none⟩ = some (.int .i64 mn)) (la : Ba < w.heap.size) (lb : Bb < w.heap.size) (lc : Bc < w.heap.size) :
    Calls Try.prog 15 #[.func (.func 16) #[] #[.pointer (some ⟨Ba, 0, none⟩), .pointer (some ⟨Bb, 0, none⟩), .pointer (some ⟨Bc, 0, none⟩)]] w (ToldS l fr mn w) := by
  have hmf : ∀ (fn : Fn) (first cap : Array Value) (w : World), (Instr.makeFunc fn first cap).run Try.prog w = .ok (.func fn first cap) w := fun _ _ _ _ => rfl
  go_enter_defers Try.func15, Try.ntmps15
  go_wp2_with fail
  obtain ⟨W1, hW1⟩ : ∃ W1, W1 = w.alloc (.cells #[.int .i64 0] 30) := ⟨_, rfl⟩
  rw [← hW1]
  have hg1 : w.grownBy W1 none := by rw [hW1]; exact galloc _ _ _
  have he1 : W1.heap[w.heap.size]? = some (.cells #[.int .i64 0] 30 (0, 0)) := by rw [hW1]; exact World.alloc_heap_new _ _
  have hs1 : W1.heap.size = w.heap.size + 1 := by rw [hW1]; simp
  clear hW1
  have ha1 := (World.cell?_of_block (hg1.block Ba la (by simp))).trans ha
  have hb1 := (World.cell?_of_block (hg1.block Bb lb (by simp))).trans hb
  have hc1 := (World.cell?_of_block (hg1.block Bc lc (by simp))).trans hc
  refine (some1_any Ba Bb Bc l fr mn W1 hl hfr hmn ha1 hb1 hc1).mono ?_
  rintro e W2 ⟨hg2, hcase⟩
  have he2 := (hg2.block w.heap.size (by omega) (by simp)).trans he1
  have G2 : Hid (w.grownBy W2 none) := gtrans hg1 hg2
  have hlt2 : w.heap.size < W2.heap.size := by have := hg2.size; omega
  have e0 := boxed_cell (i := 0) (v := .int .i64 0) he2 rfl
  have ef := boxed_frozen (i := 0) he2
  clear hg1 hg2 he1 ha1 hb1 hc1 ha hb hc
  rcases hcase with ⟨k, hk, rfl⟩ | ⟨rs, v, hk, rfl, hown⟩
  · show Leaves _ _ _ _ _ _ _
    refine leaves_cons (f := 29) (args := #[.pointer (some ⟨w.heap.size, 0, none⟩)]) (by simp) (by simp [go_sem]) ?_
    refine (catchS_panicking w.heap.size 0 k W2 e0 ef).mono ?_
    rintro e u' w'' ⟨rfl, rfl, rfl⟩
    have he3 := block_set (i := 0) he2 (.int .i64 k)
    have e3 := boxed_cell (i := 0) (v := .int .i64 k) he3 rfl
    refine ⟨.tuple #[.slice none 0 0, .int .i64 k], ?_, ?_⟩
    · clear he3 he2
      simp [results, Try.results15, go_sem, e3]
    · exact ⟨gfresh G2.out (by omega), .inl ⟨k, hk, rfl⟩⟩
  · obtain ⟨a, ln, cp, rfl⟩ : ∃ a ln cp, v = .slice a ln cp := by
      rcases hown.2 with ⟨rfl, _⟩ | ⟨g, cap, cur, rfl, _⟩
      · exact ⟨_, _, _, rfl⟩
      · exact ⟨_, _, _, rfl⟩
    have HO : Hid _ := hown
    have HP : Hid _ := hk
    clear he2 hown hk
    go_wp2
    show Leaves _ _ _ _ _ _ _
    refine leaves_cons (f := 29) (args := #[.pointer (some ⟨w.heap.size, 0, none⟩)]) (by simp) (by simp [go_sem]) ?_
    refine (catchS_idle w.heap.size _).mono ?_
    rintro e u' w'' ⟨rfl, rfl, rfl⟩
    refine ⟨.tuple #[.slice a ln cp, .int .i64 0], ?_, ?_⟩
    · simp [results, Try.results15, go_sem, e0]
    · refine ⟨gfresh G2.out (by omega), .inr ⟨rs, _, HP.out, rfl, ?_⟩⟩
      exact OwnsR.base (OwnsR.set HO.out (by omega)) (by omega)

set_option maxRecDepth 100000 in
set_option maxHeartbeats 1000000 in
/-- **Some**, of numbers that are none below zero. -/
theorem psome (l : List UInt8) (fr mn : Nat) (w : World) (hl : l.length ≤ 4611686018427387904) (hfr : fr ≤ 9223372036854775807) (hmn : mn ≤ 9223372036854775807) :
    Calls Try.prog 8 #[.string ⟨l.toArray⟩, .int .i64 fr, .int .i64 mn] w (ToldS l fr mn w) := by
  have hmf : ∀ (fn : Fn) (first cap : Array Value) (w : World), (Instr.makeFunc fn first cap).run Try.prog w = .ok (.func fn first cap) w := fun _ _ _ _ => rfl
  go_enter Try.func8, Try.ntmps8
  go_wp2_with fail
  obtain ⟨W1, hW1⟩ : ∃ W1, W1 = ((w.alloc (.cells #[.string ⟨l.toArray⟩] 9)).alloc (.cells #[.int .i64 fr] 3)).alloc (.cells #[.int .i64 mn] 3) := ⟨_, rfl⟩
  rw [← hW1]
  have hg1 : w.grownBy W1 none := by rw [hW1]; exact gallocR (gallocR (galloc _ _ _) _) _
  have hs1 : W1.heap.size = w.heap.size + 3 := by rw [hW1]; simp
  have ha1 : W1.heap[w.heap.size]? = some (.cells #[.string ⟨l.toArray⟩] 9 (0, 0)) := by rw [hW1]; exact (Below.heap_alloc _ _ _ (by simp; omega)).trans ((Below.heap_alloc _ _ _ (by simp)).trans (World.alloc_heap_new _ _))
  have hb1 : W1.heap[w.heap.size + 1]? = some (.cells #[.int .i64 fr] 3 (0, 0)) := by
    rw [hW1]
    have h := World.alloc_heap_new (w.alloc (.cells #[.string ⟨l.toArray⟩] 9)) (.cells #[.int .i64 fr] 3)
    rw [World.size_alloc] at h
    exact (Below.heap_alloc _ _ _ (by simp)).trans h
  have hc1 : W1.heap[w.heap.size + 1 + 1]? = some (.cells #[.int .i64 mn] 3 (0, 0)) := by
    rw [hW1]
    have h := World.alloc_heap_new ((w.alloc (.cells #[.string ⟨l.toArray⟩] 9)).alloc (.cells #[.int .i64 fr] 3)) (.cells #[.int .i64 mn] 3)
    rw [World.size_alloc, World.size_alloc] at h
    exact h
  clear hW1
  refine (atFaceS_any w.heap.size (w.heap.size + 1) (w.heap.size + 1 + 1) l fr mn W1 hl hfr hmn (boxed_cell ha1 rfl) (boxed_cell hb1 rfl) (boxed_cell hc1 rfl) (by omega) (by omega) (by omega)).mono ?_
  rintro e W2 ⟨hg2, hcase⟩
  have G2 : Hid (w.grownBy W2 none) := gtrans hg1 hg2
  clear hg1 hg2 ha1 hb1 hc1
  rcases hcase with ⟨k, hk, rfl⟩ | ⟨rs, v, hk, rfl, hown⟩
  · have HP : Hid _ := hk
    clear hk
    go_wp2
    refine bodyPost_ret (results_tmp2 rfl _ _ _) rfl ?_
    exact ⟨G2.out, .inl ⟨k, HP.out, rfl⟩⟩
  · obtain ⟨a, ln, cp, rfl⟩ : ∃ a ln cp, v = .slice a ln cp := by
      rcases hown.2 with ⟨rfl, _⟩ | ⟨g, cap, cur, rfl, _⟩
      · exact ⟨_, _, _, rfl⟩
      · exact ⟨_, _, _, rfl⟩
    have HO : Hid _ := hown
    have HP : Hid _ := hk
    clear hown hk
    go_wp2
    refine bodyPost_ret (results_tmp2 rfl _ _ _) rfl ?_
    exact ⟨G2.out, .inr ⟨rs, _, HP.out, rfl, OwnsR.base HO.out (by omega)⟩⟩
set_option maxRecDepth 100000 in
set_option maxHeartbeats 1000000 in
/-- .. of others. -/
theorem psome_bad (l : List UInt8) (fr mn : Int) (w : World) (h : fr < 0 ∨ mn < 0) :
    Calls Try.prog 8 #[.string ⟨l.toArray⟩, .int .i64 fr, .int .i64 mn] w fun e w' => w.grownBy w' none ∧ e = .returned (.tuple #[.slice none 0 0, .int .i64 1]) := by
  have hmf : ∀ (fn : Fn) (first cap : Array Value) (w : World), (Instr.makeFunc fn first cap).run Try.prog w = .ok (.func fn first cap) w := fun _ _ _ _ => rfl
  have e1 : (decide (fr < 0) || decide (mn < 0)) = true := by simpa using h
  go_enter Try.func8, Try.ntmps8
  go_wp2
  all_goals
    refine bodyPost_ret (results_tmp2 rfl _ _ _) rfl ?_
    exact ⟨gallocR (gallocR (galloc _ _ _) _) _, rfl⟩
end Go.Proofs.Ytkmeingnhaomaab
/- The walk of Early. -/
namespace Go.Proofs.Ytkmeingnhaomaab
open Go.RowKit Go.Shelf

theorem toldS_all {l : List UInt8} {fr mn : Nat} {w w' : World} {e : Ending} {rs : List Rc} (h : ToldS l fr mn w e w') (hs : someR l fr mn = .inr rs) :
    ∃ a c, e = .returned (.tuple #[.slice a rs.length c, .int .i64 0]) ∧ Recs w'.heap.size w' (.slice a rs.length c) rs ∧ w.grownBy w' none := by
  obtain ⟨hg, (⟨k, hk, rfl⟩ | ⟨rs', v, hk, rfl, ho⟩)⟩ := h
  · rw [hs] at hk
    cases hk
  · rw [hs] at hk
    cases hk
    obtain ⟨a, c, rfl⟩ := ho.recs.slice
    exact ⟨a, c, rfl, ho.recs, hg⟩

set_option maxRecDepth 100000 in
set_option maxHeartbeats 2000000 in
theorem early_walk (x y mny : Int) (v : Value) (xs : List Int) (bh : List UInt8) (w : World) (hx : I64 x) (hy : I64 y) (hmn : I64 mny) (hv : Ints w.heap.size w v xs) (hxs : ∀ c ∈ xs, I64 c) (hxl : xs.length ≤ 9223372036854775807) (hbl : bh.length ≤ 140737488355328) :
    Calls Try.prog 3 #[.int .i64 x, .int .i64 y, v, .int .i64 mny, .string ⟨bh.toArray⟩] w fun e w' => e = .returned (.bool true) ∧ w.grownBy w' none := by
  obtain ⟨a, cap, rfl⟩ := hv.slice
  have HV : Hid _ := hv
  have hn : pickN x 100 + 1 ≤ 100 := pickN_lt x 100 (by omega)
  have hz : pickN y 64 + 1 ≤ 64 := pickN_lt y 64 (by omega)
  have HM : Hid (∀ u : Unit, _) := fun _ => made_any 1 2 (pickN x 100 + 1) (pickN y 64 + 1) (.slice a xs.length cap) xs false w HV.out hxs hxl (by omega) (by omega)
  have HS : Hid (∀ W, _) := fun W => shape_any x y W hx hy
  have hwh : wellHead 1 2 ((pickN x 100 + 1 : Nat) : Int) ((pickN y 64 + 1 : Nat) : Int) = true := decide_eq_true ⟨by omega, by omega, by omega, by omega, by omega, by omega, by omega, by omega, by omega⟩
  generalize pickN x 100 + 1 = n at *
  generalize pickN y 64 + 1 = z at *
  clear hv hx hy hxs hxl
  go_enter Try.func3, Try.ntmps3
  go_wp2_with fail
  refine (HS.out _).mono ?_
  rintro e w1 ⟨rfl, rfl⟩
  go_wp2_with fail
  refine (HM.out ()).mono ?_
  rintro e w2 ⟨sv, rs, rfl, hok, -, hown, hg2⟩
  obtain ⟨al, cl, rfl⟩ := hown.recs.slice
  obtain ⟨W2, hW2⟩ : ∃ W2, W2 = w2.alloc (.cells #[.int .i64 1, .int .i64 2, .int .i64 n, .int .i64 z, .slice al rs.length cl] 27) := ⟨_, rfl⟩
  have hx2 : W2.heap[w2.heap.size]? = some (.cells #[.int .i64 1, .int .i64 2, .int .i64 n, .int .i64 z, .slice al rs.length cl] 27 (0, 0)) := by rw [hW2]; exact World.alloc_heap_new _ _
  have G2 : Hid (w1.grownBy W2 none) := by rw [hW2]; exact gallocR hg2 _
  have hR2 : Recs W2.heap.size W2 (.slice al rs.length cl) rs := by rw [hW2]; exact (OwnsR.alloc hown _).recs
  have SB : Hid (∀ W, W2.grownBy W none → W.heap[w2.heap.size]? = some (.cells #[.int .i64 1, .int .i64 2, .int .i64 n, .int .i64 z, .slice al rs.length cl] 27 (0, 0))) := fun W h => (box_kept hx2 h).1
  have RS : Hid (∀ W, W2.grownBy W none → Recs W.heap.size W (.slice al rs.length cl) rs) := fun W h => hR2.moved (below_of_grown h)
  have HT : Hid (∀ u : Unit, _) := fun _ => text_good 1 2 n z (.slice al rs.length cl) rs W2 hR2 hwh hok
  have hsm := serB_small 1 2 n z rs (by omega) (by omega) hok
  have hrl := recsOk_length n z rs hok (by omega)
  have HSA : Hid _ := some_all 1 2 n z rs hwh hok
  have HSF : Hid (∀ m, m < rs.length → _) := fun m hm => some_first 1 2 n z rs hwh hok m hm bh
  have HNX : Hid (∀ k (h : k < rs.length), _) := fun k h => recsB_next n z rs hok k h
  clear hg2 hok hown hx2 hR2 hwh
  generalize serB 1 2 n z rs = L at *
  go_wp2_with fail
  rw [← hW2]
  clear hW2
  refine (HT.out ()).mono ?_
  rintro e w3 ⟨rfl, hg3⟩
  have G3 : Hid (W2.grownBy w3 none) := hg3
  have hL0 : (L == []) = false := by
    cases L with
    | nil => simp at hsm
    | cons _ _ => rfl
  obtain ⟨-, -, -, -, c4, -⟩ := box5 (SB.out w3 hg3)
  have HP1 : Hid (∀ W, _) := fun W => psome L 0 rs.length W (by omega) (by omega) (by omega)
  clear hg3 HT HM HS HV
  go_wp2_with fail
  refine (HP1.out _).mono ?_
  intro e w4 h4
  obtain ⟨aa, ca, rfl, hRA, hg4⟩ := toldS_all h4 HSA.out
  have G4 : Hid (W2.grownBy w4 none) := gtrans G3.out hg4
  have RA : Hid (∀ W, w4.grownBy W none → Recs W.heap.size W (.slice aa rs.length ca) rs) := fun W h => hRA.moved (below_of_grown h)
  obtain ⟨-, -, -, -, d4, -⟩ := box5 (SB.out w4 G4.out)
  clear h4 hRA hg4 c4 HP1 HSA
  by_cases hr0 : rs.length = 0
  · go_wp2_with fail
    go_ret
    exact ⟨rfl, gtrans G2.out G4.out⟩
  go_wp2_with fail
  refine (pick_any mny rs.length _ hmn (by omega) (by omega)).mono ?_
  rintro e w5 ⟨rfl, rfl⟩
  have hml := pickN_lt mny rs.length (by omega)
  generalize pickN mny rs.length = m at *
  go_wp2_with fail
  have HR5 : Hid (Recs w5.heap.size w5 (.slice al rs.length cl) rs) := RS.out w5 G4.out
  have HSM : Hid _ := HSF.out m hml
  have hend : ∀ k, k ≤ m → 18 + (recsB (rs.take k)).length ≤ 10000 := by
    intro k hk
    have := (HSF.out k (by omega)).1
    omega
  clear HSF
  go_loopw [18, 19] (fun en i wr => ∃ k : Nat, k ≤ m ∧ i = .int .i64 k ∧ en = .int .i64 ((18 + (recsB (rs.take k)).length : Nat) : Int) ∧ wr = w5) (fun _ i _ => m - (intOf i).toNat)
  case atStart => exact ⟨0, Nat.zero_le _, rfl, rfl, rfl⟩
  case round =>
    obtain ⟨k, hk, rfl, rfl, rfl⟩ := hrel
    by_cases hlt : k < m
    · obtain ⟨b1, off, ha, hb, q0, q1, q2⟩ := Recs.at HR5.out (Nat.lt_trans hlt hml)
      subst ha
      have hnx := HNX.out k (by omega)
      have hen := hend (k + 1) (by omega)
      have hek := hend k (by omega)
      generalize rs[k] = r at *
      rw [hnx] at hen
      have HN : Hid _ := hnx
      clear hnx
      go_wp2
      go_roundw
      case rel => exact ⟨k + 1, by omega, by go_num, by rw [HN.out]; go_num, by trivial⟩
      case measure => simp [intOf]; omega
    · obtain rfl : k = m := by omega
      have hen := hend k (by omega)
      generalize 18 + (recsB (rs.take k)).length = E at *
      obtain ⟨hEL, hsf⟩ := HSM.out
      have HSE : Hid _ := hsf
      have HP2 : Hid (∀ W, _) := fun W => psome (L.take E ++ bh) 0 k W (by rw [List.length_append, List.length_take]; omega) (by omega) (by omega)
      have ex1 : (⟨L.toArray⟩ : ByteArray).extract 0 E = ⟨(L.take E).toArray⟩ := by
        apply ByteArray.ext
        rw [← Array.toList_inj, Lib.extract_data]
        simp
      have ex2 : (⟨(L.take E).toArray⟩ : ByteArray) ++ ⟨bh.toArray⟩ = ⟨(L.take E ++ bh).toArray⟩ := by
        apply ByteArray.ext
        simp
      clear hsf HSM hend HNX
      go_wp2_with fail
      refine (HP2.out _).mono ?_
      intro e w6 h6
      obtain ⟨af, cf, rfl, hRF, hg6⟩ := toldS_all h6 HSE.out
      have hkl : (rs.take k).length = k := by rw [List.length_take]; omega
      rw [hkl] at hRF ⊢
      have G6 : Hid (W2.grownBy w6 none) := gtrans G4.out hg6
      have R6 : Hid (Recs w6.heap.size w6 (.slice al rs.length cl) rs) := RS.out w6 G6.out
      have A6 : Hid (Recs w6.heap.size w6 (.slice aa rs.length ca) rs) := RA.out w6 hg6
      have F6 : Hid (Recs w6.heap.size w6 (.slice af k cf) (rs.take k)) := hRF
      clear d4
      obtain ⟨-, -, -, -, d4, -⟩ := box5 (SB.out w6 G6.out)
      clear h6 hRF hg6 HSE HP2
      go_wp2_with fail
      clear SB RS RA HR5 ex1 ex2 hL0 hr0
      go_loopw [22] (fun i wr => ∃ j : Nat, j ≤ k ∧ i = .int .i64 j ∧ ∃ d, wr = w6.drewN d) (fun i _ => k - (intOf i).toNat)
      case atStart => exact ⟨0, Nat.zero_le _, rfl, 0, rfl⟩
      case round =>
        obtain ⟨j, hj, rfl, d, rfl⟩ := hrel
        by_cases hjk : j < k
        · obtain ⟨b1, off1, ha1, hb1, q0, q1, q2⟩ := Recs.at R6.out (Nat.lt_trans hjk hml)
          obtain ⟨b2, off2, ha2, hb2, p0, p1, p2⟩ := Recs.at A6.out (Nat.lt_trans hjk hml)
          obtain ⟨b3, off3, ha3, hb3, o0, o1, o2⟩ := Recs.at F6.out (by rw [hkl]; exact hjk)
          rw [List.getElem_take] at o0 o1 o2
          subst ha1
          subst ha2
          subst ha3
          generalize rs[j] = r at *
          go_wp2
          go_quiet (fail)
          go_wp2
          go_roundw
          case rel => exact ⟨j + 1, by omega, by go_num, _, rfl⟩
          case measure => simp [intOf]; omega
        · go_wp2
          go_ret
          exact ⟨rfl, gdrewR (gtrans G2.out G6.out) d⟩
end Go.Proofs.Ytkmeingnhaomaab
/- The statement on Early. -/
namespace Go.Proofs.Ytkmeingnhaomaab
open Go.ChangeShapes Go.WideShapes Go.ChangeAt Go.RowKit
open Go.ChangeMaps (open_string shut_string)

set_option maxRecDepth 100000 in
theorem early_lifted (os : Os) (started : os.Started) (H : Type) (enc : TypeId × Value → H) :
    ReturnsInHanded {} Try.checked os 3 .any (Rows.earlySpec.pre6 enc Try.prog Try.f3 Rows.earlyRow.domain false) (Rows.earlySpec.post enc Try.prog Try.f3 false true false false) := by
  refine returnsInHanded_of_change_sized (C := Try.checked) Try.own started (by kernel_rfl) Try.func3
    (ChangeSpec.witness6 (enc := enc) (C := Try.checked) false ⟨#[], #[.int .i64 0, .int .i64 0, .slice none 0 0, .int .i64 0, .string ByteArray.empty], []⟩ 8 (by kernel_rfl) (by kernel_rfl) (by kernel_rfl) (by kernel_rfl)) ?_
  intro W base args ds gs before hval0 hW _ hsz0 _
  have hsz : (DataW.weightsEach Try.prog (Try.f3.params.toList ++ Rows.earlySpec.plain.varTypes Try.prog) (ds ++ gs)).all (· ≤ reachBytes) = true := hsz0
  clear hsz0
  have hval : ∀ (j : Nat) t v, Try.f3.params[j]? = some t → args[j]? = some v → Value.okWide Try.prog W .any base t v := hval0
  have hW' := hW
  obtain ⟨p, q, hA0, hV, rfl, _, _⟩ := hW
  have hA : DataW.TrodAll enc Try.prog W 0 (fun _ => true) true Try.f3.params.toList args.toList ds p := hA0
  rw [Try.params3] at hA hval hsz
  obtain ⟨v0, vs0, d0, ds0, p0, q0, hargs, rfl, rfl, h0, r0⟩ := trodAll_cons hA
  obtain ⟨v1, vs1, d1, ds1, p1, q1, rfl, rfl, rfl, h1, r1⟩ := trodAll_cons r0
  obtain ⟨v2, vs2, d2, ds2, p2, q2, rfl, rfl, rfl, h2, r2⟩ := trodAll_cons r1
  obtain ⟨v3, vs3, d3, ds3, p3, q3, rfl, rfl, rfl, h3, r3⟩ := trodAll_cons r2
  obtain ⟨v4, vs4, d4, ds4, p4, q4, rfl, rfl, rfl, h4, r4⟩ := trodAll_cons r3
  obtain ⟨rfl, rfl, rfl⟩ := trodAll_nil r4
  obtain rfl : args = #[v0, v1, v2, v3, v4] := by cases args; simp_all
  obtain ⟨rfl, rfl⟩ := trodVars_none hV
  obtain ⟨a0, rfl, rfl, rfl, w0⟩ := open_int Try.underlying3 (hval 0 3 v0 rfl rfl) h0
  obtain ⟨a1, rfl, rfl, rfl, w1⟩ := open_int Try.underlying3 (hval 1 3 v1 rfl rfl) h1
  obtain ⟨a3, rfl, rfl, rfl, w3⟩ := open_int Try.underlying3 (hval 3 3 v3 rfl rfl) h3
  obtain ⟨a4, rfl, rfl, rfl, w4⟩ := open_string Try.underlying9 (hval 4 9 v4 rfl rfl) h4
  obtain ⟨xs, hi, hx, hl⟩ := open_nums (hval 2 22 v2 rfl rfl) h2
  clear hA0 hval0
  simp only [List.append_nil] at hW'
  have hlt : ∀ x ∈ p2, x.block < W.heap.size := fun x hx => by simpa using hW'.lt x (by simp [hx])
  have hlen : a4.data.toList.length ≤ 140737488355328 := by
    have h5 := DataW.weights_mem_each (H := H) (P := Try.prog) (j := 4) (ts := [3, 3, 22, 3, 9] ++ Rows.earlySpec.plain.varTypes Try.prog) (ds := [.lit (.int .i64 a0), .lit (.int .i64 a1), d2, .lit (.int .i64 a3), .lit (.string a4.data.toList)] ++ []) rfl rfl a4.data.toList.length (by simp [DataW.weights])
    have h6 := of_decide_eq_true (List.all_eq_true.1 hsz _ h5)
    simp only [reachBytes] at h6
    omega
  have hwalk := early_walk a0 a1 a3 v2 xs a4.data.toList W (wf_i64 w0) (wf_i64 w1) (wf_i64 w3) hi hx hl hlen
  rw [show (⟨a4.data.toList.toArray⟩ : ByteArray) = a4 from rfl] at hwalk
  refine hwalk.mono fun e W' ⟨he, hg⟩ => ?_
  subst he
  have hb := below_of_grown hg
  refine ⟨_, rfl, _, _, _, [], [] ++ ([] ++ (p2 ++ ([] ++ ([] ++ [])))), [], hW', ?_, ?_, rfl, hb.frame _, fun h => by cases h⟩
  · exact trodAll_cons_mk (shut_bool Try.underlying4 _) trodAll_mk0
  · exact trodAll_cons_mk (shut_int Try.underlying3 w0) (trodAll_cons_mk (shut_int Try.underlying3 w1) (trodAll_cons_mk (Below.trod Try.laidOut (by kernel_rfl) (of_decide_eq_true (by kernel_rfl)) h2 hb hlt) (trodAll_cons_mk (shut_int Try.underlying3 w3) (trodAll_cons_mk (shut_string Try.underlying9 w4) trodAll_mk0))))

theorem early_holds : Rows.EarlySaid :=
  OpenClaim.holds_of_wide 3 Try.f3 rfl rfl rfl rfl rfl rfl rfl ⟨rfl, rfl, rfl, rfl, rfl⟩ rfl rfl rfl rfl rfl (by kernel_rfl) Try.func3 (by kernel_rfl)
    (of_decide_eq_true (by kernel_rfl)) (by unfold Func.isWrapper; first | (rw [if_pos (by decide +kernel)]; kernel_rfl) | (rw [if_neg (by decide +kernel)]; exact ⟨rfl, rfl⟩))
    (fun os started H enc _ => early_lifted os started H enc)
end Go.Proofs.Ytkmeingnhaomaab
