/- KPick, KInts, PFace2, PSome2, LOwn3, RSome, LSomes, LSomes2 -/
import Derived.Test.YtdjmhagclcfnfaaPRead
import Derived.Test.YtdjmhagclcfnfaaLWrites3
import Derived.ChangeSlices
import Derived.Test.YtdjmhagclcfnfaaPFace
import Derived.Test.YtdjmhagclcfnfaaPSome
import Derived.Test.YtdjmhagclcfnfaaLOwn2
import Derived.Test.YtdjmhagclcfnfaaRParse2
import Derived.Test.YtdjmhagclcfnfaaLExact2
import Derived.OpenShut
import Derived.ShutString
/- strandkeep's pick, nth and shape. -/
namespace Go.Proofs.Ytdjmhagclcfnfaa
open Go.RowKit

/-- An int as there are. -/
def I64 (c : Int) : Prop := -9223372036854775808 ≤ c ∧ c ≤ 9223372036854775807
/-- Which of n things. -/
def pickN (c : Int) (n : Nat) : Nat := (if c < 0 then (-(c + 1)) else c).toNat % n

theorem pickN_lt (c : Int) (n : Nat) (hn : 0 < n) : pickN c n < n := Nat.mod_lt _ hn

set_option maxRecDepth 100000 in
theorem pick_any (c : Int) (n : Nat) (w : World) (hc : I64 c) (h0 : 0 < n) (hn : n ≤ 2147483647) :
    Calls Try.prog 40 #[.int .i64 c, .int .i64 n] w fun e w' => e = .returned (.int .i64 (pickN c n : Nat)) ∧ w' = w := by
  obtain ⟨hc1, hc2⟩ := hc
  go_enter Try.func40, Try.ntmps40
  by_cases hlt : c < 0
  · obtain ⟨m, rfl⟩ : ∃ m : Nat, c = -(m : Int) - 1 := ⟨(-(c + 1)).toNat, by omega⟩
    have e : (pickN (-(m : Int) - 1) n : Int) = (m : Int) % n := by
      unfold pickN
      rw [if_pos hlt, Int.natCast_emod]
      congr 1
      omega
    rw [e]
    go_wp2
    go_ret
    exact ⟨rfl, rfl⟩
  · obtain ⟨m, rfl⟩ := Int.eq_ofNat_of_zero_le (show 0 ≤ c by omega)
    have e : (pickN (m : Int) n : Int) = (m : Int) % n := by
      unfold pickN
      rw [if_neg hlt, Int.natCast_emod]
      rfl
    rw [e]
    go_wp2
    go_ret
    exact ⟨rfl, rfl⟩

/-- A list of ints that lies below B. -/
def Ints (B : Nat) (W : World) (v : Value) (xs : List Int) : Prop :=
  (xs = [] ∧ ∃ a cap, v = .slice a 0 cap) ∨ ∃ b o cap, v = .slice (some ⟨b, o, none⟩) xs.length cap ∧ b < B ∧ ∀ j (h : j < xs.length), W.cell? ⟨b, o + j, none⟩ = some (.int .i64 xs[j])
theorem Ints.below {B : Nat} {W W' : World} {v : Value} {xs : List Int} (h : Ints B W v xs) (hb : Below B W W') : Ints B W' v xs := by
  rcases h with h | ⟨b, o, cap, e, hlt, hc⟩
  · exact .inl h
  · exact .inr ⟨b, o, cap, e, hlt, fun j hj => (hb.cell (p := ⟨b, o + j, none⟩) hlt).trans (hc j hj)⟩
theorem Ints.slice {B : Nat} {W : World} {v : Value} {xs : List Int} (h : Ints B W v xs) : ∃ a cap, v = .slice a xs.length cap := by
  rcases h with ⟨rfl, a, cap, e⟩ | ⟨b, o, cap, e, _⟩
  · exact ⟨a, cap, e⟩
  · exact ⟨_, cap, e⟩

set_option maxRecDepth 100000 in
theorem nth_any (B : Nat) (v : Value) (xs : List Int) (i : Nat) (w : World) (h : Ints B w v xs) (_hi : i ≤ 1000) (hl : xs.length ≤ 9223372036854775807) :
    Calls Try.prog 76 #[v, .int .i64 i] w fun e w' => e = .returned (.int .i64 (xs.getD i 0)) ∧ w' = w := by
  obtain ⟨a, cap, rfl⟩ := h.slice
  go_enter Try.func76, Try.ntmps76
  by_cases hlt : i < xs.length
  · obtain ⟨b, o, rfl, hc⟩ : ∃ b o, a = some ⟨b, o, none⟩ ∧ w.cell? ⟨b, o + i, none⟩ = some (.int .i64 xs[i]) := by
      rcases h with ⟨rfl, _⟩ | ⟨b, o, cap', e, _, hc⟩
      · simp at hlt
      · simp only [Value.slice.injEq] at e
        exact ⟨b, o, e.1, hc i hlt⟩
    rw [List.getD_eq_getElem?_getD, List.getElem?_eq_getElem hlt, Option.getD_some]
    clear h
    go_wp2
    go_ret
    exact ⟨rfl, rfl⟩
  · rw [List.getD_eq_getElem?_getD, List.getElem?_eq_none (by omega), Option.getD_none]
    clear h
    go_wp2
    go_ret
    exact ⟨rfl, rfl⟩

theorem pick_at (c n : Int) (m : Nat) (w : World) (hc : I64 c) (e : n = m) (h0 : 0 < m) (hn : m ≤ 2147483647) :
    Calls Try.prog 40 #[.int .i64 c, .int .i64 n] w fun e w' => e = .returned (.int .i64 (pickN c m : Nat)) ∧ w' = w := by
  subst e
  exact pick_any c m w hc h0 hn

set_option maxRecDepth 100000 in
set_option maxHeartbeats 1000000 in
theorem shape_any (x y : Int) (w : World) (hx : I64 x) (hy : I64 y) :
    Calls Try.prog 39 #[.int .i64 x, .int .i64 y] w fun e w' => e = .returned (.tuple #[.int .i64 (pickN x 100 + 1 : Nat), .int .i64 (pickN y 64 + 1 : Nat)]) ∧ w' = w := by
  have H1 : Hid (∀ u : Unit, Calls Try.prog 40 #[.int .i64 x, .int .i64 100] w fun e w' => e = .returned (.int .i64 (pickN x 100 : Nat)) ∧ w' = w) := fun _ => pick_at x 100 100 w hx rfl (by omega) (by omega)
  have H2 : Hid (∀ u : Unit, Calls Try.prog 40 #[.int .i64 y, .int .i64 64] w fun e w' => e = .returned (.int .i64 (pickN y 64 : Nat)) ∧ w' = w) := fun _ => pick_at y 64 64 w hy rfl (by omega) (by omega)
  have h1 := pickN_lt x 100 (by omega)
  have h2 := pickN_lt y 64 (by omega)
  generalize pickN x 100 = n1 at *
  generalize pickN y 64 = n2 at *
  go_enter Try.func39, Try.ntmps39
  go_wp2_with fail
  go_at_call 40
  refine (H1.out ()).mono ?_
  rintro _ _ ⟨rfl, rfl⟩
  go_wp2_with fail
  go_at_call 40
  refine (H2.out ()).mono ?_
  rintro _ _ ⟨rfl, rfl⟩
  go_wp2
  refine bodyPost_ret (results_tmp2 rfl _ _ _) rfl ?_
  refine ⟨?_, rfl⟩
  simp
  omega

set_option maxRecDepth 100000 in
set_option maxHeartbeats 1000000 in
theorem data_any (c : Int) (z : Nat) (w : World) (hc : -4611686018427387904 ≤ c ∧ c ≤ 4611686018427387904) (hz : z ≤ 64) :
    Calls Try.prog 77 #[.int .i64 c, .int .i64 z] w fun e w' => ∃ bs : List UInt8, bs.length = z ∧ e = .returned (.string ⟨bs.toArray⟩) ∧ w.grownBy w' none := by
  obtain ⟨hc1, hc2⟩ := hc
  go_enter Try.func77, Try.ntmps77
  go_wp2
  go_loopw [5, 6] (fun b i wr => ∃ (k : Nat) (bs : List UInt8), k ≤ z ∧ i = .int .i64 k ∧ bs.length = k ∧ OwnsB w.heap.size wr b bs ∧ w.grownBy wr none) (fun _ i _ => z - (intOf i).toNat)
  case atStart => exact ⟨0, [], Nat.zero_le _, rfl, rfl, World.ownsRow_nil _ _ _ _, drew_grown w 0 _⟩
  case round =>
    obtain ⟨k, bs, hk, rfl, hbl, hown, hg⟩ := hrel
    by_cases hlt : k < z
    · have H1 : Hid (∀ W, _) := fun W => pick_at (c + k) 26 26 W ⟨by omega, by omega⟩ rfl (by omega) (by omega)
      have h1 := pickN_lt (c + k) 26 (by omega)
      have HR : Hid (∀ x : Int, x = ((97 + pickN (c + k) 26 : Nat) : Int) → ∀ v' w1, w1.ownsRow w.heap.size 5 1 v' (bs.length + 1) (byteVals bs ++ [.int .u8 x]) → OwnsB w.heap.size w1 v' (bs ++ [UInt8.ofNat (97 + pickN (c + k) 26)])) := by
        intro x hx v' w1 ho
        unfold OwnsB
        rw [byteVals_append, List.length_append]
        rw [hx] at ho
        have e : ((UInt8.ofNat (97 + pickN (c + k) 26)).toNat : Int) = ((97 + pickN (c + k) 26 : Nat) : Int) := by
          rw [UInt8.toNat_ofNat']
          omega
        unfold byteVals at *
        rw [List.map_cons, List.map_nil, e]
        exact ho
      have HO : Hid (wr.ownsRow w.heap.size 5 1 _ bs.length (byteVals bs)) := hown
      have HG : Hid _ := hg
      have hsz : w.heap.size ≤ wr.heap.size := hg.size
      clear hown hg
      generalize pickN (c + k) 26 = n1 at *
      obtain ⟨i0, hi, hz0, hz1, hz2⟩ := info_parts Try.infoU8
      go_wp2_with (first
        | (go_at_call 40; refine (H1.out _).mono ?_; rintro _ _ ⟨rfl, rfl⟩)
        | (at_builtin; refine wpList_append_own_at _ rfl _ _ 72 rfl w.heap.size 5 i0 (.int .u8 0) 1 1 Try.underlying72 hi hz0 hz1 hz2 rfl (by decide) _ _ _ rfl (HO.out.alloc _) ⟨_, 0, none⟩ 1 1 [_] rfl rfl (cell_one_new _ _ _) (by intro u hu; simp at hu; subst hu; rfl) (by unfold maxLen; omega) (by omega) (by simp; omega) ?_; intro v' w1 hown' hgrow _ hat))
      refine ⟨⟨k + 1, _, by omega, by go_num, by simp; omega, HR.out _ (by go_num) _ _ hown', ?_⟩, by simp [intOf]; omega⟩
      have g1 := Grew.of_alloc hgrow hat
      exact ⟨g1.by_.os.trans HG.out.os, g1.by_.tape.trans HG.out.tape, g1.by_.output.trans HG.out.output, Nat.le_trans HG.out.size g1.by_.size, fun j hj hne => (g1.by_.block j (Nat.lt_of_lt_of_le hj HG.out.size) (fun e => by have := OwnsB.base (l := bs) HO.out j e.symm; omega)).trans (HG.out.block j hj hne)⟩
    · have HC := conv_own hown
      obtain rfl : k = z := by omega
      go_wp2
      go_ret
      exact ⟨bs, hbl, rfl, hg⟩
end Go.Proofs.Ytdjmhagclcfnfaa
/- Lists of ints and ints, opened. -/
namespace Go.Proofs.Ytdjmhagclcfnfaa
open Go.ChangeShapes Go.WideShapes Go.ChangeAt Go.RowKit

theorem wf_i64 {n : Int} (h : (Lit.int .i64 n).wf = true) : I64 n := by
  simp only [Lit.wf, Bool.and_eq_true, decide_eq_true_eq] at h
  exact ⟨h.1, h.2⟩
theorem getD_at (zs : List Int) (j : Nat) (h : j < zs.length) : zs.getD j 0 = zs[j] := by
  rw [List.getD_eq_getElem?_getD, List.getElem?_eq_getElem h, Option.getD_some]
set_option maxRecDepth 100000 in
theorem open_nums {H : Type} {enc : TypeId × Value → H} {W : World} {base : Nat} {v : Value} {d : DataW H} {p : List MemPlace} (hv : Value.okWide Try.prog W .any base 64 v) (h : DataW.Trod enc Try.prog W 0 (fun _ => true) true 64 v d p) :
    ∃ xs : List Int, Ints W.heap.size W v xs ∧ (∀ x ∈ xs, I64 x) ∧ xs.length ≤ 9223372036854775807 := by
  obtain ⟨a, len, cap, rfl⟩ := okWide_slice Try.underlying64 hv
  obtain ⟨fuel, hf⟩ := h
  rcases open_ints Try.underlying64 Try.underlying3 Try.cellsInt hf with ⟨e, _⟩ | ⟨a', len', cap', zs, e, _, hl, hm, hzl, _, hc, hwf⟩
  · simp [Value.cells] at e
    obtain ⟨rfl, rfl, rfl⟩ := e
    exact ⟨[], .inl ⟨rfl, none, 0, rfl⟩, (fun x hx => by cases hx), by simp⟩
  · simp [Value.cells] at e
    obtain ⟨rfl, rfl, rfl⟩ := e
    simp only [if_true] at hzl
    have hl2 : (zs.take len).length = len := by rw [List.length_take]; omega
    have hm' : cap ≤ 9223372036854775807 := hm
    refine ⟨zs.take len, ?_, fun x hx => wf_i64 (hwf x (List.mem_of_mem_take hx)), by omega⟩
    by_cases h0 : len = 0
    · subst h0
      exact .inl ⟨by simp, some a', cap, rfl⟩
    · have c0 := hc 0 (by omega)
      obtain ⟨b, o, sp⟩ := a'
      obtain rfl : sp = none := by
        have := World.cell?_spot c0
        simpa [Addr.add] using this
      refine .inr ⟨b, o, cap, by rw [hl2], World.block_lt_of_cell? W _ c0, fun j hj => ?_⟩
      rw [hl2] at hj
      have := hc j (by omega)
      rw [Addr.add_lit, getD_at zs j (by omega)] at this
      rw [List.getElem_take]
      exact this
end Go.Proofs.Ytdjmhagclcfnfaa
/- The program's face, for a call that answers a list (records). -/
namespace Go.Proofs.Ytdjmhagclcfnfaa
open Go.RowKit Go.Shelf

set_option maxRecDepth 100000 in
set_option maxHeartbeats 1000000 in
theorem face1_rs (gd : Nat) (ld : Array Value) (ed : ∀ args w, (callFunc gd args).run Try.prog w = .ok (.enter gd args) w) (Bd Ba : Nat) (PK : Int → Prop) (PO : Nat → World → Value → Prop) (w : World)
    (hsl : ∀ B W v, PO B W v → ∃ a ln cp, v = .slice a ln cp) (hset : ∀ B W v k o x, PO B W v → k < B → PO B (W.setCell ⟨k, o, none⟩ x) v)
    (hd : w.cell? ⟨Bd, 0, none⟩ = some (.func (.func gd) #[] ld)) (ha : w.heap[Ba]? = some (.cells #[.slice none 0 0] 22 (0, 0)))
    (hdo : Calls Try.prog gd ld w fun e w' => w.grownBy w' none ∧ ((∃ k, PK k ∧ e = .panicked (gave k)) ∨ (∃ v, e = .returned v ∧ PO w.heap.size w' v))) :
    Calls Try.prog 94 #[.pointer (some ⟨Bd, 0, none⟩), .pointer (some ⟨Ba, 0, none⟩)] w fun e w' =>
      (∃ k, e = .panicked (gave k) ∧ PK k ∧ w.grownBy w' none) ∨ (e = .returned (.tuple #[]) ∧ ∃ a ln cp, w'.heap[Ba]? = some (.cells #[.slice a ln cp] 22 (0, 0)) ∧ PO w.heap.size w' (.slice a ln cp) ∧ w.grownBy w' (some Ba)) := by
  have HD : Hid (∀ u : Unit, _) := fun _ => hdo
  have HA : Hid _ := ha
  have la : Ba < w.heap.size := (Array.getElem?_eq_some_iff.1 ha).1
  clear hdo ha
  go_enter Try.func94, Try.ntmps94
  go_wp2_with fail
  refine (HD.out ()).mono ?_
  rintro e W2 ⟨hg2, (⟨k, hk, rfl⟩ | ⟨v, rfl, hown⟩)⟩
  · exact ⟨rfl, .inl ⟨k, rfl, hk, hg2⟩⟩
  · have hb2 := (hg2.block Ba la (by simp)).trans HA.out
    obtain ⟨a, ln, cp, rfl⟩ := hsl _ _ _ hown
    have HO : Hid (PO w.heap.size W2 (.slice a ln cp)) := hown
    have HG : Hid (w.grownBy W2 none) := hg2
    have HB : Hid (W2.heap[Ba]? = some (.cells #[.slice none 0 0] 22 (0, 0))) := hb2
    have c0 := boxed_cell (i := 0) hb2 rfl
    have f0 := boxed_frozen (i := 0) hb2
    clear hb2 hown hg2
    go_wp2
    go_end0
    refine .inr ⟨rfl, a, ln, cp, ?_, ?_, ?_⟩
    · exact block_set (i := 0) HB.out (.slice a ln cp)
    · exact hset _ _ _ _ _ _ HO.out la
    · exact gtrans (gnone HG.out) (gset _ Ba 0 _)

set_option maxRecDepth 100000 in
set_option maxHeartbeats 1000000 in
/-- **atFace**, of a call that answers a list. -/
theorem atFace_rs (gd : Nat) (ld : Array Value) (ed : ∀ args w, (callFunc gd args).run Try.prog w = .ok (.enter gd args) w) (PK : Int → Prop) (PO : Nat → World → Value → Prop) (w : World)
    (hsl : ∀ B W v, PO B W v → ∃ a ln cp, v = .slice a ln cp) (hset : ∀ B W v k o x, PO B W v → k < B → PO B (W.setCell ⟨k, o, none⟩ x) v) (hbase : ∀ B B' W v, PO B W v → B' ≤ B → PO B' W v)
    (hdo : ∀ W, w.grownBy W none → Calls Try.prog gd ld W fun e w' => W.grownBy w' none ∧ ((∃ k, PK k ∧ e = .panicked (gave k)) ∨ (∃ v, e = .returned v ∧ PO W.heap.size w' v))) :
    Calls Try.prog 62 #[.func (.func gd) #[] ld] w fun e w' => w.grownBy w' none ∧
      ((∃ k, PK k ∧ e = .returned (.tuple #[.slice none 0 0, .int .i64 k])) ∨ (∃ v, e = .returned (.tuple #[v, .int .i64 0]) ∧ PO w.heap.size w' v)) := by
  have hmf : ∀ (fn : Fn) (first cap : Array Value) (w : World), (Instr.makeFunc fn first cap).run Try.prog w = .ok (.func fn first cap) w := fun _ _ _ _ => rfl
  have HD : Hid _ := hdo
  clear hdo
  go_enter Try.func62, Try.ntmps62
  go_wp2_with fail
  obtain ⟨W1, hW1⟩ : ∃ W1, W1 = (w.alloc (.cells #[.func (.func gd) #[] ld] 94)).alloc (.cells #[.slice none 0 0] 22) := ⟨_, rfl⟩
  rw [← hW1]
  have hs1 : W1.heap.size = w.heap.size + 2 := by rw [hW1]; simp
  have hg1 : w.grownBy W1 none := by rw [hW1]; exact gallocR (galloc _ _ _) _
  have hd1 : W1.heap[w.heap.size]? = some (.cells #[.func (.func gd) #[] ld] 94 (0, 0)) := by rw [hW1]; exact (Below.heap_alloc _ _ _ (by simp)).trans (World.alloc_heap_new _ _)
  have ha1 : W1.heap[w.heap.size + 1]? = some (.cells #[.slice none 0 0] 22 (0, 0)) := by
    rw [hW1]
    have h := World.alloc_heap_new (w.alloc (.cells #[.func (.func gd) #[] ld] 94)) (.cells #[.slice none 0 0] 22)
    rw [World.size_alloc] at h
    exact h
  clear hW1
  obtain ⟨O, hO⟩ : ∃ O : Obj, O = .cells #[.int .i64 0] 25 := ⟨_, rfl⟩
  have hg2 : w.grownBy (W1.alloc O) none := gallocR hg1 _
  have hf := face1_rs gd ld ed w.heap.size (w.heap.size + 1) PK PO (W1.alloc O) hsl hset (boxed_cell (i := 0) ((Below.heap_alloc _ _ _ (by omega)).trans hd1) rfl) ((Below.heap_alloc _ _ _ (by omega)).trans ha1) (HD.out _ hg2)
  have hn : (W1.alloc O).heap[W1.heap.size]? = some O := World.alloc_heap_new _ _
  have hsO : (W1.alloc O).heap.size = w.heap.size + 3 := by simp; omega
  have hca := caught_any 94 #[.pointer (some ⟨w.heap.size, 0, none⟩), .pointer (some ⟨w.heap.size + 1, 0, none⟩)] (enters_of Try.func94 (by kernel_rfl) rfl) W1
    (fun w' => ∃ a ln cp, w'.heap[w.heap.size + 1]? = some (.cells #[.slice a ln cp] 22 (0, 0)) ∧ PO (w.heap.size + 3) w' (.slice a ln cp) ∧ w.grownBy w' none ∧ W1.heap.size < w'.heap.size)
    (fun k w' => PK k ∧ w'.heap[w.heap.size + 1]? = some (.cells #[.slice none 0 0] 22 (0, 0)) ∧ w.grownBy w' none ∧ W1.heap.size < w'.heap.size) (by
      rw [← hO]
      refine hf.mono ?_
      rintro e w' (⟨k, rfl, hk, hg⟩ | ⟨rfl, a, ln, cp, hb, ho, hg⟩)
      · refine ⟨(hg.block _ (by omega) (by simp)).trans hn, .inr ⟨k, rfl, hk, (hg.block _ (by omega) (by simp)).trans ((Below.heap_alloc _ _ _ (by omega)).trans ha1), gtrans hg2 hg, by have := hg.size; omega⟩⟩
      · refine ⟨(hg.block _ (by omega) (by simp; omega)).trans hn, .inl ⟨rfl, a, ln, cp, hb, by rw [← hsO]; exact ho, gbut hg2 hg (by omega), by have := hg.size; omega⟩⟩)
  refine hca.mono ?_
  clear hf hca hn hg2
  rintro e w'' ⟨w', k, rfl, rfl, (⟨rfl, a, ln, cp, hb, ho, hg, hsz⟩ | ⟨hk, hb, hg, hsz⟩)⟩
  · have hb2 : (w'.setCell ⟨W1.heap.size, 0, none⟩ (.int .i64 0)).heap[w.heap.size + 1]? = _ := (Below.heap_setCell _ _ _ _ (by show w.heap.size + 1 ≠ W1.heap.size; omega)).trans hb
    have HO : Hid (PO (w.heap.size + 3) (w'.setCell ⟨W1.heap.size, 0, none⟩ (.int .i64 0)) (.slice a ln cp)) := hset _ _ _ _ _ _ ho (by omega)
    have HG : Hid (w.grownBy (w'.setCell ⟨W1.heap.size, 0, none⟩ (.int .i64 0)) none) := gfresh hg (by omega)
    generalize w'.setCell ⟨W1.heap.size, 0, none⟩ (.int .i64 0) = W3 at *
    have c0 := boxed_cell (i := 0) hb2 rfl
    have f0 := boxed_frozen (i := 0) hb2
    clear hb2 ho hg hb ha1 hd1
    go_wp2
    refine bodyPost_ret (v := .tuple #[.slice a ln cp, .int .i64 0]) (by simp [results, Try.results62, go_sem, c0]) rfl ?_
    exact ⟨gfresh HG.out (by omega), .inr ⟨_, rfl, hbase _ _ _ _ (hset _ _ _ _ _ _ HO.out (by omega)) (by omega)⟩⟩
  · have hb2 : (w'.setCell ⟨W1.heap.size, 0, none⟩ (.int .i64 k)).heap[w.heap.size + 1]? = _ := (Below.heap_setCell _ _ _ _ (by show w.heap.size + 1 ≠ W1.heap.size; omega)).trans hb
    have HP : Hid _ := hk
    have HG : Hid (w.grownBy (w'.setCell ⟨W1.heap.size, 0, none⟩ (.int .i64 k)) none) := gfresh hg (by omega)
    generalize w'.setCell ⟨W1.heap.size, 0, none⟩ (.int .i64 k) = W3 at *
    have c0 := boxed_cell (i := 0) hb2 rfl
    have f0 := boxed_frozen (i := 0) hb2
    clear hb2 hk hg hb ha1 hd1
    go_wp2
    refine bodyPost_ret (v := .tuple #[.slice none 0 0, .int .i64 k]) (by simp [results, Try.results62, go_sem, c0]) rfl ?_
    exact ⟨gfresh HG.out (by omega), .inl ⟨k, HP.out, rfl⟩⟩
end Go.Proofs.Ytdjmhagclcfnfaa
/- The program's Some. -/
namespace Go.Proofs.Ytdjmhagclcfnfaa
open Go.RowKit Go.Shelf

/-- How Some ends, the numbers being none below zero. -/
def ToldS (l : List UInt8) (fr mn : Nat) (w : World) (e : Ending) (w' : World) : Prop :=
  w.grownBy w' none ∧ ((∃ k, someR l fr mn = .inl k ∧ e = .returned (.tuple #[.slice none 0 0, .int .i64 k])) ∨ (∃ rs v, someR l fr mn = .inr rs ∧ e = .returned (.tuple #[v, .int .i64 0]) ∧ OwnsR w.heap.size w' v rs))

set_option maxRecDepth 100000 in
set_option maxHeartbeats 1000000 in
theorem some1_any (Ba Bb Bc : Nat) (l : List UInt8) (fr mn : Nat) (w : World) (hl : l.length ≤ 4611686018427387904) (hfr : fr ≤ 9223372036854775807) (hmn : mn ≤ 9223372036854775807) (ha : w.cell? ⟨Ba, 0, none⟩ = some (.string ⟨l.toArray⟩)) (hb : w.cell? ⟨Bb, 0, none⟩ = some (.int .i64 fr)) (hc : w.cell? ⟨Bc, 0, none⟩ = some (.int .i64 mn)) :
    Calls Try.prog 63 #[.pointer (some ⟨Ba, 0, none⟩), .pointer (some ⟨Bb, 0, none⟩), .pointer (some ⟨Bc, 0, none⟩)] w fun e w' => w.grownBy w' none ∧
      ((∃ k, someR l fr mn = .inl k ∧ e = .panicked (gave k)) ∨ (∃ rs v, someR l fr mn = .inr rs ∧ e = .returned v ∧ OwnsR w.heap.size w' v rs)) := by
  have HR : Hid (∀ u : Unit, _) := fun _ => readSome_any l fr mn w hl hfr hmn
  go_enter Try.func63, Try.ntmps63
  go_wp2_with fail
  refine (HR.out ()).mono ?_
  rintro e W2 ⟨hg2, (⟨k, hk, rfl⟩ | ⟨rs, v, hk, rfl, hown⟩)⟩
  · exact ⟨rfl, hg2, .inl ⟨k, hk, rfl⟩⟩
  · have G2 : Hid _ := hg2
    have HO : Hid _ := hown
    have HP : Hid _ := hk
    obtain ⟨a, ln, cp, rfl⟩ : ∃ a ln cp, v = .slice a ln cp := by
      rcases hown.2 with ⟨rfl, _⟩ | ⟨g, cap, cur, rfl, _⟩
      · exact ⟨_, _, _, rfl⟩
      · exact ⟨_, _, _, rfl⟩
    clear hg2 hown hk
    go_wp2
    go_ret
    exact ⟨G2.out, .inr ⟨rs, _, HP.out, rfl, HO.out⟩⟩

theorem atFaceS_any (Ba Bb Bc : Nat) (l : List UInt8) (fr mn : Nat) (w : World) (hl : l.length ≤ 4611686018427387904) (hfr : fr ≤ 9223372036854775807) (hmn : mn ≤ 9223372036854775807) (ha : w.cell? ⟨Ba, 0, none⟩ = some (.string ⟨l.toArray⟩)) (hb : w.cell? ⟨Bb, 0, none⟩ = some (.int .i64 fr)) (hc : w.cell? ⟨Bc, 0, none⟩ = some (.int .i64 mn)) (la : Ba < w.heap.size) (lb : Bb < w.heap.size) (lc : Bc < w.heap.size) :
    Calls Try.prog 62 #[.func (.func 63) #[] #[.pointer (some ⟨Ba, 0, none⟩), .pointer (some ⟨Bb, 0, none⟩), .pointer (some ⟨Bc, 0, none⟩)]] w (ToldS l fr mn w) := by
  refine (atFace_rs 63 #[.pointer (some ⟨Ba, 0, none⟩), .pointer (some ⟨Bb, 0, none⟩), .pointer (some ⟨Bc, 0, none⟩)] (enters_of Try.func63 (by kernel_rfl) rfl) (fun k => someR l fr mn = .inl k) (fun B W v => ∃ rs, someR l fr mn = .inr rs ∧ OwnsR B W v rs) w ?_ ?_ ?_ ?_).mono ?_
  · rintro B W v ⟨rs, _, hown⟩
    rcases hown.2 with ⟨rfl, _⟩ | ⟨g, cap, cur, rfl, _⟩
    · exact ⟨_, _, _, rfl⟩
    · exact ⟨_, _, _, rfl⟩
  · rintro B W v k o x ⟨rs, h1, h2⟩ hk
    exact ⟨rs, h1, h2.set hk⟩
  · rintro B B' W v ⟨rs, h1, h2⟩ hb
    exact ⟨rs, h1, h2.base hb⟩
  · intro W hg
    refine (some1_any Ba Bb Bc l fr mn W hl hfr hmn ((World.cell?_of_block (hg.block Ba la (by simp))).trans ha) ((World.cell?_of_block (hg.block Bb lb (by simp))).trans hb) ((World.cell?_of_block (hg.block Bc lc (by simp))).trans hc)).mono ?_
    rintro e w' ⟨h1, (h2 | ⟨rs, v, h2, h3, h4⟩)⟩
    · exact ⟨h1, .inl h2⟩
    · exact ⟨h1, .inr ⟨v, h3, rs, h2, h4⟩⟩
  · rintro e w' ⟨h1, (h2 | ⟨v, h3, rs, h2, h4⟩)⟩
    · exact ⟨h1, .inl h2⟩
    · exact ⟨h1, .inr ⟨rs, v, h2, h3, h4⟩⟩

set_option maxRecDepth 100000 in
set_option maxHeartbeats 1000000 in
/-- **Some**, of numbers that are none below zero. -/
theorem psome (l : List UInt8) (fr mn : Nat) (w : World) (hl : l.length ≤ 4611686018427387904) (hfr : fr ≤ 9223372036854775807) (hmn : mn ≤ 9223372036854775807) :
    Calls Try.prog 27 #[.string ⟨l.toArray⟩, .int .i64 fr, .int .i64 mn] w (ToldS l fr mn w) := by
  have hmf : ∀ (fn : Fn) (first cap : Array Value) (w : World), (Instr.makeFunc fn first cap).run Try.prog w = .ok (.func fn first cap) w := fun _ _ _ _ => rfl
  go_enter Try.func27, Try.ntmps27
  go_wp2_with fail
  obtain ⟨W1, hW1⟩ : ∃ W1, W1 = ((w.alloc (.cells #[.string ⟨l.toArray⟩] 9)).alloc (.cells #[.int .i64 fr] 3)).alloc (.cells #[.int .i64 mn] 3) := ⟨_, rfl⟩
  rw [← hW1]
  have hg1 : w.grownBy W1 none := by rw [hW1]; exact gallocR (gallocR (galloc _ _ _) _) _
  have hs1 : W1.heap.size = w.heap.size + 3 := by rw [hW1]; simp
  have ha1 : W1.heap[w.heap.size]? = some (.cells #[.string ⟨l.toArray⟩] 9 (0, 0)) := by rw [hW1]; exact (Below.heap_alloc _ _ _ (by simp; omega)).trans ((Below.heap_alloc _ _ _ (by simp)).trans (World.alloc_heap_new _ _))
  have hb1 : W1.heap[w.heap.size + 1]? = some (.cells #[.int .i64 fr] 3 (0, 0)) := by
    rw [hW1]
    have h := World.alloc_heap_new (w.alloc (.cells #[.string ⟨l.toArray⟩] 9)) (.cells #[.int .i64 fr] 3)
    rw [World.size_alloc] at h
    exact (Below.heap_alloc _ _ _ (by simp)).trans h
  have hc1 : W1.heap[w.heap.size + 1 + 1]? = some (.cells #[.int .i64 mn] 3 (0, 0)) := by
    rw [hW1]
    have h := World.alloc_heap_new ((w.alloc (.cells #[.string ⟨l.toArray⟩] 9)).alloc (.cells #[.int .i64 fr] 3)) (.cells #[.int .i64 mn] 3)
    rw [World.size_alloc, World.size_alloc] at h
    exact h
  clear hW1
  refine (atFaceS_any w.heap.size (w.heap.size + 1) (w.heap.size + 1 + 1) l fr mn W1 hl hfr hmn (boxed_cell ha1 rfl) (boxed_cell hb1 rfl) (boxed_cell hc1 rfl) (by omega) (by omega) (by omega)).mono ?_
  rintro e W2 ⟨hg2, hcase⟩
  have G2 : Hid (w.grownBy W2 none) := gtrans hg1 hg2
  clear hg1 hg2 ha1 hb1 hc1
  rcases hcase with ⟨k, hk, rfl⟩ | ⟨rs, v, hk, rfl, hown⟩
  · have HP : Hid _ := hk
    clear hk
    go_wp2
    refine bodyPost_ret (results_tmp2 rfl _ _ _) rfl ?_
    exact ⟨G2.out, .inl ⟨k, HP.out, rfl⟩⟩
  · obtain ⟨a, ln, cp, rfl⟩ : ∃ a ln cp, v = .slice a ln cp := by
      rcases hown.2 with ⟨rfl, _⟩ | ⟨g, cap, cur, rfl, _⟩
      · exact ⟨_, _, _, rfl⟩
      · exact ⟨_, _, _, rfl⟩
    have HO : Hid _ := hown
    have HP : Hid _ := hk
    clear hown hk
    go_wp2
    refine bodyPost_ret (results_tmp2 rfl _ _ _) rfl ?_
    exact ⟨G2.out, .inr ⟨rs, _, HP.out, rfl, OwnsR.base HO.out (by omega)⟩⟩
set_option maxRecDepth 100000 in
set_option maxHeartbeats 1000000 in
/-- .. of others. -/
theorem psome_bad (l : List UInt8) (fr mn : Int) (w : World) (h : fr < 0 ∨ mn < 0) :
    Calls Try.prog 27 #[.string ⟨l.toArray⟩, .int .i64 fr, .int .i64 mn] w fun e w' => w.grownBy w' none ∧ e = .returned (.tuple #[.slice none 0 0, .int .i64 1]) := by
  have hmf : ∀ (fn : Fn) (first cap : Array Value) (w : World), (Instr.makeFunc fn first cap).run Try.prog w = .ok (.func fn first cap) w := fun _ _ _ _ => rfl
  have e1 : (decide (fr < 0) || decide (mn < 0)) = true := by simpa using h
  go_enter Try.func27, Try.ntmps27
  go_wp2
  all_goals
    refine bodyPost_ret (results_tmp2 rfl _ _ _) rfl ?_
    exact ⟨gallocR (gallocR (galloc _ _ _) _) _, rfl⟩
end Go.Proofs.Ytdjmhagclcfnfaa
/- strandlaw's keptRecords. -/
namespace Go.Proofs.Ytdjmhagclcfnfaa
open Go.RowKit Go.Shelf

theorem Marked.below {N : Nat} {W W' : World} {vo : Value} {m : Int} {n : Nat} (h : Marked N W vo m n) (hb : Below N W W') : Marked N W' vo m n := by
  obtain ⟨g, cap, ss, e, hg, hl, hc⟩ := h
  exact ⟨g, cap, ss, e, hg, hl, fun j hj => ⟨(hb.cell (p := ⟨g, j, none⟩) hg).trans (hc j hj).1, (hc j hj).2.below hb.block⟩⟩
theorem Old.slice {N : Nat} {W : World} {s : Value} {xs : List Rc} (h : Old N W s xs) : ∃ a cap, s = .slice a xs.length cap := by
  rcases h with ⟨rfl, a, cap, e⟩ | ⟨b, cap, e, _⟩
  · exact ⟨a, cap, e⟩
  · exact ⟨_, cap, e⟩

set_option maxRecDepth 100000 in
set_option maxHeartbeats 1000000 in
theorem keptRecords_any (vo : Value) (m : Int) (n N : Nat) (w : World) (h : Marked N w vo m n) (hn : n ≤ 1000) :
    Calls Try.prog 17 #[vo, .int .i64 m] w fun e w' => e = .returned (.bool true) ∧ w.grownBy w' none := by
  obtain ⟨g, cap, ss, rfl, hg, hl, hc⟩ := h
  have HC : Hid _ := hc
  clear hc
  go_enter Try.func17, Try.ntmps17
  go_wp2
  go_loop [5] (fun i => ∃ k : Nat, k ≤ 4 ∧ i = .int .i64 k) (fun i => 4 - (intOf i).toNat)
  case atStart => exact ⟨0, by omega, rfl⟩
  case round =>
    obtain ⟨k, hk, rfl⟩ := hrel
    by_cases hlt : k < 4
    · obtain ⟨q, hold⟩ := HC.out k (by omega)
      obtain ⟨a, c, hs⟩ := hold.slice
      rw [List.length_replicate] at hs
      rw [hs] at q hold
      have HO : Hid _ := hold
      clear hold hs
      go_wp2
      go_loop [6] (fun i => ∃ j : Nat, j ≤ n + k ∧ i = .int .i64 j) (fun i => n + k - (intOf i).toNat)
      case atStart => exact ⟨0, by omega, rfl⟩
      case round =>
        obtain ⟨j, hj, rfl⟩ := hrel
        by_cases hjt : j < n + k
        · obtain ⟨b, rfl, o0, o1, o2⟩ : ∃ b, a = some ⟨b, 0, none⟩ ∧ w.cell? ⟨b, j * 3, none⟩ = some (.bool false) ∧ w.cell? ⟨b, j * 3 + 1, none⟩ = some (.int .i64 m) ∧ w.cell? ⟨b, j * 3 + 2, none⟩ = some (.string ⟨#[]⟩) := by
            rcases HO.out with ⟨h0, _⟩ | ⟨b, cap', e, _, hcs⟩
            · have := congrArg List.length h0
              simp at this
              omega
            · simp only [Value.slice.injEq] at e
              obtain ⟨h0, h1, h2⟩ := hcs j (by simpa using hjt)
              simp only [List.getElem_replicate] at h0 h1 h2
              exact ⟨b, e.1, h0, h1, h2⟩
          go_wp2
          go_round
          case rel => exact ⟨j + 1, by omega, by go_num⟩
          case measure => simp [intOf]; omega
        · go_wp2
          go_round
          case rel => exact ⟨k + 1, by omega, by go_num⟩
          case measure => simp [intOf]; omega
    · go_wp2
      go_ret
      exact ⟨rfl, drew_grown w 0 none⟩
end Go.Proofs.Ytdjmhagclcfnfaa
/- The reference's Some. -/
namespace Go.Proofs.Ytdjmhagclcfnfaa
open Go.RowKit Go.Shelf

/-- How the reference's Some ends. -/
def ToldRS (l : List UInt8) (fr mn : Nat) (w : World) (e : Ending) (w' : World) : Prop :=
  w.grownBy w' none ∧ ((∃ k, someR l fr mn = .inl k ∧ e = .returned (.tuple #[.slice none 0 0, .int .i64 k])) ∨ (∃ rs v, someR l fr mn = .inr rs ∧ e = .returned (.tuple #[v, .int .i64 0]) ∧ Recs w'.heap.size w' v rs))

theorem some_part {l : List UInt8} {fr mn f t b z m : Nat} (h : openR l = .inr (f, t, b, z, m)) (h1 : fr < m) (h2 : mn < m - fr) :
    (∀ rs k, walkR b z (fr + mn) (-1) (l.drop 18) = (rs, .inl k) → someR l fr mn = .inl k) ∧ (∀ rs q, walkR b z (fr + mn) (-1) (l.drop 18) = (rs, .inr q) → someR l fr mn = .inr (rs.drop fr)) := by
  refine ⟨fun rs k hw => ?_, fun rs q hw => ?_⟩
  · unfold someR
    rw [h]
    simp only [if_pos (And.intro h1 h2)]
    rw [hw]
  · unfold someR
    rw [h]
    simp only [if_pos (And.intro h1 h2)]
    rw [hw]
theorem some_whole {l : List UInt8} {fr mn f t b z m : Nat} (h : openR l = .inr (f, t, b, z, m)) (hc : ¬ (fr < m ∧ mn < m - fr)) :
    (∀ k, parseR l = .inl k → someR l fr mn = .inl k) ∧ (∀ f t b z rs, parseR l = .inr (f, t, b, z, rs) → someR l fr mn = .inr (rs.drop fr)) := by
  refine ⟨fun k hw => ?_, fun f t b z rs hw => ?_⟩
  · unfold someR
    rw [h]
    simp only [if_neg hc]
    rw [hw]
  · unfold someR
    rw [h]
    simp only [if_neg hc]
    rw [hw]
/-- Records, from one on. -/
theorem Recs.from_ {B : Nat} {W : World} {a : Option Addr} {len cap k cap' : Nat} {rs : List Rc} (h : Recs B W (.slice a len cap) rs) (hk : k ≤ rs.length) (hl : len = rs.length) (a' : Option Addr) (ha : ∀ b o, a = some ⟨b, o, none⟩ → a' = some ⟨b, o + k * 3, none⟩) : Recs B W (.slice a' (len - k) cap') (rs.drop k) := by
  subst hl
  rcases h with ⟨rfl, _⟩ | ⟨b, o, c, e, hb, hc⟩
  · simp at hk
    subst hk
    exact .inl ⟨rfl, a', cap', rfl⟩
  · simp only [Value.slice.injEq] at e
    rw [ha b o e.1]
    refine .inr ⟨b, o + k * 3, cap', by rw [List.length_drop], hb, fun j hj => ?_⟩
    rw [List.length_drop] at hj
    have := hc (k + j) (by omega)
    rw [List.getElem_drop]
    rw [show o + k * 3 + j * 3 = o + (k + j) * 3 from by omega]
    exact this

theorem OwnsR.cap {B : Nat} {W : World} {a : Option Addr} {ln cp : Nat} {rs : List Rc} (h : OwnsR B W (.slice a ln cp) rs) : ln ≤ cp := by
  rcases h.2 with ⟨e, _⟩ | ⟨g, cap, cur, e, _, _, h1, _⟩
  · simp only [Value.slice.injEq] at e
    omega
  · simp only [Value.slice.injEq] at e
    omega
theorem parse_len {l : List UInt8} {f t b z m f' t' b' z' : Nat} {rs : List Rc} (ho : openR l = .inr (f, t, b, z, m)) (h : parseR l = .inr (f', t', b', z', rs)) : rs.length = m := by
  unfold parseR at h
  rw [ho] at h
  simp only [] at h
  cases hw : walkR b z m (-1) (l.drop 18) with
  | mk ys y =>
    rw [hw] at h
    cases y with
    | inl k => cases h
    | inr q =>
      simp only [] at h
      have hl := walk_length b z m (-1) _ hw
      cases he : endR l (l.length - q.length) with
      | some k => rw [he] at h; cases h
      | none =>
        rw [he] at h
        cases h
        exact hl

set_option maxRecDepth 100000 in
set_option maxHeartbeats 2000000 in
theorem rsome (l : List UInt8) (fr mn : Nat) (w : World) (hl : l.length ≤ 4611686018427387904) (hfr : fr ≤ 9223372036854775807) (hmn : mn ≤ 9223372036854775807) :
    Calls Try.prog 26 #[.string ⟨l.toArray⟩, .int .i64 fr, .int .i64 mn] w (ToldRS l fr mn w) := by
  have HO : Hid (∀ W, _) := fun W => ropens l [83, 84, 82, 68] 18 0 W (by omega) hl
  rw [openG_R] at HO
  have t18 := tail_eq l 18
  have HP : Hid (∀ W, _) := fun W => rparse l W hl
  go_enter Try.func26, Try.ntmps26
  go_wp2_with fail
  refine (HO.out _).mono ?_
  rintro e w1 ⟨hg1, hcase⟩
  rcases hcase with ⟨k, hk, rfl⟩ | ⟨f, t, b, z, m, hk, rfl, h18, hw, hm⟩
  · have hke := openR_err l k hk
    have e1 : (k != 0) = true := by simp; omega
    have HA : Hid (someR l fr mn = .inl k) := by
      show _ = _
      unfold someR
      rw [hk]
    have G1 : Hid _ := hg1
    clear hk hke hg1
    go_wp2
    refine bodyPost_ret (results_tmp2 rfl _ _ _) rfl ?_
    exact ⟨gallocR G1.out _, .inl ⟨k, HA.out, rfl⟩⟩
  have HK : Hid _ := hk
  replace hm : m ≤ b := by simpa using hm
  obtain ⟨h1, h2, h3, h4, h5, h6, h7, h8, h9⟩ : (0 : Int) ≤ f ∧ (f : Int) ≤ 2147483647 ∧ (1 : Int) ≤ t ∧ (t : Int) ≤ 2147483647 ∧ (f : Int) ≠ t ∧ (1 : Int) ≤ b ∧ (b : Int) ≤ 100 ∧ (1 : Int) ≤ z ∧ (z : Int) ≤ 64 := of_decide_eq_true hw
  have G1 : Hid _ := hg1
  clear hk hw h1 h2 h3 h4 h5 h6 h8 hg1
  by_cases hcase : fr < m ∧ mn < m - fr
  · obtain ⟨hc1, hc2⟩ := hcase
    have e1 : decide ((m : Int) ≤ (fr : Int)) = false := by simp; omega
    have e1' : decide (m ≤ fr) = false := by simp; omega
    have e2 : decide ((m : Int) - (fr : Int) ≤ (mn : Int)) = false := by simp; omega
    obtain ⟨S, hS⟩ : ∃ S, S = fr + mn := ⟨_, rfl⟩
    have HR : Hid (∀ W, _) := fun W => rrecords (l.drop 18) b z S f t false W (by omega) (by omega) (by simp; omega)
    have ew : IntKind.i64.wrap ((fr : Int) + (mn : Int)) = (S : Int) := by rw [IntKind.wrap_i64]; omega
    obtain ⟨p1, p2⟩ := some_part HK.out hc1 hc2
    rw [← hS] at p1 p2
    have hS1 : fr ≤ S := by omega
    have hS2 : S ≤ 100 := by omega
    clear hS
    have HS1 : Hid _ := p1
    have HS2 : Hid _ := p2
    clear p1 p2
    go_wp2_with fail
    obtain ⟨W2, hW2⟩ : ∃ W2, W2 = w1.alloc (.cells #[.int .i64 f, .int .i64 t, .int .i64 b, .int .i64 z, .slice none 0 0] 24) := ⟨_, rfl⟩
    have hx2 : W2.heap[w1.heap.size]? = some (.cells #[.int .i64 f, .int .i64 t, .int .i64 b, .int .i64 z, .slice none 0 0] 24 (0, 0)) := by rw [hW2]; exact World.alloc_heap_new _ _
    have hg2 : w1.grownBy W2 none := by rw [hW2]; exact galloc _ _ _
    have hs2 : w1.heap.size < W2.heap.size := by rw [hW2]; simp
    rw [← hW2]
    clear hW2
    obtain ⟨x0, x1, x2, x3, x4, -, -, -, -, -⟩ := box5 hx2
    have h18' : (18 : Int) ≤ (l.length : Int) := by omega
    have G2 : Hid (w.grownBy W2 none) := gtrans G1.out hg2
    clear hx2 hg2
    go_region_held3 (fun w' => w'.cell? ⟨w1.heap.size, 0, none⟩ = some (.int .i64 f) ∧ w'.cell? ⟨w1.heap.size, 1, none⟩ = some (.int .i64 t) ∧ w'.cell? ⟨w1.heap.size, 2, none⟩ = some (.int .i64 b) ∧ w'.cell? ⟨w1.heap.size, 3, none⟩ = some (.int .i64 z) ∧ w'.cell? ⟨w1.heap.size, 4, none⟩ = some (.slice none 0 0) ∧ W2.grownBy w' none)
      (first | exact ⟨x0, x1, x2, x3, x4, drew_grown _ _ _⟩ | exact keep5g (by assumption) (by omega) G3.out)
      (first | (go_at_call 46; refine (HR.out _).mono ?_; rintro e w3 h3; obtain ⟨a, ln, cp, sr, ke, rfl, hg3, hcase⟩ := recs_shape h3; have G3 : Hid _ := hg3; clear h3 hg3))
    rename_i hS3
    have G3' : Hid (w.grownBy w3 none) := gtrans G2.out hS3.2.2.2.2.2
    clear hS3 x0 x1 x2 x3 x4
    rcases hcase with ⟨rs, hwk, hke⟩ | ⟨rs, q', hwk, rfl, rfl, hown⟩
    · have e3 : (ke != 0) = true := by simp; omega
      have HA : Hid _ := HS1.out rs ke hwk
      clear hwk hke
      go_wp2
      refine bodyPost_ret (results_tmp2 rfl _ _ _) rfl ?_
      exact ⟨G3'.out, .inl ⟨ke, HA.out, rfl⟩⟩
    · have HA : Hid _ := HS2.out rs q' hwk
      have hrl := walk_length b z S (-1) _ hwk
      have hrc := OwnsR.recs hown
      obtain ⟨a', cp', e'⟩ := hrc.slice
      simp only [Value.slice.injEq] at e'
      obtain ⟨-, hln, -⟩ := e'
      rw [hrl] at hln
      subst hln
      have HRC : Hid _ := hrc
      have hcap : ln ≤ cp := OwnsR.cap hown
      clear hwk hown hrc
      go_wp2
      all_goals
        refine bodyPost_ret (results_tmp2 rfl _ _ _) rfl ?_
        refine ⟨G3'.out, .inr ⟨_, _, HA.out, rfl, ?_⟩⟩
        first
        | exact .inl ⟨List.drop_of_length_le (by omega), _, _, congrArg (fun x => Value.slice _ x _) (show ln - fr = 0 by omega)⟩
        | exact Recs.from_ HRC.out (by omega) hrl.symm _ (fun b o e => by rw [e, Option.map_some, Addr.add_lit])
  · have hor : (decide (m ≤ fr) = true) ∨ (decide (m ≤ fr) = false ∧ decide ((m : Int) - (fr : Int) ≤ (mn : Int)) = true) := by
      simp
      omega
    obtain ⟨p1, p2⟩ := some_whole HK.out hcase
    have HS1 : Hid _ := p1
    have HS2 : Hid _ := p2
    clear p1 p2 hcase
    have HPL : Hid (∀ f' t' b' z' rs, parseR l = .inr (f', t', b', z', rs) → rs.length = m) := fun _ _ _ _ _ h => parse_len HK.out h
    rcases hor with e1 | ⟨e1, e2⟩
    all_goals
      go_wp2_with fail
      obtain ⟨W2, hW2⟩ : ∃ W2, W2 = w1.alloc (.cells #[.int .i64 f, .int .i64 t, .int .i64 b, .int .i64 z, .slice none 0 0] 24) := ⟨_, rfl⟩
      have hx2 : W2.heap[w1.heap.size]? = some (.cells #[.int .i64 f, .int .i64 t, .int .i64 b, .int .i64 z, .slice none 0 0] 24 (0, 0)) := by rw [hW2]; exact World.alloc_heap_new _ _
      have G2 : Hid (w.grownBy W2 none) := by rw [hW2]; exact gallocR G1.out _
      have hw1 : w.heap.size ≤ w1.heap.size := G1.out.size
      rw [← hW2]
      clear hW2
      refine (HP.out _).mono ?_
      rintro e w3 ⟨hg3, (⟨k, hk, rfl⟩ | ⟨f', t', b', z', rs, v, hk, rfl, hown⟩)⟩
      · have hke := parse_err l k hk
        have e3 : (k != 0) = true := by simp; omega
        have HA : Hid _ := HS1.out k hk
        obtain ⟨c0, c1, c2, c3, c4, f0, f1, f2, f3, f4⟩ := box5 (box_kept hx2 hg3).1
        have G3 : Hid (w.grownBy w3 none) := gtrans G2.out hg3
        clear hk hke hx2 hg3
        go_wp2
        refine bodyPost_ret (results_tmp2 rfl _ _ _) rfl ?_
        exact ⟨gfresh (gfresh (gfresh (gfresh (gfresh G3.out (by omega)) (by omega)) (by omega)) (by omega)) (by omega), .inl ⟨k, HA.out, rfl⟩⟩
      · have HA : Hid _ := HS2.out f' t' b' z' rs hk
        have hrl := HPL.out _ _ _ _ _ hk
        obtain ⟨av, lv, cv, rfl⟩ := hown.slice
        have hcap : lv ≤ cv := OwnsR.cap hown
        have hlv : lv = rs.length := by
          obtain ⟨_, _, e⟩ := (OwnsR.recs hown).slice
          simp only [Value.slice.injEq] at e
          exact e.2.1
        have hlt3 : w1.heap.size < W2.heap.size := (Array.getElem?_eq_some_iff.1 hx2).1
        have HOW : Hid (OwnsR W2.heap.size w3 (.slice av lv cv) rs) := hown
        obtain ⟨c0, c1, c2, c3, c4, f0, f1, f2, f3, f4⟩ := box5 (box_kept hx2 hg3).1
        have G3 : Hid (w.grownBy w3 none) := gtrans G2.out hg3
        rw [hrl] at hlv
        subst hlv
        have hor2 : lv ≤ fr ∨ fr ≤ lv := by omega
        clear hk hx2 hg3 hown
        first
        | (have hfl : fr ≤ lv := by (simp at e1; omega)); (clear hor2); go_wp2
        | (clear hor2); go_wp2
        all_goals
          refine bodyPost_ret (results_tmp2 rfl _ _ _) rfl ?_
          refine ⟨gfresh (gfresh (gfresh (gfresh (gfresh G3.out (by omega)) (by omega)) (by omega)) (by omega)) (by omega), .inr ⟨_, _, HA.out, rfl, ?_⟩⟩
          have hrc := OwnsR.recs (OwnsR.set (OwnsR.set (OwnsR.set (OwnsR.set (OwnsR.set HOW.out (k := w1.heap.size) (o := 0) (x := .int .i64 f') (by omega)) (k := w1.heap.size) (o := 1) (x := .int .i64 t') (by omega)) (k := w1.heap.size) (o := 2) (x := .int .i64 b') (by omega)) (k := w1.heap.size) (o := 3) (x := .int .i64 z') (by omega)) (k := w1.heap.size) (o := 4) (x := .slice av lv cv) (by omega))
          first
          | exact .inl ⟨List.drop_of_length_le (by simp at e1; omega), _, _, rfl⟩
          | exact .inl ⟨List.drop_of_length_le (by omega), _, _, congrArg (fun x => Value.slice _ x _) (show lv - fr = 0 by omega)⟩
          | exact Recs.from_ hrc (by omega) hrl.symm _ (fun b o e => by rw [e, Option.map_some, Addr.add_lit])
end Go.Proofs.Ytdjmhagclcfnfaa
/- The walk of Somes. -/
namespace Go.Proofs.Ytdjmhagclcfnfaa
open Go.RowKit Go.Shelf

set_option maxRecDepth 100000 in
set_option maxHeartbeats 1000000 in
theorem rsome_bad (l : List UInt8) (fr mn : Int) (w : World) (h : fr < 0 ∨ mn < 0) :
    Calls Try.prog 26 #[.string ⟨l.toArray⟩, .int .i64 fr, .int .i64 mn] w fun e w' => w.grownBy w' none ∧ e = .returned (.tuple #[.slice none 0 0, .int .i64 1]) := by
  have e1 : (decide (fr < 0) || decide (mn < 0)) = true := by simpa using h
  go_enter Try.func26, Try.ntmps26
  go_wp2
  all_goals
    refine bodyPost_ret (results_tmp2 rfl _ _ _) rfl ?_
    exact ⟨drew_grown _ 0 _, rfl⟩

theorem someR_len (l : List UInt8) (fr mn : Nat) (rs : List Rc) (h : someR l fr mn = .inr rs) : rs.length ≤ 100 := by
  unfold someR at h
  cases ho : openR l with
  | inl k => rw [ho] at h; cases h
  | inr v =>
    obtain ⟨f, t, b, z, m⟩ := v
    rw [ho] at h
    simp only [] at h
    obtain ⟨_, _, hw, hm, _, _⟩ := openR_ok l f t b z m ho
    obtain ⟨h1, h2, h3, h4, h5, h6, h7, h8, h9⟩ : (0 : Int) ≤ f ∧ (f : Int) ≤ 2147483647 ∧ (1 : Int) ≤ t ∧ (t : Int) ≤ 2147483647 ∧ (f : Int) ≠ t ∧ (1 : Int) ≤ b ∧ (b : Int) ≤ 100 ∧ (1 : Int) ≤ z ∧ (z : Int) ≤ 64 := of_decide_eq_true hw
    split at h
    · rename_i hc
      cases hk : walkR b z (fr + mn) (-1) (l.drop 18) with
      | mk ys y =>
        rw [hk] at h
        cases y with
        | inl k => cases h
        | inr q =>
          have hl := walk_length b z (fr + mn) (-1) _ hk
          cases h
          rw [List.length_drop]
          omega
    · cases hp : parseR l with
      | inl k => rw [hp] at h; cases h
      | inr v =>
        obtain ⟨f', t', b', z', ys⟩ := v
        rw [hp] at h
        have hl := parse_len ho hp
        cases h
        rw [List.length_drop]
        omega

/-- Both Somes answer one and the same. -/
theorem some_both (l : List UInt8) (fr mn : Int) (hl : l.length ≤ 4611686018427387904) (h1 : fr ≤ 9223372036854775807) (h2 : mn ≤ 9223372036854775807) : ∃ (rs : List Rc) (k : Int), rs.length ≤ 100 ∧
    (∀ w, Calls Try.prog 26 #[.string ⟨l.toArray⟩, .int .i64 fr, .int .i64 mn] w fun e w' => ∃ a c, e = .returned (.tuple #[.slice a rs.length c, .int .i64 k]) ∧ Recs w'.heap.size w' (.slice a rs.length c) rs ∧ w.grownBy w' none) ∧
    (∀ w, Calls Try.prog 27 #[.string ⟨l.toArray⟩, .int .i64 fr, .int .i64 mn] w fun e w' => ∃ a c, e = .returned (.tuple #[.slice a rs.length c, .int .i64 k]) ∧ OwnsR w.heap.size w' (.slice a rs.length c) rs ∧ w.grownBy w' none) := by
  by_cases hb : fr < 0 ∨ mn < 0
  · refine ⟨[], 1, by simp, fun w => (rsome_bad l fr mn w hb).mono ?_, fun w => (psome_bad l fr mn w hb).mono ?_⟩
    · rintro e w' ⟨hg, rfl⟩
      exact ⟨none, 0, rfl, .inl ⟨rfl, none, 0, rfl⟩, hg⟩
    · rintro e w' ⟨hg, rfl⟩
      exact ⟨none, 0, rfl, World.ownsRow_nil _ _ _ _, hg⟩
  · obtain ⟨F, rfl⟩ := Int.eq_ofNat_of_zero_le (show 0 ≤ fr by omega)
    obtain ⟨M, rfl⟩ := Int.eq_ofNat_of_zero_le (show 0 ≤ mn by omega)
    cases hs : someR l F M with
    | inl k =>
      refine ⟨[], k, by simp, fun w => (rsome l F M w hl (by omega) (by omega)).mono ?_, fun w => (psome l F M w hl (by omega) (by omega)).mono ?_⟩
      · rintro e w' ⟨hg, (⟨k', hk, rfl⟩ | ⟨rs, v, hk, rfl, ho⟩)⟩
        · rw [hs] at hk; cases hk
          exact ⟨none, 0, rfl, .inl ⟨rfl, none, 0, rfl⟩, hg⟩
        · rw [hs] at hk; cases hk
      · rintro e w' ⟨hg, (⟨k', hk, rfl⟩ | ⟨rs, v, hk, rfl, ho⟩)⟩
        · rw [hs] at hk; cases hk
          exact ⟨none, 0, rfl, World.ownsRow_nil _ _ _ _, hg⟩
        · rw [hs] at hk; cases hk
    | inr rs =>
      refine ⟨rs, 0, someR_len l F M rs hs, fun w => (rsome l F M w hl (by omega) (by omega)).mono ?_, fun w => (psome l F M w hl (by omega) (by omega)).mono ?_⟩
      · rintro e w' ⟨hg, (⟨k', hk, rfl⟩ | ⟨rs', v, hk, rfl, ho⟩)⟩
        · rw [hs] at hk; cases hk
        · rw [hs] at hk; cases hk
          obtain ⟨a, c, rfl⟩ := ho.slice
          exact ⟨a, c, rfl, ho, hg⟩
      · rintro e w' ⟨hg, (⟨k', hk, rfl⟩ | ⟨rs', v, hk, rfl, ho⟩)⟩
        · rw [hs] at hk; cases hk
        · rw [hs] at hk; cases hk
          obtain ⟨a, c, rfl⟩ := ho.recs.slice
          exact ⟨a, c, rfl, ho, hg⟩

set_option maxRecDepth 100000 in
set_option maxHeartbeats 2000000 in
theorem somes_walk (l : List UInt8) (fr mn : Int) (w : World) (hl : l.length ≤ 4611686018427387904) (h1 : fr ≤ 9223372036854775807) (h2 : mn ≤ 9223372036854775807) :
    Calls Try.prog 6 #[.string ⟨l.toArray⟩, .int .i64 fr, .int .i64 mn] w fun e w' => e = .returned (.bool true) ∧ w.grownBy w' none := by
  obtain ⟨rs, k, HN, hr, hp⟩ := some_both l fr mn hl h1 h2
  have HR : Hid _ := hr
  have HP : Hid _ := hp
  clear hr hp h1 h2
  go_enter Try.func6, Try.ntmps6
  go_wp2_with fail
  refine (HR.out _).mono ?_
  rintro e w1 ⟨aw, cw, rfl, ow, g1⟩
  have RW : Hid (∀ W, Below w1.heap.size w1 W → Recs W.heap.size W (.slice aw rs.length cw) rs) := fun W h => ow.moved h
  have G1 : Hid _ := g1
  clear ow g1
  go_wp2_with fail
  refine (HP.out _).mono ?_
  rintro e w2 ⟨ax, cx, rfl, ox, g2⟩
  have B2 : Hid (Below w1.heap.size w1 w2) := below_of_grown g2
  have z2 : w1.heap.size ≤ w2.heap.size := g2.size
  have OX : Hid _ := ox
  clear ox g2
  go_wp2_with fail
  refine (same_any _ _ rs w2 (OwnsR.recs OX.out) (RW.out _ B2.out) (by omega)).mono ?_
  rintro e w3 ⟨rfl, n3, h3⟩
  have O3 : Hid (OwnsR w1.heap.size w3 (.slice ax rs.length cx) rs) := by rw [h3]; exact OX.out
  have B3 : Hid (Below w1.heap.size w1 w3) := by rw [h3]; exact ⟨B2.out.os, B2.out.tape, B2.out.output, B2.out.size, B2.out.block⟩
  have z3 : w1.heap.size ≤ w3.heap.size := B3.out.size
  clear h3 OX B2
  go_wp2_with fail
  refine (ownRecords_any _ rs _ w1.heap.size w3 O3.out (by omega) (by omega)).mono ?_
  rintro e w4 ⟨one, rfl, m4, g4⟩
  have M4 : Hid _ := m4
  have B4 : Hid (Below w1.heap.size w1 w4) := B3.out.grown g4 (by omega) (OwnsR.own_ge O3.out)
  have z4 : w3.heap.size ≤ w4.heap.size := g4.size
  clear m4 g4 O3
  go_wp2_with fail
  refine (HP.out _).mono ?_
  rintro e w5 ⟨ay, cy, rfl, oy, g5⟩
  have B5 : Hid (Below w4.heap.size w4 w5) := below_of_grown g5
  have z5 : w4.heap.size ≤ w5.heap.size := g5.size
  have OY : Hid _ := oy
  clear oy g5
  go_wp2_with fail
  refine (same_any _ _ rs w5 (OwnsR.recs OY.out) (RW.out _ (B4.out.trans (B5.out.mono (by omega)))) (by omega)).mono ?_
  rintro e w6 ⟨rfl, n6, h6⟩
  have O6 : Hid (OwnsR w4.heap.size w6 (.slice ay rs.length cy) rs) := by rw [h6]; exact OY.out
  have B6 : Hid (Below w4.heap.size w4 w6) := by rw [h6]; exact ⟨B5.out.os, B5.out.tape, B5.out.output, B5.out.size, B5.out.block⟩
  have z6 : w4.heap.size ≤ w6.heap.size := B6.out.size
  clear h6 OY B5
  go_wp2_with fail
  refine (ownRecords_any _ rs _ w4.heap.size w6 O6.out (by omega) (by omega)).mono ?_
  rintro e w7 ⟨two, rfl, m7, g7⟩
  have M7 : Hid _ := m7
  have B7 : Hid (Below w4.heap.size w4 w7) := B6.out.grown g7 (by omega) (OwnsR.own_ge O6.out)
  have z7 : w6.heap.size ≤ w7.heap.size := g7.size
  clear m7 g7 O6
  go_wp2_with fail
  refine (keptRecords_any one _ rs.length w4.heap.size w7 (Marked.below M4.out B7.out) (by omega)).mono ?_
  rintro e w8 ⟨rfl, g8⟩
  have G8 : Hid _ := g8
  have z8 : w7.heap.size ≤ w8.heap.size := g8.size
  clear g8
  go_wp2_with fail
  refine (keptRecords_any two _ rs.length w7.heap.size w8 (Marked.below M7.out (below_of_grown G8.out)) (by omega)).mono ?_
  rintro e w9 ⟨rfl, g9⟩
  have G9 : Hid _ := g9
  clear g9
  go_wp2
  go_ret
  refine ⟨rfl, gtrans G1.out (gbelow ?_)⟩
  exact (B4.out.trans (B7.out.mono (by omega))).grown (gtrans G8.out G9.out) (by omega) (by simp)
end Go.Proofs.Ytdjmhagclcfnfaa
/- The statement on Somes. -/
namespace Go.Proofs.Ytdjmhagclcfnfaa
open Go.ChangeShapes Go.WideShapes Go.ChangeAt Go.RowKit
open Go.ChangeMaps (open_string shut_string)

set_option maxRecDepth 100000 in
theorem somes_lifted (os : Os) (started : os.Started) (H : Type) (enc : TypeId × Value → H) :
    ReturnsInHanded {} Try.checked os 6 .any (Rows.somesSpec.pre6 enc Try.prog Try.f6 Rows.somesRow.domain false) (Rows.somesSpec.post enc Try.prog Try.f6 false true false false) := by
  refine returnsInHanded_of_change_sized (C := Try.checked) Try.own started (by kernel_rfl) Try.func6
    (ChangeSpec.witness6 (enc := enc) (C := Try.checked) false ⟨#[], #[.string ByteArray.empty, .int .i64 0, .int .i64 0], []⟩ 8 (by kernel_rfl) (by kernel_rfl) (by kernel_rfl) (by kernel_rfl)) ?_
  intro W base args ds gs before hval0 hW _ hsz0 _
  have hsz : (DataW.weightsEach Try.prog (Try.f6.params.toList ++ Rows.somesSpec.plain.varTypes Try.prog) (ds ++ gs)).all (· ≤ reachBytes) = true := hsz0
  clear hsz0
  have hval : ∀ (j : Nat) t v, Try.f6.params[j]? = some t → args[j]? = some v → Value.okWide Try.prog W .any base t v := hval0
  have hW' := hW
  obtain ⟨p, q, hA0, hV, rfl, _, _⟩ := hW
  have hA : DataW.TrodAll enc Try.prog W 0 (fun _ => true) true Try.f6.params.toList args.toList ds p := hA0
  rw [Try.params6] at hA hval hsz
  obtain ⟨v0, vs0, d0, ds0, p0, q0, hargs, rfl, rfl, h0, r0⟩ := trodAll_cons hA
  obtain ⟨v1, vs1, d1, ds1, p1, q1, rfl, rfl, rfl, h1, r1⟩ := trodAll_cons r0
  obtain ⟨v2, vs2, d2, ds2, p2, q2, rfl, rfl, rfl, h2, r2⟩ := trodAll_cons r1
  obtain ⟨rfl, rfl, rfl⟩ := trodAll_nil r2
  obtain rfl : args = #[v0, v1, v2] := by cases args; simp_all
  obtain ⟨rfl, rfl⟩ := trodVars_none hV
  obtain ⟨a0, rfl, rfl, rfl, w0⟩ := open_string Try.underlying9 (hval 0 9 v0 rfl rfl) h0
  obtain ⟨a1, rfl, rfl, rfl, w1⟩ := open_int Try.underlying3 (hval 1 3 v1 rfl rfl) h1
  obtain ⟨a2, rfl, rfl, rfl, w2⟩ := open_int Try.underlying3 (hval 2 3 v2 rfl rfl) h2
  clear hA0 hval0
  simp only [List.append_nil] at hW'
  have hlen : a0.data.toList.length ≤ 4611686018427387904 := by
    have h4 := DataW.weights_mem_each (H := H) (P := Try.prog) (j := 0) (ts := [9, 3, 3] ++ Rows.somesSpec.plain.varTypes Try.prog) (ds := [.lit (.string a0.data.toList), .lit (.int .i64 a1), .lit (.int .i64 a2)] ++ []) rfl rfl a0.data.toList.length (by simp [DataW.weights])
    have h5 := of_decide_eq_true (List.all_eq_true.1 hsz _ h4)
    simp only [reachBytes] at h5
    omega
  have hwalk := somes_walk a0.data.toList a1 a2 W hlen (wf_i64 w1).2 (wf_i64 w2).2
  rw [show (⟨a0.data.toList.toArray⟩ : ByteArray) = a0 from rfl] at hwalk
  refine hwalk.mono fun e W' ⟨he, hg⟩ => ?_
  subst he
  have hb := below_of_grown hg
  refine ⟨_, rfl, _, _, _, [], [] ++ ([] ++ ([] ++ [])), [], hW', ?_, ?_, rfl, hb.frame _, fun h => by cases h⟩
  · exact trodAll_cons_mk (shut_bool Try.underlying4 _) trodAll_mk0
  · exact trodAll_cons_mk (shut_string Try.underlying9 w0) (trodAll_cons_mk (shut_int Try.underlying3 w1) (trodAll_cons_mk (shut_int Try.underlying3 w2) trodAll_mk0))

theorem somes_holds : Rows.SomesSaid :=
  OpenClaim.holds_of_wide 6 Try.f6 rfl rfl rfl rfl rfl rfl rfl ⟨rfl, rfl, rfl, rfl, rfl⟩ rfl rfl rfl rfl rfl (by kernel_rfl) Try.func6 (by kernel_rfl)
    (of_decide_eq_true (by kernel_rfl)) (by unfold Func.isWrapper; first | (rw [if_pos (by decide +kernel)]; kernel_rfl) | (rw [if_neg (by decide +kernel)]; exact ⟨rfl, rfl⟩))
    (fun os started H enc _ => somes_lifted os started H enc)
end Go.Proofs.Ytdjmhagclcfnfaa
