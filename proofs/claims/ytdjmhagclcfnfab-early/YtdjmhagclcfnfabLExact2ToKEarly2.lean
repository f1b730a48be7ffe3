/- LExact2, KPick, KMade, KText, KInts, PFace2, PSome2, KEarly, KEarly2 -/
import Derived.Test.YtdjmhagclcfnfabLExact
import Derived.Test.YtdjmhagclcfnfabLWrites3
import Derived.OpenShut
import Derived.ShutString
import Derived.Test.YtdjmhagclcfnfabPRead
import Derived.Deep.AppendLies
import Derived.Test.YtdjmhagclcfnfabLOwn
import Derived.Deep.RegionLaw
import Derived.ChangeSlices
import Derived.Test.YtdjmhagclcfnfabPFace
import Derived.Test.YtdjmhagclcfnfabPSome
import Derived.Test.YtdjmhagclcfnfabEarlyM
/- The statement on Exact. -/
namespace Go.Proofs.Ytdjmhagclcfnfab
open Go.ChangeShapes Go.WideShapes Go.ChangeAt Go.RowKit
open Go.ChangeMaps (open_string shut_string)

theorem below_of_grown {A B : World} (h : A.grownBy B none) : Below A.heap.size A B := ⟨h.os, h.tape, h.output, h.size, fun k hk => h.block k hk (by simp)⟩

end Go.Proofs.Ytdjmhagclcfnfab
/- strandkeep's pick, nth and shape. -/
namespace Go.Proofs.Ytdjmhagclcfnfab
open Go.RowKit

/-- An int as there are. -/
def I64 (c : Int) : Prop := -9223372036854775808 ≤ c ∧ c ≤ 9223372036854775807
/-- Which of n things. -/
def pickN (c : Int) (n : Nat) : Nat := (if c < 0 then (-(c + 1)) else c).toNat % n

theorem pickN_lt (c : Int) (n : Nat) (hn : 0 < n) : pickN c n < n := Nat.mod_lt _ hn

set_option maxRecDepth 100000 in
theorem pick_any (c : Int) (n : Nat) (w : World) (hc : I64 c) (h0 : 0 < n) (hn : n ≤ 2147483647) :
    Calls Try.prog 8 #[.int .i64 c, .int .i64 n] w fun e w' => e = .returned (.int .i64 (pickN c n : Nat)) ∧ w' = w := by
  obtain ⟨hc1, hc2⟩ := hc
  go_enter Try.func8, Try.ntmps8
  by_cases hlt : c < 0
  · obtain ⟨m, rfl⟩ : ∃ m : Nat, c = -(m : Int) - 1 := ⟨(-(c + 1)).toNat, by omega⟩
    have e : (pickN (-(m : Int) - 1) n : Int) = (m : Int) % n := by
      unfold pickN
      rw [if_pos hlt, Int.natCast_emod]
      congr 1
      omega
    rw [e]
    go_wp2
    go_ret
    exact ⟨rfl, rfl⟩
  · obtain ⟨m, rfl⟩ := Int.eq_ofNat_of_zero_le (show 0 ≤ c by omega)
    have e : (pickN (m : Int) n : Int) = (m : Int) % n := by
      unfold pickN
      rw [if_neg hlt, Int.natCast_emod]
      rfl
    rw [e]
    go_wp2
    go_ret
    exact ⟨rfl, rfl⟩

/-- A list of ints that lies below B. -/
def Ints (B : Nat) (W : World) (v : Value) (xs : List Int) : Prop :=
  (xs = [] ∧ ∃ a cap, v = .slice a 0 cap) ∨ ∃ b o cap, v = .slice (some ⟨b, o, none⟩) xs.length cap ∧ b < B ∧ ∀ j (h : j < xs.length), W.cell? ⟨b, o + j, none⟩ = some (.int .i64 xs[j])
theorem Ints.below {B : Nat} {W W' : World} {v : Value} {xs : List Int} (h : Ints B W v xs) (hb : Below B W W') : Ints B W' v xs := by
  rcases h with h | ⟨b, o, cap, e, hlt, hc⟩
  · exact .inl h
  · exact .inr ⟨b, o, cap, e, hlt, fun j hj => (hb.cell (p := ⟨b, o + j, none⟩) hlt).trans (hc j hj)⟩
theorem Ints.slice {B : Nat} {W : World} {v : Value} {xs : List Int} (h : Ints B W v xs) : ∃ a cap, v = .slice a xs.length cap := by
  rcases h with ⟨rfl, a, cap, e⟩ | ⟨b, o, cap, e, _⟩
  · exact ⟨a, cap, e⟩
  · exact ⟨_, cap, e⟩

set_option maxRecDepth 100000 in
theorem nth_any (B : Nat) (v : Value) (xs : List Int) (i : Nat) (w : World) (h : Ints B w v xs) (_hi : i ≤ 1000) (hl : xs.length ≤ 9223372036854775807) :
    Calls Try.prog 9 #[v, .int .i64 i] w fun e w' => e = .returned (.int .i64 (xs.getD i 0)) ∧ w' = w := by
  obtain ⟨a, cap, rfl⟩ := h.slice
  go_enter Try.func9, Try.ntmps9
  by_cases hlt : i < xs.length
  · obtain ⟨b, o, rfl, hc⟩ : ∃ b o, a = some ⟨b, o, none⟩ ∧ w.cell? ⟨b, o + i, none⟩ = some (.int .i64 xs[i]) := by
      rcases h with ⟨rfl, _⟩ | ⟨b, o, cap', e, _, hc⟩
      · simp at hlt
      · simp only [Value.slice.injEq] at e
        exact ⟨b, o, e.1, hc i hlt⟩
    rw [List.getD_eq_getElem?_getD, List.getElem?_eq_getElem hlt, Option.getD_some]
    clear h
    go_wp2
    go_ret
    exact ⟨rfl, rfl⟩
  · rw [List.getD_eq_getElem?_getD, List.getElem?_eq_none (by omega), Option.getD_none]
    clear h
    go_wp2
    go_ret
    exact ⟨rfl, rfl⟩

theorem pick_at (c n : Int) (m : Nat) (w : World) (hc : I64 c) (e : n = m) (h0 : 0 < m) (hn : m ≤ 2147483647) :
    Calls Try.prog 8 #[.int .i64 c, .int .i64 n] w fun e w' => e = .returned (.int .i64 (pickN c m : Nat)) ∧ w' = w := by
  subst e
  exact pick_any c m w hc h0 hn

set_option maxRecDepth 100000 in
set_option maxHeartbeats 1000000 in
theorem shape_any (x y : Int) (w : World) (hx : I64 x) (hy : I64 y) :
    Calls Try.prog 4 #[.int .i64 x, .int .i64 y] w fun e w' => e = .returned (.tuple #[.int .i64 (pickN x 100 + 1 : Nat), .int .i64 (pickN y 64 + 1 : Nat)]) ∧ w' = w := by
  have H1 : Hid (∀ u : Unit, Calls Try.prog 8 #[.int .i64 x, .int .i64 100] w fun e w' => e = .returned (.int .i64 (pickN x 100 : Nat)) ∧ w' = w) := fun _ => pick_at x 100 100 w hx rfl (by omega) (by omega)
  have H2 : Hid (∀ u : Unit, Calls Try.prog 8 #[.int .i64 y, .int .i64 64] w fun e w' => e = .returned (.int .i64 (pickN y 64 : Nat)) ∧ w' = w) := fun _ => pick_at y 64 64 w hy rfl (by omega) (by omega)
  have h1 := pickN_lt x 100 (by omega)
  have h2 := pickN_lt y 64 (by omega)
  generalize pickN x 100 = n1 at *
  generalize pickN y 64 = n2 at *
  go_enter Try.func4, Try.ntmps4
  go_wp2_with fail
  go_at_call 8
  refine (H1.out ()).mono ?_
  rintro _ _ ⟨rfl, rfl⟩
  go_wp2_with fail
  go_at_call 8
  refine (H2.out ()).mono ?_
  rintro _ _ ⟨rfl, rfl⟩
  go_wp2
  refine bodyPost_ret (results_tmp2 rfl _ _ _) rfl ?_
  refine ⟨?_, rfl⟩
  simp
  omega

set_option maxRecDepth 100000 in
set_option maxHeartbeats 1000000 in
theorem data_any (c : Int) (z : Nat) (w : World) (hc : -4611686018427387904 ≤ c ∧ c ≤ 4611686018427387904) (hz : z ≤ 64) :
    Calls Try.prog 10 #[.int .i64 c, .int .i64 z] w fun e w' => ∃ bs : List UInt8, bs.length = z ∧ e = .returned (.string ⟨bs.toArray⟩) ∧ w.grownBy w' none := by
  obtain ⟨hc1, hc2⟩ := hc
  go_enter Try.func10, Try.ntmps10
  go_wp2
  go_loopw [5, 6] (fun b i wr => ∃ (k : Nat) (bs : List UInt8), k ≤ z ∧ i = .int .i64 k ∧ bs.length = k ∧ OwnsB w.heap.size wr b bs ∧ w.grownBy wr none) (fun _ i _ => z - (intOf i).toNat)
  case atStart => exact ⟨0, [], Nat.zero_le _, rfl, rfl, World.ownsRow_nil _ _ _ _, drew_grown w 0 _⟩
  case round =>
    obtain ⟨k, bs, hk, rfl, hbl, hown, hg⟩ := hrel
    by_cases hlt : k < z
    · have H1 : Hid (∀ W, _) := fun W => pick_at (c + k) 26 26 W ⟨by omega, by omega⟩ rfl (by omega) (by omega)
      have h1 := pickN_lt (c + k) 26 (by omega)
      have HR : Hid (∀ x : Int, x = ((97 + pickN (c + k) 26 : Nat) : Int) → ∀ v' w1, w1.ownsRow w.heap.size 5 1 v' (bs.length + 1) (byteVals bs ++ [.int .u8 x]) → OwnsB w.heap.size w1 v' (bs ++ [UInt8.ofNat (97 + pickN (c + k) 26)])) := by
        intro x hx v' w1 ho
        unfold OwnsB
        rw [byteVals_append, List.length_append]
        rw [hx] at ho
        have e : ((UInt8.ofNat (97 + pickN (c + k) 26)).toNat : Int) = ((97 + pickN (c + k) 26 : Nat) : Int) := by
          rw [UInt8.toNat_ofNat']
          omega
        unfold byteVals at *
        rw [List.map_cons, List.map_nil, e]
        exact ho
      have HO : Hid (wr.ownsRow w.heap.size 5 1 _ bs.length (byteVals bs)) := hown
      have HG : Hid _ := hg
      have hsz : w.heap.size ≤ wr.heap.size := hg.size
      clear hown hg
      generalize pickN (c + k) 26 = n1 at *
      obtain ⟨i0, hi, hz0, hz1, hz2⟩ := info_parts Try.infoU8
      go_wp2_with (first
        | (go_at_call 8; refine (H1.out _).mono ?_; rintro _ _ ⟨rfl, rfl⟩)
        | (at_builtin; refine wpList_append_own_at _ rfl _ _ 44 rfl w.heap.size 5 i0 (.int .u8 0) 1 1 Try.underlying44 hi hz0 hz1 hz2 rfl (by decide) _ _ _ rfl (HO.out.alloc _) ⟨_, 0, none⟩ 1 1 [_] rfl rfl (cell_one_new _ _ _) (by intro u hu; simp at hu; subst hu; rfl) (by unfold maxLen; omega) (by omega) (by simp; omega) ?_; intro v' w1 hown' hgrow _ hat))
      refine ⟨⟨k + 1, _, by omega, by go_num, by simp; omega, HR.out _ (by go_num) _ _ hown', ?_⟩, by simp [intOf]; omega⟩
      have g1 := Grew.of_alloc hgrow hat
      exact ⟨g1.by_.os.trans HG.out.os, g1.by_.tape.trans HG.out.tape, g1.by_.output.trans HG.out.output, Nat.le_trans HG.out.size g1.by_.size, fun j hj hne => (g1.by_.block j (Nat.lt_of_lt_of_le hj HG.out.size) (fun e => by have := OwnsB.base (l := bs) HO.out j e.symm; omega)).trans (HG.out.block j hj hne)⟩
    · have HC := conv_own hown
      obtain rfl : k = z := by omega
      go_wp2
      go_ret
      exact ⟨bs, hbl, rfl, hg⟩
end Go.Proofs.Ytdjmhagclcfnfab
/- strandkeep's made and text. -/
namespace Go.Proofs.Ytdjmhagclcfnfab
open Go.RowKit Go.Shelf

/-- 'append(l, r)' at a step of a region that draws its order. -/
theorem step_rec {w : World} {ops : Array Oper} {o : Oper} {a : Act} {K : Act → World → Prop} {Q : Exit → Act → World → Prop} {E : Prop} (hgd : o.guard = none) (sl x : Operand)
    (ho : o.op = .call { callee := .builtin .append, args := #[sl, x], argTypes := #[25, 25] })
    (B : Nat) (v : Value) (rs : List Rc) (r : Rc) (nb : Nat) (hs : a.eval sl = v) (hown : OwnsR B w v rs) (hx : a.eval x = .slice (some ⟨nb, 0, none⟩) 1 1)
    (hc : ∀ j u, [Value.bool r.free, .int .i64 r.block, .string r.data][j]? = some u → w.cell? (Addr.add ⟨nb, 0, none⟩ j) = some u) (hl : rs.length ≤ 2000) (hB : B ≤ w.heap.size)
    (h : ∀ v' w', OwnsR B w' v' (rs ++ [r]) → w.grownBy w' v.ownBlock → K (a.put o.dst v') w') :
    if Region.wanted o (yielded ops a.tmps) = true then Oper.wp Try.prog o a w K Q else E := by
  obtain ⟨i0, hi, hz0, hz1, hz2⟩ := info_parts Try.infoRec
  have hml : rs.length + 1 ≤ maxLen := Nat.le_trans (show rs.length + 1 ≤ 2001 by omega) (by decide)
  refine step_append_lies w hgd sl x 25 ho B 35 i0 _ 3 32 Try.underlying25 hi hz0 hz1 hz2 rfl (by decide) v rs.length (recVals rs) hs hown ⟨nb, 0, none⟩ 1 1 _ hx rfl hc (by simp [Value.oneCell']) (by decide) hml (by omega) hB w.heap.size rfl ?_
  intro g cap w1 ho1 hg _ _
  exact h _ w1 (ownsR_snoc ho1) hg

theorem made_step {w wr w3 : World} {v0 v1 v2 v3 sv v' : Value} {rs rs' : List Rc} {cs : Array Value}
    (h0 : wr.heap[w.heap.size]? = some (.cells cs 27 (0, 0))) (h1 : wr.heap[w.heap.size + 1]? = some (.cells #[v0, v1, v2, v3, sv] 27 (0, 0))) (ho : OwnsR (w.heap.size + 2) wr sv rs) (hw : w.grownBy wr none)
    (hg : wr.grownBy w3 sv.ownBlock) (ho' : OwnsR (w.heap.size + 2) w3 v' rs') :
    (w3.setCell ⟨w.heap.size + 1, 4, none⟩ v').heap[w.heap.size]? = some (.cells cs 27 (0, 0)) ∧ (w3.setCell ⟨w.heap.size + 1, 4, none⟩ v').heap[w.heap.size + 1]? = some (.cells #[v0, v1, v2, v3, v'] 27 (0, 0)) ∧ OwnsR (w.heap.size + 2) (w3.setCell ⟨w.heap.size + 1, 4, none⟩ v') v' rs' ∧ w.grownBy (w3.setCell ⟨w.heap.size + 1, 4, none⟩ v') none := by
  have hge := ho.own_ge
  have hn : ∀ k, k < w.heap.size + 2 → some k ≠ sv.ownBlock := fun k hk e => by have := hge k e.symm; omega
  have l0 := (Array.getElem?_eq_some_iff.1 h0).1
  have l1 := (Array.getElem?_eq_some_iff.1 h1).1
  have b0 := (hg.block w.heap.size l0 (hn _ (by omega))).trans h0
  have b1 := (hg.block (w.heap.size + 1) l1 (hn _ (by omega))).trans h1
  refine ⟨?_, ?_, ho'.set (by omega), ?_⟩
  · exact (Below.heap_setCell _ _ _ _ (by show w.heap.size ≠ w.heap.size + 1; omega)).trans b0
  · exact block_set (i := 4) b1 v'
  · have g3 : w.grownBy w3 none := ⟨hg.os.trans hw.os, hg.tape.trans hw.tape, hg.output.trans hw.output, Nat.le_trans hw.size hg.size, fun j hj hne => (hg.block j (Nat.lt_of_lt_of_le hj hw.size) (hn _ (by omega))).trans (hw.block j hj hne)⟩
    exact gfresh g3 (by omega)

theorem made_kept {W w2 w3 : World} {B k : Nat} {sv : Value} {rs : List Rc} {o : Obj} (h : W.heap[k]? = some o) (hk : k < B) (ho : OwnsR B W sv rs) (h2 : W.grownBy w2 none) (hg : w2.grownBy w3 sv.ownBlock) : w3.heap[k]? = some o := by
  have hl := (Array.getElem?_eq_some_iff.1 h).1
  refine (hg.block k (Nat.lt_of_lt_of_le hl h2.size) (fun e => ?_)).trans ((h2.block k hl (by simp)).trans h)
  have := ho.own_ge k e.symm
  omega
theorem gwiden {A B C : World} {r : Option Nat} (h : A.grownBy B none) (k : B.grownBy C r) : A.grownBy C r :=
  ⟨k.os.trans h.os, k.tape.trans h.tape, k.output.trans h.output, Nat.le_trans h.size k.size, fun j hj hne => (k.block j (Nat.lt_of_lt_of_le hj h.size) hne).trans (h.block j hj (by simp))⟩

theorem quo4 (c : Int) (h1 : -9223372036854775808 ≤ c) (h2 : c ≤ 9223372036854775807) : -4611686018427387904 ≤ IntKind.i64.wrap (c.tdiv 4) ∧ IntKind.i64.wrap (c.tdiv 4) ≤ 4611686018427387904 := by
  rw [IntKind.wrap_i64]
  have : -2305843009213693952 ≤ c.tdiv 4 ∧ c.tdiv 4 ≤ 2305843009213693952 := by
    rcases Int.le_total 0 c with h | h
    · rw [Int.tdiv_eq_ediv_of_nonneg h]
      omega
    · have e : c.tdiv 4 = -((-c) / 4) := by
        conv => lhs; rw [show c = -(-c) by omega]
        rw [Int.neg_tdiv, Int.tdiv_eq_ediv_of_nonneg (by omega)]
      rw [e]
      omega
  omega
theorem keepM {wr W W' : World} {k : Nat} {v : Value} {r : Option Nat} (HM : ∀ W', wr.grownBy W' r → W'.cell? ⟨k, 4, none⟩ = some v ∧ W'.frozen? ⟨k, 4, none⟩ = false) (hS : W.cell? ⟨k, 4, none⟩ = some v ∧ W.frozen? ⟨k, 4, none⟩ = false ∧ wr.grownBy W r) (hg : W.grownBy W' r) :
    W'.cell? ⟨k, 4, none⟩ = some v ∧ W'.frozen? ⟨k, 4, none⟩ = false ∧ wr.grownBy W' r :=
  have h := gtrans hS.2.2 hg
  ⟨(HM W' h).1, (HM W' h).2, h⟩

set_option maxRecDepth 100000 in
set_option maxHeartbeats 4000000 in
theorem made_any (f t : Int) (n z : Nat) (v : Value) (xs : List Int) (wh : Bool) (w : World) (hv : Ints w.heap.size w v xs) (hxs : ∀ x ∈ xs, I64 x) (hxl : xs.length ≤ 9223372036854775807) (hn : n ≤ 100) (hz : z ≤ 64) :
    Calls Try.prog 5 #[.int .i64 f, .int .i64 t, .int .i64 n, .int .i64 z, v, .bool wh] w fun e w' => ∃ sv rs, e = .returned (.agg #[.int .i64 f, .int .i64 t, .int .i64 n, .int .i64 z, sv]) ∧ recsOk n z (-1) rs = true ∧ (wh = true → ∀ r ∈ rs, r.free = false) ∧ OwnsR w.heap.size w' sv rs ∧ w.grownBy w' none := by
  obtain ⟨a, cap, rfl⟩ := hv.slice
  have HV : Hid (∀ W, w.grownBy W none → Ints w.heap.size W (.slice a xs.length cap) xs) := fun W hW => hv.below ⟨hW.os, hW.tape, hW.output, hW.size, fun k hk => hW.block k hk (by simp)⟩
  have HX : Hid (∀ k, I64 (xs.getD k 0)) := by
    intro k
    rw [List.getD_eq_getElem?_getD]
    by_cases hk : k < xs.length
    · rw [List.getElem?_eq_getElem hk, Option.getD_some]
      exact hxs _ (List.getElem_mem hk)
    · rw [List.getElem?_eq_none (by omega), Option.getD_none]
      exact ⟨by omega, by omega⟩
  clear hv hxs
  go_enter Try.func5, Try.ntmps5
  go_wp2
  go_loopw [14] (fun b wr => ∃ (k : Nat) (sv : Value) (rs : List Rc), k ≤ n ∧ b = .int .i64 k ∧ wr.heap[w.heap.size]? = some (.cells #[.int .i64 0, .int .i64 0, .int .i64 0, .int .i64 0, .slice none 0 0] 27 (0, 0)) ∧ wr.heap[w.heap.size + 1]? = some (.cells #[.int .i64 f, .int .i64 t, .int .i64 n, .int .i64 z, sv] 27 (0, 0)) ∧ OwnsR (w.heap.size + 2) wr sv rs ∧ recsOk n z (-1) rs = true ∧ lastOf (-1) rs < k ∧ (wh = true → ∀ r ∈ rs, r.free = false) ∧ w.grownBy wr none) (fun b _ => n - (intOf b).toNat)
  case atStart =>
    obtain ⟨h1, h2, hB⟩ := two_boxes w #[.int .i64 0, .int .i64 0, .int .i64 0, .int .i64 0, .slice none 0 0] #[.int .i64 f, .int .i64 t, .int .i64 n, .int .i64 z, .slice none 0 0] 27
    exact ⟨0, _, [], Nat.zero_le _, rfl, h1, h2, World.ownsRow_nil _ _ _ _, rfl, by simp [lastOf], (fun _ r hr => by cases hr), gbelow hB⟩
  case round =>
    obtain ⟨k, sv, rs, hk, rfl, h0, h1, ho, hok, hla, hfr, hg⟩ := hrel
    obtain ⟨sa, sl, sc, rfl⟩ := ho.slice
    by_cases hlt : k < n
    · have HI := HX.out k
      have HN : Hid (∀ u : Unit, _) := fun _ => nth_any w.heap.size _ xs k wr (HV.out _ hg) (by omega) hxl
      generalize xs.getD k 0 = c at *
      have HP : Hid (∀ u : Unit, _) := fun _ => pick_at c 4 4 wr HI rfl (by omega) (by omega)
      have hp := pickN_lt c 4 (by omega)
      generalize pickN c 4 = p at *
      have hrl := recsOk_length n z rs hok (by omega)
      obtain ⟨c0, c1, c2, c3, c4, f0, f1, f2, f3, f4⟩ := box5 h1
      have H0 : Hid _ := h0
      have H1 : Hid _ := h1
      have HO : Hid _ := ho
      have HG : Hid _ := hg
      have HK : Hid (∀ fr d, (d.size : Int) = (if fr then 0 else (z : Int)) → (wh = true → fr = false) → recsOk n z (-1) (rs ++ [⟨fr, (k : Int), d⟩]) = true ∧ lastOf (-1) (rs ++ [⟨fr, (k : Int), d⟩]) < ((k + 1 : Nat) : Int) ∧ (wh = true → ∀ r ∈ rs ++ [⟨fr, (k : Int), d⟩], r.free = false)) := by
        intro fr d hd hf
        refine ⟨?_, ?_, ?_⟩
        · rw [recsOk_append, hok, Bool.true_and, recsOk, Bool.and_eq_true]
          exact ⟨decide_eq_true ⟨hla, by simp only; omega, hd⟩, rfl⟩
        · rw [lastOf_snoc]
          simp only
          omega
        · intro hw r hr
          rcases List.mem_append.1 hr with h | h
          · exact hfr hw r h
          · rw [List.mem_singleton.1 h]
            exact hf hw
      clear h0 h1 ho hg
      go_wp2_with fail
      go_at_call 9
      refine (HN.out ()).mono ?_
      rintro _ w1 ⟨rfl, rfl⟩
      go_wp2_with fail
      go_at_call 8
      refine (HP.out ()).mono ?_
      rintro _ wr ⟨rfl, rfl⟩
      clear HP HN
      have hz2 : w.heap.size + 1 < wr.heap.size := (Array.getElem?_eq_some_iff.1 H1.out).1
      obtain rfl | rfl | h23 : p = 0 ∨ p = 1 ∨ (p = 2 ∨ p = 3) := by omega
      · go_wp2
        exact ⟨⟨k + 1, _, rs, by omega, by go_num, H0.out, H1.out, HO.out, hok, by omega, hfr, HG.out⟩, by simp [intOf]; omega⟩
      · cases wh
        · go_wp2_with (at_builtin; refine wpList_append_rec _ rfl _ _ rfl (w.heap.size + 2) _ rs rfl (OwnsR.alloc HO.out _) ⟨_, 0, none⟩ ⟨true, k, ⟨#[]⟩⟩ rfl (cells_new2 _ _ _ _ (by simp)) (by omega) (by simp; omega) ?_; intro v' w3 hO3 hg3 _ _; obtain ⟨a3, l3, c3', rfl⟩ := hO3.slice; have G3 : Hid _ := hg3; have O3 : Hid _ := hO3; obtain ⟨-, -, -, -, d4, -, -, -, -, z4⟩ := box5 (made_kept H1.out (by omega) HO.out (World.grownBy_alloc _ _ none) hg3); clear hg3 hO3)
          obtain ⟨p0, p1, p2, p3⟩ := made_step H0.out H1.out HO.out HG.out (gwiden (World.grownBy_alloc _ _ none) G3.out) O3.out
          obtain ⟨q0, q1, q2⟩ := HK.out true ⟨#[]⟩ rfl (fun h => by cases h)
          exact ⟨⟨k + 1, _, _, by omega, by go_num, p0, p1, p2, q0, q1, q2, p3⟩, by simp [intOf]; omega⟩
        · go_wp2
          exact ⟨⟨k + 1, _, rs, by omega, by go_num, H0.out, H1.out, HO.out, hok, by omega, hfr, HG.out⟩, by simp [intOf]; omega⟩
      · have HD : Hid (∀ c', -4611686018427387904 ≤ c' ∧ c' ≤ 4611686018427387904 → ∀ W, _) := fun c' hc' W => data_any c' z W hc' hz
        have HM : Hid (∀ W', wr.drew.grownBy W' (Value.slice sa sl sc).ownBlock → W'.cell? ⟨w.heap.size + 1, 4, none⟩ = some (.slice sa sl sc) ∧ W'.frozen? ⟨w.heap.size + 1, 4, none⟩ = false) := by
          intro W' hW'
          have hb := made_kept H1.out (by omega) HO.out (w2 := wr.drew) ⟨rfl, rfl, rfl, Nat.le_refl _, fun _ _ _ => rfl⟩ hW'
          obtain ⟨-, -, -, -, d4, -, -, -, -, z4⟩ := box5 hb
          exact ⟨d4, z4⟩
        have HB2 : Hid (∀ W' o, wr.drew.grownBy W' none → w.heap.size + 2 ≤ (World.alloc W' o).heap.size) := fun W' o hW' => by
          have h1 : wr.heap.size ≤ W'.heap.size := hW'.size
          simp
          omega
        have HO2 : Hid (∀ W' o, wr.drew.grownBy W' none → OwnsR (w.heap.size + 2) (World.alloc W' o) (.slice sa sl sc) rs) := fun W' o hW' => OwnsR.alloc (OwnsR.kept (W := wr.drew) HO.out hW') o
        have HC2 : Hid (∀ (W : World) (d : ByteArray) j u, [Value.bool false, .int .i64 k, .string d][j]? = some u → (W.alloc (.cells #[.bool false, .int .i64 k, .string d] 35)).cell? (Addr.add ⟨W.heap.size, 0, none⟩ j) = some u) := fun W d => cells_new2 W [.bool false, .int .i64 k, .string d] 35 _ rfl
        have hr2 : rs.length ≤ 2000 := by omega
        have HW : Hid (wr.grownBy wr.drew none) := ⟨rfl, rfl, rfl, Nat.le_refl _, fun _ _ _ => rfl⟩
        obtain ⟨hi1, hi2⟩ := HI
        have HQ : -4611686018427387904 ≤ IntKind.i64.wrap (c.tdiv 4) ∧ IntKind.i64.wrap (c.tdiv 4) ≤ 4611686018427387904 := quo4 c hi1 hi2
        rcases h23 with rfl | rfl
        all_goals
          go_wp2_with fail
          go_region_law (first | (refine step_rec ?_ (.tmp 46) (.tmp 53) ?_ (w.heap.size + 2) (.slice sa sl sc) rs ⟨false, k, ⟨bs.toArray⟩⟩ w2.heap.size ?_ ?_ ?_ ?_ ?_ ?_ ?_; rfl; rfl; rfl; exact HO2.out _ _ G2.out; rfl; exact HC2.out _ _; exact hr2; exact HB2.out _ _ G2.out; intro v' w3 hO3 hg3; obtain ⟨a3, l3, c3', rfl⟩ := hO3.slice; have O3 : Hid _ := hO3; have G3 : Hid _ := hg3; obtain ⟨e4, y4⟩ := HM.out _ (gwiden (gtrans G2.out (World.grownBy_alloc _ _ none)) hg3); clear hO3 hg3) | (go_simp; go_at_call 10; refine (HD.out _ HQ _).mono ?_; rintro e w2 ⟨bs, hbs, rfl, hg2⟩; have G2 : Hid _ := hg2; obtain ⟨d4, z4⟩ := HM.out _ (gnone hg2); have hl2 : w.heap.size + 1 < w2.heap.size := Nat.lt_of_lt_of_le hz2 hg2.size; clear hg2; dsimp only))
          all_goals
            go_wp2
            obtain ⟨p0, p1, p2, p3⟩ := made_step H0.out H1.out HO.out HG.out (gwiden HW.out (gwiden (gtrans G2.out (World.grownBy_alloc _ _ none)) G3.out)) O3.out
            obtain ⟨q0, q1, q2⟩ := HK.out false ⟨bs.toArray⟩ (by simp [ByteArray.size, hbs]) (fun _ => rfl)
            exact ⟨⟨k + 1, _, _, by omega, by go_num, p0, p1, p2, q0, q1, q2, p3⟩, by simp [intOf]; omega⟩
    · obtain rfl : k = n := by omega
      obtain ⟨c0, c1, c2, c3, c4, f0, f1, f2, f3, f4⟩ := box5 h1
      obtain ⟨d0, d1, d2, d3, d4, g0, g1, g2, g3, g4⟩ := box5 h0
      have hz1 : w.heap.size < wr.heap.size := (Array.getElem?_eq_some_iff.1 h0).1
      have HO : Hid _ := ho
      have HG : Hid _ := hg
      clear h0 h1 ho hg
      go_wp2
      refine bodyPost_ret (v := .agg #[.int .i64 f, .int .i64 t, .int .i64 k,   .int .i64 z, .slice sa sl sc]) (by simp [results, Try.results5, go_sem, d0, d1, d2, d3, d4]) rfl ?_
      exact ⟨_, rs, rfl, hok, hfr, OwnsR.base (OwnsR.set (OwnsR.set (OwnsR.set (OwnsR.set (OwnsR.set HO.out (by omega)) (by omega)) (by omega)) (by omega)) (by omega)) (by omega), gfresh (gfresh (gfresh (gfresh (gfresh HG.out (by omega)) (by omega)) (by omega)) (by omega)) (by omega)⟩
end Go.Proofs.Ytdjmhagclcfnfab
/- strandkeep's text. -/
namespace Go.Proofs.Ytdjmhagclcfnfab
open Go.RowKit Go.Shelf

theorem serB_length (f t b z : Nat) (rs : List Rc) : (serB f t b z rs).length = 22 + (recsB rs).length := by
  simp [serB, aheadB, headB_length, lowB_length]
  omega
theorem serB_small (f t b z : Nat) (rs : List Rc) (hb : b ≤ 100) (hz : z ≤ 64) (ho : recsOk b z (-1) rs = true) : 22 ≤ (serB f t b z rs).length ∧ (serB f t b z rs).length ≤ 10000 := by
  have h1 := recsB_length b z (by omega) rs (-1) ho
  have h2 := recsOk_length b z rs ho (by omega)
  rw [serB_length]
  omega

set_option maxRecDepth 100000 in
set_option maxHeartbeats 1000000 in
theorem text_good (f t b z : Nat) (sv : Value) (rs : List Rc) (w : World) (hR : Recs w.heap.size w sv rs) (hw : wellHead f t b z = true) (ho : recsOk b z (-1) rs = true) :
    Calls Try.prog 6 #[.agg #[.int .i64 f, .int .i64 t, .int .i64 b, .int .i64 z, sv]] w fun e w' => e = .returned (.string ⟨(serB f t b z rs).toArray⟩) ∧ w.grownBy w' none := by
  obtain ⟨a, c, rfl⟩ := hR.slice
  have HS : Hid (∀ W, Below w.heap.size w W → _) := fun W hb => pser_good f t b z (.slice a rs.length c) rs W (hR.moved hb) hw ho
  clear hR hw ho
  generalize serB f t b z rs = L at *
  go_enter Try.func6, Try.ntmps6
  go_wp2_with fail
  refine (HS.out _ ((Below.refl _ _).alloc (Nat.le_refl _) _)).mono ?_
  rintro e w3 ⟨rfl, hb3⟩
  have G3 : Hid _ := hb3
  clear hb3
  go_wp2
  go_ret
  exact ⟨rfl, gtrans (galloc _ _ _) (gbelow G3.out)⟩
end Go.Proofs.Ytdjmhagclcfnfab
/- Lists of ints and ints, opened. -/
namespace Go.Proofs.Ytdjmhagclcfnfab
open Go.ChangeShapes Go.WideShapes Go.ChangeAt Go.RowKit

theorem wf_i64 {n : Int} (h : (Lit.int .i64 n).wf = true) : I64 n := by
  simp only [Lit.wf, Bool.and_eq_true, decide_eq_true_eq] at h
  exact ⟨h.1, h.2⟩
theorem getD_at (zs : List Int) (j : Nat) (h : j < zs.length) : zs.getD j 0 = zs[j] := by
  rw [List.getD_eq_getElem?_getD, List.getElem?_eq_getElem h, Option.getD_some]
set_option maxRecDepth 100000 in
theorem open_nums {H : Type} {enc : TypeId × Value → H} {W : World} {base : Nat} {v : Value} {d : DataW H} {p : List MemPlace} (hv : Value.okWide Try.prog W .any base 22 v) (h : DataW.Trod enc Try.prog W 0 (fun _ => true) true 22 v d p) :
    ∃ xs : List Int, Ints W.heap.size W v xs ∧ (∀ x ∈ xs, I64 x) ∧ xs.length ≤ 9223372036854775807 := by
  obtain ⟨a, len, cap, rfl⟩ := okWide_slice Try.underlying22 hv
  obtain ⟨fuel, hf⟩ := h
  rcases open_ints Try.underlying22 Try.underlying3 Try.cellsInt hf with ⟨e, _⟩ | ⟨a', len', cap', zs, e, _, hl, hm, hzl, _, hc, hwf⟩
  · simp [Value.cells] at e
    obtain ⟨rfl, rfl, rfl⟩ := e
    exact ⟨[], .inl ⟨rfl, none, 0, rfl⟩, (fun x hx => by cases hx), by simp⟩
  · simp [Value.cells] at e
    obtain ⟨rfl, rfl, rfl⟩ := e
    simp only [if_true] at hzl
    have hl2 : (zs.take len).length = len := by rw [List.length_take]; omega
    have hm' : cap ≤ 9223372036854775807 := hm
    refine ⟨zs.take len, ?_, fun x hx => wf_i64 (hwf x (List.mem_of_mem_take hx)), by omega⟩
    by_cases h0 : len = 0
    · subst h0
      exact .inl ⟨by simp, some a', cap, rfl⟩
    · have c0 := hc 0 (by omega)
      obtain ⟨b, o, sp⟩ := a'
      obtain rfl : sp = none := by
        have := World.cell?_spot c0
        simpa [Addr.add] using this
      refine .inr ⟨b, o, cap, by rw [hl2], World.block_lt_of_cell? W _ c0, fun j hj => ?_⟩
      rw [hl2] at hj
      have := hc j (by omega)
      rw [Addr.add_lit, getD_at zs j (by omega)] at this
      rw [List.getElem_take]
      exact this
end Go.Proofs.Ytdjmhagclcfnfab
/- The program's face, for a call that answers a list (records). -/
namespace Go.Proofs.Ytdjmhagclcfnfab
open Go.RowKit Go.Shelf

set_option maxRecDepth 100000 in
set_option maxHeartbeats 1000000 in
theorem face1_rs (gd : Nat) (ld : Array Value) (ed : ∀ args w, (callFunc gd args).run Try.prog w = .ok (.enter gd args) w) (Bd Ba : Nat) (PK : Int → Prop) (PO : Nat → World → Value → Prop) (w : World)
    (hsl : ∀ B W v, PO B W v → ∃ a ln cp, v = .slice a ln cp) (hset : ∀ B W v k o x, PO B W v → k < B → PO B (W.setCell ⟨k, o, none⟩ x) v)
    (hd : w.cell? ⟨Bd, 0, none⟩ = some (.func (.func gd) #[] ld)) (ha : w.heap[Ba]? = some (.cells #[.slice none 0 0] 25 (0, 0)))
    (hdo : Calls Try.prog gd ld w fun e w' => w.grownBy w' none ∧ ((∃ k, PK k ∧ e = .panicked (gave k)) ∨ (∃ v, e = .returned v ∧ PO w.heap.size w' v))) :
    Calls Try.prog 18 #[.pointer (some ⟨Bd, 0, none⟩), .pointer (some ⟨Ba, 0, none⟩)] w fun e w' =>
      (∃ k, e = .panicked (gave k) ∧ PK k ∧ w.grownBy w' none) ∨ (e = .returned (.tuple #[]) ∧ ∃ a ln cp, w'.heap[Ba]? = some (.cells #[.slice a ln cp] 25 (0, 0)) ∧ PO w.heap.size w' (.slice a ln cp) ∧ w.grownBy w' (some Ba)) := by
  have HD : Hid (∀ u : Unit, _) := fun _ => hdo
  have HA : Hid _ := ha
  have la : Ba < w.heap.size := (Array.getElem?_eq_some_iff.1 ha).1
  clear hdo ha
  go_enter Try.func18, Try.ntmps18
  go_wp2_with fail
  refine (HD.out ()).mono ?_
  rintro e W2 ⟨hg2, (⟨k, hk, rfl⟩ | ⟨v, rfl, hown⟩)⟩
  · exact ⟨rfl, .inl ⟨k, rfl, hk, hg2⟩⟩
  · have hb2 := (hg2.block Ba la (by simp)).trans HA.out
    obtain ⟨a, ln, cp, rfl⟩ := hsl _ _ _ hown
    have HO : Hid (PO w.heap.size W2 (.slice a ln cp)) := hown
    have HG : Hid (w.grownBy W2 none) := hg2
    have HB : Hid (W2.heap[Ba]? = some (.cells #[.slice none 0 0] 25 (0, 0))) := hb2
    have c0 := boxed_cell (i := 0) hb2 rfl
    have f0 := boxed_frozen (i := 0) hb2
    clear hb2 hown hg2
    go_wp2
    go_end0
    refine .inr ⟨rfl, a, ln, cp, ?_, ?_, ?_⟩
    · exact block_set (i := 0) HB.out (.slice a ln cp)
    · exact hset _ _ _ _ _ _ HO.out la
    · exact gtrans (gnone HG.out) (gset _ Ba 0 _)

set_option maxRecDepth 100000 in
set_option maxHeartbeats 1000000 in
/-- **atFace**, of a call that answers a list. -/
theorem atFace_rs (gd : Nat) (ld : Array Value) (ed : ∀ args w, (callFunc gd args).run Try.prog w = .ok (.enter gd args) w) (PK : Int → Prop) (PO : Nat → World → Value → Prop) (w : World)
    (hsl : ∀ B W v, PO B W v → ∃ a ln cp, v = .slice a ln cp) (hset : ∀ B W v k o x, PO B W v → k < B → PO B (W.setCell ⟨k, o, none⟩ x) v) (hbase : ∀ B B' W v, PO B W v → B' ≤ B → PO B' W v)
    (hdo : ∀ W, w.grownBy W none → Calls Try.prog gd ld W fun e w' => W.grownBy w' none ∧ ((∃ k, PK k ∧ e = .panicked (gave k)) ∨ (∃ v, e = .returned v ∧ PO W.heap.size w' v))) :
    Calls Try.prog 12 #[.func (.func gd) #[] ld] w fun e w' => w.grownBy w' none ∧
      ((∃ k, PK k ∧ e = .returned (.tuple #[.slice none 0 0, .int .i64 k])) ∨ (∃ v, e = .returned (.tuple #[v, .int .i64 0]) ∧ PO w.heap.size w' v)) := by
  have hmf : ∀ (fn : Fn) (first cap : Array Value) (w : World), (Instr.makeFunc fn first cap).run Try.prog w = .ok (.func fn first cap) w := fun _ _ _ _ => rfl
  have HD : Hid _ := hdo
  clear hdo
  go_enter Try.func12, Try.ntmps12
  go_wp2_with fail
  obtain ⟨W1, hW1⟩ : ∃ W1, W1 = (w.alloc (.cells #[.func (.func gd) #[] ld] 43)).alloc (.cells #[.slice none 0 0] 25) := ⟨_, rfl⟩
  rw [← hW1]
  have hs1 : W1.heap.size = w.heap.size + 2 := by rw [hW1]; simp
  have hg1 : w.grownBy W1 none := by rw [hW1]; exact gallocR (galloc _ _ _) _
  have hd1 : W1.heap[w.heap.size]? = some (.cells #[.func (.func gd) #[] ld] 43 (0, 0)) := by rw [hW1]; exact (Below.heap_alloc _ _ _ (by simp)).trans (World.alloc_heap_new _ _)
  have ha1 : W1.heap[w.heap.size + 1]? = some (.cells #[.slice none 0 0] 25 (0, 0)) := by
    rw [hW1]
    have h := World.alloc_heap_new (w.alloc (.cells #[.func (.func gd) #[] ld] 43)) (.cells #[.slice none 0 0] 25)
    rw [World.size_alloc] at h
    exact h
  clear hW1
  obtain ⟨O, hO⟩ : ∃ O : Obj, O = .cells #[.int .i64 0] 30 := ⟨_, rfl⟩
  have hg2 : w.grownBy (W1.alloc O) none := gallocR hg1 _
  have hf := face1_rs gd ld ed w.heap.size (w.heap.size + 1) PK PO (W1.alloc O) hsl hset (boxed_cell (i := 0) ((Below.heap_alloc _ _ _ (by omega)).trans hd1) rfl) ((Below.heap_alloc _ _ _ (by omega)).trans ha1) (HD.out _ hg2)
  have hn : (W1.alloc O).heap[W1.heap.size]? = some O := World.alloc_heap_new _ _
  have hsO : (W1.alloc O).heap.size = w.heap.size + 3 := by simp; omega
  have hca := caught_any 18 #[.pointer (some ⟨w.heap.size, 0, none⟩), .pointer (some ⟨w.heap.size + 1, 0, none⟩)] (enters_of Try.func18 (by kernel_rfl) rfl) W1
    (fun w' => ∃ a ln cp, w'.heap[w.heap.size + 1]? = some (.cells #[.slice a ln cp] 25 (0, 0)) ∧ PO (w.heap.size + 3) w' (.slice a ln cp) ∧ w.grownBy w' none ∧ W1.heap.size < w'.heap.size)
    (fun k w' => PK k ∧ w'.heap[w.heap.size + 1]? = some (.cells #[.slice none 0 0] 25 (0, 0)) ∧ w.grownBy w' none ∧ W1.heap.size < w'.heap.size) (by
      rw [← hO]
      refine hf.mono ?_
      rintro e w' (⟨k, rfl, hk, hg⟩ | ⟨rfl, a, ln, cp, hb, ho, hg⟩)
      · refine ⟨(hg.block _ (by omega) (by simp)).trans hn, .inr ⟨k, rfl, hk, (hg.block _ (by omega) (by simp)).trans ((Below.heap_alloc _ _ _ (by omega)).trans ha1), gtrans hg2 hg, by have := hg.size; omega⟩⟩
      · refine ⟨(hg.block _ (by omega) (by simp; omega)).trans hn, .inl ⟨rfl, a, ln, cp, hb, by rw [← hsO]; exact ho, gbut hg2 hg (by omega), by have := hg.size; omega⟩⟩)
  refine hca.mono ?_
  clear hf hca hn hg2
  rintro e w'' ⟨w', k, rfl, rfl, (⟨rfl, a, ln, cp, hb, ho, hg, hsz⟩ | ⟨hk, hb, hg, hsz⟩)⟩
  · have hb2 : (w'.setCell ⟨W1.heap.size, 0, none⟩ (.int .i64 0)).heap[w.heap.size + 1]? = _ := (Below.heap_setCell _ _ _ _ (by show w.heap.size + 1 ≠ W1.heap.size; omega)).trans hb
    have HO : Hid (PO (w.heap.size + 3) (w'.setCell ⟨W1.heap.size, 0, none⟩ (.int .i64 0)) (.slice a ln cp)) := hset _ _ _ _ _ _ ho (by omega)
    have HG : Hid (w.grownBy (w'.setCell ⟨W1.heap.size, 0, none⟩ (.int .i64 0)) none) := gfresh hg (by omega)
    generalize w'.setCell ⟨W1.heap.size, 0, none⟩ (.int .i64 0) = W3 at *
    have c0 := boxed_cell (i := 0) hb2 rfl
    have f0 := boxed_frozen (i := 0) hb2
    clear hb2 ho hg hb ha1 hd1
    go_wp2
    refine bodyPost_ret (v := .tuple #[.slice a ln cp, .int .i64 0]) (by simp [results, Try.results12, go_sem, c0]) rfl ?_
    exact ⟨gfresh HG.out (by omega), .inr ⟨_, rfl, hbase _ _ _ _ (hset _ _ _ _ _ _ HO.out (by omega)) (by omega)⟩⟩
  · have hb2 : (w'.setCell ⟨W1.heap.size, 0, none⟩ (.int .i64 k)).heap[w.heap.size + 1]? = _ := (Below.heap_setCell _ _ _ _ (by show w.heap.size + 1 ≠ W1.heap.size; omega)).trans hb
    have HP : Hid _ := hk
    have HG : Hid (w.grownBy (w'.setCell ⟨W1.heap.size, 0, none⟩ (.int .i64 k)) none) := gfresh hg (by omega)
    generalize w'.setCell ⟨W1.heap.size, 0, none⟩ (.int .i64 k) = W3 at *
    have c0 := boxed_cell (i := 0) hb2 rfl
    have f0 := boxed_frozen (i := 0) hb2
    clear hb2 hk hg hb ha1 hd1
    go_wp2
    refine bodyPost_ret (v := .tuple #[.slice none 0 0, .int .i64 k]) (by simp [results, Try.results12, go_sem, c0]) rfl ?_
    exact ⟨gfresh HG.out (by omega), .inl ⟨k, HP.out, rfl⟩⟩
end Go.Proofs.Ytdjmhagclcfnfab
/- The program's Some. -/
namespace Go.Proofs.Ytdjmhagclcfnfab
open Go.RowKit Go.Shelf

/-- How Some ends, the numbers being none below zero. -/
def ToldS (l : List UInt8) (fr mn : Nat) (w : World) (e : Ending) (w' : World) : Prop :=
  w.grownBy w' none ∧ ((∃ k, someR l fr mn = .inl k ∧ e = .returned (.tuple #[.slice none 0 0, .int .i64 k])) ∨ (∃ rs v, someR l fr mn = .inr rs ∧ e = .returned (.tuple #[v, .int .i64 0]) ∧ OwnsR w.heap.size w' v rs))

set_option maxRecDepth 100000 in
set_option maxHeartbeats 1000000 in
theorem some1_any (Ba Bb Bc : Nat) (l : List UInt8) (fr mn : Nat) (w : World) (hl : l.length ≤ 4611686018427387904) (hfr : fr ≤ 9223372036854775807) (hmn : mn ≤ 9223372036854775807) (ha : w.cell? ⟨Ba, 0, none⟩ = some (.string ⟨l.toArray⟩)) (hb : w.cell? ⟨Bb, 0, none⟩ = some (.int .i64 fr)) (hc : w.cell? ⟨Bc, 0, none⟩ = some (.int .i64 mn)) :
    Calls Try.prog 13 #[.pointer (some ⟨Ba, 0, none⟩), .pointer (some ⟨Bb, 0, none⟩), .pointer (some ⟨Bc, 0, none⟩)] w fun e w' => w.grownBy w' none ∧
      ((∃ k, someR l fr mn = .inl k ∧ e = .panicked (gave k)) ∨ (∃ rs v, someR l fr mn = .inr rs ∧ e = .returned v ∧ OwnsR w.heap.size w' v rs)) := by
  have HR : Hid (∀ u : Unit, _) := fun _ => readSome_any l fr mn w hl hfr hmn
  go_enter Try.func13, Try.ntmps13
  go_wp2_with fail
  refine (HR.out ()).mono ?_
  rintro e W2 ⟨hg2, (⟨k, hk, rfl⟩ | ⟨rs, v, hk, rfl, hown⟩)⟩
  · exact ⟨rfl, hg2, .inl ⟨k, hk, rfl⟩⟩
  · have G2 : Hid _ := hg2
    have HO : Hid _ := hown
    have HP : Hid _ := hk
    obtain ⟨a, ln, cp, rfl⟩ : ∃ a ln cp, v = .slice a ln cp := by
      rcases hown.2 with ⟨rfl, _⟩ | ⟨g, cap, cur, rfl, _⟩
      · exact ⟨_, _, _, rfl⟩
      · exact ⟨_, _, _, rfl⟩
    clear hg2 hown hk
    go_wp2
    go_ret
    exact ⟨G2.out, .inr ⟨rs, _, HP.out, rfl, HO.out⟩⟩

theorem atFaceS_any (Ba Bb Bc : Nat) (l : List UInt8) (fr mn : Nat) (w : World) (hl : l.length ≤ 4611686018427387904) (hfr : fr ≤ 9223372036854775807) (hmn : mn ≤ 9223372036854775807) (ha : w.cell? ⟨Ba, 0, none⟩ = some (.string ⟨l.toArray⟩)) (hb : w.cell? ⟨Bb, 0, none⟩ = some (.int .i64 fr)) (hc : w.cell? ⟨Bc, 0, none⟩ = some (.int .i64 mn)) (la : Ba < w.heap.size) (lb : Bb < w.heap.size) (lc : Bc < w.heap.size) :
    Calls Try.prog 12 #[.func (.func 13) #[] #[.pointer (some ⟨Ba, 0, none⟩), .pointer (some ⟨Bb, 0, none⟩), .pointer (some ⟨Bc, 0, none⟩)]] w (ToldS l fr mn w) := by
  refine (atFace_rs 13 #[.pointer (some ⟨Ba, 0, none⟩), .pointer (some ⟨Bb, 0, none⟩), .pointer (some ⟨Bc, 0, none⟩)] (enters_of Try.func13 (by kernel_rfl) rfl) (fun k => someR l fr mn = .inl k) (fun B W v => ∃ rs, someR l fr mn = .inr rs ∧ OwnsR B W v rs) w ?_ ?_ ?_ ?_).mono ?_
  · rintro B W v ⟨rs, _, hown⟩
    rcases hown.2 with ⟨rfl, _⟩ | ⟨g, cap, cur, rfl, _⟩
    · exact ⟨_, _, _, rfl⟩
    · exact ⟨_, _, _, rfl⟩
  · rintro B W v k o x ⟨rs, h1, h2⟩ hk
    exact ⟨rs, h1, h2.set hk⟩
  · rintro B B' W v ⟨rs, h1, h2⟩ hb
    exact ⟨rs, h1, h2.base hb⟩
  · intro W hg
    refine (some1_any Ba Bb Bc l fr mn W hl hfr hmn ((World.cell?_of_block (hg.block Ba la (by simp))).trans ha) ((World.cell?_of_block (hg.block Bb lb (by simp))).trans hb) ((World.cell?_of_block (hg.block Bc lc (by simp))).trans hc)).mono ?_
    rintro e w' ⟨h1, (h2 | ⟨rs, v, h2, h3, h4⟩)⟩
    · exact ⟨h1, .inl h2⟩
    · exact ⟨h1, .inr ⟨v, h3, rs, h2, h4⟩⟩
  · rintro e w' ⟨h1, (h2 | ⟨v, h3, rs, h2, h4⟩)⟩
    · exact ⟨h1, .inl h2⟩
    · exact ⟨h1, .inr ⟨rs, v, h2, h3, h4⟩⟩

set_option maxRecDepth 100000 in
set_option maxHeartbeats 1000000 in
/-- **Some**, of numbers that are none below zero. -/
theorem psome (l : List UInt8) (fr mn : Nat) (w : World) (hl : l.length ≤ 4611686018427387904) (hfr : fr ≤ 9223372036854775807) (hmn : mn ≤ 9223372036854775807) :
    Calls Try.prog 7 #[.string ⟨l.toArray⟩, .int .i64 fr, .int .i64 mn] w (ToldS l fr mn w) := by
  have hmf : ∀ (fn : Fn) (first cap : Array Value) (w : World), (Instr.makeFunc fn first cap).run Try.prog w = .ok (.func fn first cap) w := fun _ _ _ _ => rfl
  go_enter Try.func7, Try.ntmps7
  go_wp2_with fail
  obtain ⟨W1, hW1⟩ : ∃ W1, W1 = ((w.alloc (.cells #[.string ⟨l.toArray⟩] 9)).alloc (.cells #[.int .i64 fr] 3)).alloc (.cells #[.int .i64 mn] 3) := ⟨_, rfl⟩
  rw [← hW1]
  have hg1 : w.grownBy W1 none := by rw [hW1]; exact gallocR (gallocR (galloc _ _ _) _) _
  have hs1 : W1.heap.size = w.heap.size + 3 := by rw [hW1]; simp
  have ha1 : W1.heap[w.heap.size]? = some (.cells #[.string ⟨l.toArray⟩] 9 (0, 0)) := by rw [hW1]; exact (Below.heap_alloc _ _ _ (by simp; omega)).trans ((Below.heap_alloc _ _ _ (by simp)).trans (World.alloc_heap_new _ _))
  have hb1 : W1.heap[w.heap.size + 1]? = some (.cells #[.int .i64 fr] 3 (0, 0)) := by
    rw [hW1]
    have h := World.alloc_heap_new (w.alloc (.cells #[.string ⟨l.toArray⟩] 9)) (.cells #[.int .i64 fr] 3)
    rw [World.size_alloc] at h
    exact (Below.heap_alloc _ _ _ (by simp)).trans h
  have hc1 : W1.heap[w.heap.size + 1 + 1]? = some (.cells #[.int .i64 mn] 3 (0, 0)) := by
    rw [hW1]
    have h := World.alloc_heap_new ((w.alloc (.cells #[.string ⟨l.toArray⟩] 9)).alloc (.cells #[.int .i64 fr] 3)) (.cells #[.int .i64 mn] 3)
    rw [World.size_alloc, World.size_alloc] at h
    exact h
  clear hW1
  refine (atFaceS_any w.heap.size (w.heap.size + 1) (w.heap.size + 1 + 1) l fr mn W1 hl hfr hmn (boxed_cell ha1 rfl) (boxed_cell hb1 rfl) (boxed_cell hc1 rfl) (by omega) (by omega) (by omega)).mono ?_
  rintro e W2 ⟨hg2, hcase⟩
  have G2 : Hid (w.grownBy W2 none) := gtrans hg1 hg2
  clear hg1 hg2 ha1 hb1 hc1
  rcases hcase with ⟨k, hk, rfl⟩ | ⟨rs, v, hk, rfl, hown⟩
  · have HP : Hid _ := hk
    clear hk
    go_wp2
    refine bodyPost_ret (results_tmp2 rfl _ _ _) rfl ?_
    exact ⟨G2.out, .inl ⟨k, HP.out, rfl⟩⟩
  · obtain ⟨a, ln, cp, rfl⟩ : ∃ a ln cp, v = .slice a ln cp := by
      rcases hown.2 with ⟨rfl, _⟩ | ⟨g, cap, cur, rfl, _⟩
      · exact ⟨_, _, _, rfl⟩
      · exact ⟨_, _, _, rfl⟩
    have HO : Hid _ := hown
    have HP : Hid _ := hk
    clear hown hk
    go_wp2
    refine bodyPost_ret (results_tmp2 rfl _ _ _) rfl ?_
    exact ⟨G2.out, .inr ⟨rs, _, HP.out, rfl, OwnsR.base HO.out (by omega)⟩⟩
set_option maxRecDepth 100000 in
set_option maxHeartbeats 1000000 in
/-- .. of others. -/
theorem psome_bad (l : List UInt8) (fr mn : Int) (w : World) (h : fr < 0 ∨ mn < 0) :
    Calls Try.prog 7 #[.string ⟨l.toArray⟩, .int .i64 fr, .int .i64 mn] w fun e w' => w.grownBy w' none ∧ e = .returned (.tuple #[.slice none 0 0, .int .i64 1]) := by
  have hmf : ∀ (fn : Fn) (first cap : Array Value) (w : World), (Instr.makeFunc fn first cap).run Try.prog w = .ok (.func fn first cap) w := fun _ _ _ _ => rfl
  have e1 : (decide (fr < 0) || decide (mn < 0)) = true := by simpa using h
  go_enter Try.func7, Try.ntmps7
  go_wp2
  all_goals
    refine bodyPost_ret (results_tmp2 rfl _ _ _) rfl ?_
    exact ⟨gallocR (gallocR (galloc _ _ _) _) _, rfl⟩
end Go.Proofs.Ytdjmhagclcfnfab
/- The walk of Early. -/
namespace Go.Proofs.Ytdjmhagclcfnfab
open Go.RowKit Go.Shelf

theorem toldS_all {l : List UInt8} {fr mn : Nat} {w w' : World} {e : Ending} {rs : List Rc} (h : ToldS l fr mn w e w') (hs : someR l fr mn = .inr rs) :
    ∃ a c, e = .returned (.tuple #[.slice a rs.length c, .int .i64 0]) ∧ Recs w'.heap.size w' (.slice a rs.length c) rs ∧ w.grownBy w' none := by
  obtain ⟨hg, (⟨k, hk, rfl⟩ | ⟨rs', v, hk, rfl, ho⟩)⟩ := h
  · rw [hs] at hk
    cases hk
  · rw [hs] at hk
    cases hk
    obtain ⟨a, c, rfl⟩ := ho.recs.slice
    exact ⟨a, c, rfl, ho.recs, hg⟩

set_option maxRecDepth 100000 in
set_option maxHeartbeats 2000000 in
theorem early_walk (x y mny : Int) (v : Value) (xs : List Int) (bh : List UInt8) (w : World) (hx : I64 x) (hy : I64 y) (hmn : I64 mny) (hv : Ints w.heap.size w v xs) (hxs : ∀ c ∈ xs, I64 c) (hxl : xs.length ≤ 9223372036854775807) (hbl : bh.length ≤ 140737488355328) :
    Calls Try.prog 3 #[.int .i64 x, .int .i64 y, v, .int .i64 mny, .string ⟨bh.toArray⟩] w fun e w' => e = .returned (.bool true) ∧ w.grownBy w' none := by
  obtain ⟨a, cap, rfl⟩ := hv.slice
  have HV : Hid _ := hv
  have hn : pickN x 100 + 1 ≤ 100 := pickN_lt x 100 (by omega)
  have hz : pickN y 64 + 1 ≤ 64 := pickN_lt y 64 (by omega)
  have HM : Hid (∀ u : Unit, _) := fun _ => made_any 1 2 (pickN x 100 + 1) (pickN y 64 + 1) (.slice a xs.length cap) xs false w HV.out hxs hxl (by omega) (by omega)
  have HS : Hid (∀ W, _) := fun W => shape_any x y W hx hy
  have hwh : wellHead 1 2 ((pickN x 100 + 1 : Nat) : Int) ((pickN y 64 + 1 : Nat) : Int) = true := decide_eq_true ⟨by omega, by omega, by omega, by omega, by omega, by omega, by omega, by omega, by omega⟩
  generalize pickN x 100 + 1 = n at *
  generalize pickN y 64 + 1 = z at *
  clear hv hx hy hxs hxl
  go_enter Try.func3, Try.ntmps3
  go_wp2_with fail
  refine (HS.out _).mono ?_
  rintro e w1 ⟨rfl, rfl⟩
  go_wp2_with fail
  refine (HM.out ()).mono ?_
  rintro e w2 ⟨sv, rs, rfl, hok, -, hown, hg2⟩
  obtain ⟨al, cl, rfl⟩ := hown.recs.slice
  obtain ⟨W2, hW2⟩ : ∃ W2, W2 = w2.alloc (.cells #[.int .i64 1, .int .i64 2, .int .i64 n, .int .i64 z, .slice al rs.length cl] 27) := ⟨_, rfl⟩
  have hx2 : W2.heap[w2.heap.size]? = some (.cells #[.int .i64 1, .int .i64 2, .int .i64 n, .int .i64 z, .slice al rs.length cl] 27 (0, 0)) := by rw [hW2]; exact World.alloc_heap_new _ _
  have G2 : Hid (w1.grownBy W2 none) := by rw [hW2]; exact gallocR hg2 _
  have hR2 : Recs W2.heap.size W2 (.slice al rs.length cl) rs := by rw [hW2]; exact (OwnsR.alloc hown _).recs
  have SB : Hid (∀ W, W2.grownBy W none → W.heap[w2.heap.size]? = some (.cells #[.int .i64 1, .int .i64 2, .int .i64 n, .int .i64 z, .slice al rs.length cl] 27 (0, 0))) := fun W h => (box_kept hx2 h).1
  have RS : Hid (∀ W, W2.grownBy W none → Recs W.heap.size W (.slice al rs.length cl) rs) := fun W h => hR2.moved (below_of_grown h)
  have HT : Hid (∀ u : Unit, _) := fun _ => text_good 1 2 n z (.slice al rs.length cl) rs W2 hR2 hwh hok
  have hsm := serB_small 1 2 n z rs (by omega) (by omega) hok
  have hrl := recsOk_length n z rs hok (by omega)
  have HSA : Hid _ := some_all 1 2 n z rs hwh hok
  have HSF : Hid (∀ m, m < rs.length → _) := fun m hm => some_first 1 2 n z rs hwh hok m hm bh
  have HNX : Hid (∀ k (h : k < rs.length), _) := fun k h => recsB_next n z rs hok k h
  clear hg2 hok hown hx2 hR2 hwh
  generalize serB 1 2 n z rs = L at *
  go_wp2_with fail
  rw [← hW2]
  clear hW2
  refine (HT.out ()).mono ?_
  rintro e w3 ⟨rfl, hg3⟩
  have G3 : Hid (W2.grownBy w3 none) := hg3
  have hL0 : (L == []) = false := by
    cases L with
    | nil => simp at hsm
    | cons _ _ => rfl
  obtain ⟨-, -, -, -, c4, -⟩ := box5 (SB.out w3 hg3)
  have HP1 : Hid (∀ W, _) := fun W => psome L 0 rs.length W (by omega) (by omega) (by omega)
  clear hg3 HT HM HS HV
  go_wp2_with fail
  refine (HP1.out _).mono ?_
  intro e w4 h4
  obtain ⟨aa, ca, rfl, hRA, hg4⟩ := toldS_all h4 HSA.out
  have G4 : Hid (W2.grownBy w4 none) := gtrans G3.out hg4
  have RA : Hid (∀ W, w4.grownBy W none → Recs W.heap.size W (.slice aa rs.length ca) rs) := fun W h => hRA.moved (below_of_grown h)
  obtain ⟨-, -, -, -, d4, -⟩ := box5 (SB.out w4 G4.out)
  clear h4 hRA hg4 c4 HP1 HSA
  by_cases hr0 : rs.length = 0
  · go_wp2_with fail
    go_ret
    exact ⟨rfl, gtrans G2.out G4.out⟩
  go_wp2_with fail
  refine (pick_any mny rs.length _ hmn (by omega) (by omega)).mono ?_
  rintro e w5 ⟨rfl, rfl⟩
  have hml := pickN_lt mny rs.length (by omega)
  generalize pickN mny rs.length = m at *
  go_wp2_with fail
  have HR5 : Hid (Recs w5.heap.size w5 (.slice al rs.length cl) rs) := RS.out w5 G4.out
  have HSM : Hid _ := HSF.out m hml
  have hend : ∀ k, k ≤ m → 18 + (recsB (rs.take k)).length ≤ 10000 := by
    intro k hk
    have := (HSF.out k (by omega)).1
    omega
  clear HSF
  go_loopw [18, 19] (fun en i wr => ∃ k : Nat, k ≤ m ∧ i = .int .i64 k ∧ en = .int .i64 ((18 + (recsB (rs.take k)).length : Nat) : Int) ∧ wr = w5) (fun _ i _ => m - (intOf i).toNat)
  case atStart => exact ⟨0, Nat.zero_le _, rfl, rfl, rfl⟩
  case round =>
    obtain ⟨k, hk, rfl, rfl, rfl⟩ := hrel
    by_cases hlt : k < m
    · obtain ⟨b1, off, ha, hb, q0, q1, q2⟩ := Recs.at HR5.out (Nat.lt_trans hlt hml)
      subst ha
      have hnx := HNX.out k (by omega)
      have hen := hend (k + 1) (by omega)
      have hek := hend k (by omega)
      generalize rs[k] = r at *
      rw [hnx] at hen
      have HN : Hid _ := hnx
      clear hnx
      go_wp2
      go_roundw
      case rel => exact ⟨k + 1, by omega, by go_num, by rw [HN.out]; go_num, by trivial⟩
      case measure => simp [intOf]; omega
    · obtain rfl : k = m := by omega
      have hen := hend k (by omega)
      generalize 18 + (recsB (rs.take k)).length = E at *
      obtain ⟨hEL, hsf⟩ := HSM.out
      have HSE : Hid _ := hsf
      have HP2 : Hid (∀ W, _) := fun W => psome (L.take E ++ bh) 0 k W (by rw [List.length_append, List.length_take]; omega) (by omega) (by omega)
      have ex1 : (⟨L.toArray⟩ : ByteArray).extract 0 E = ⟨(L.take E).toArray⟩ := by
        apply ByteArray.ext
        rw [← Array.toList_inj, Lib.extract_data]
        simp
      have ex2 : (⟨(L.take E).toArray⟩ : ByteArray) ++ ⟨bh.toArray⟩ = ⟨(L.take E ++ bh).toArray⟩ := by
        apply ByteArray.ext
        simp
      clear hsf HSM hend HNX
      go_wp2_with fail
      refine (HP2.out _).mono ?_
      intro e w6 h6
      obtain ⟨af, cf, rfl, hRF, hg6⟩ := toldS_all h6 HSE.out
      have hkl : (rs.take k).length = k := by rw [List.length_take]; omega
      rw [hkl] at hRF ⊢
      have G6 : Hid (W2.grownBy w6 none) := gtrans G4.out hg6
      have R6 : Hid (Recs w6.heap.size w6 (.slice al rs.length cl) rs) := RS.out w6 G6.out
      have A6 : Hid (Recs w6.heap.size w6 (.slice aa rs.length ca) rs) := RA.out w6 hg6
      have F6 : Hid (Recs w6.heap.size w6 (.slice af k cf) (rs.take k)) := hRF
      clear d4
      obtain ⟨-, -, -, -, d4, -⟩ := box5 (SB.out w6 G6.out)
      clear h6 hRF hg6 HSE HP2
      go_wp2_with fail
      clear SB RS RA HR5 ex1 ex2 hL0 hr0
      go_loopw [22] (fun i wr => ∃ j : Nat, j ≤ k ∧ i = .int .i64 j ∧ ∃ d, wr = w6.drewN d) (fun i _ => k - (intOf i).toNat)
      case atStart => exact ⟨0, Nat.zero_le _, rfl, 0, rfl⟩
      case round =>
        obtain ⟨j, hj, rfl, d, rfl⟩ := hrel
        by_cases hjk : j < k
        · obtain ⟨b1, off1, ha1, hb1, q0, q1, q2⟩ := Recs.at R6.out (Nat.lt_trans hjk hml)
          obtain ⟨b2, off2, ha2, hb2, p0, p1, p2⟩ := Recs.at A6.out (Nat.lt_trans hjk hml)
          obtain ⟨b3, off3, ha3, hb3, o0, o1, o2⟩ := Recs.at F6.out (by rw [hkl]; exact hjk)
          rw [List.getElem_take] at o0 o1 o2
          subst ha1
          subst ha2
          subst ha3
          generalize rs[j] = r at *
          go_wp2
          go_quiet (fail)
          go_wp2
          go_roundw
          case rel => exact ⟨j + 1, by omega, by go_num, _, rfl⟩
          case measure => simp [intOf]; omega
        · go_wp2
          go_ret
          exact ⟨rfl, gdrewR (gtrans G2.out G6.out) d⟩
end Go.Proofs.Ytdjmhagclcfnfab
/- The statement on Early. -/
namespace Go.Proofs.Ytdjmhagclcfnfab
open Go.ChangeShapes Go.WideShapes Go.ChangeAt Go.RowKit
open Go.ChangeMaps (open_string shut_string)

set_option maxRecDepth 100000 in
theorem early_lifted (os : Os) (started : os.Started) (H : Type) (enc : TypeId × Value → H) :
    ReturnsInHanded {} Try.checked os 3 .any (Rows.earlySpec.pre6 enc Try.prog Try.f3 Rows.earlyRow.domain false) (Rows.earlySpec.post enc Try.prog Try.f3 false true false false) := by
  refine returnsInHanded_of_change_sized (C := Try.checked) Try.own started (by kernel_rfl) Try.func3
    (ChangeSpec.witness6 (enc := enc) (C := Try.checked) false ⟨#[], #[.int .i64 0, .int .i64 0, .slice none 0 0, .int .i64 0, .string ByteArray.empty], []⟩ 8 (by kernel_rfl) (by kernel_rfl) (by kernel_rfl) (by kernel_rfl)) ?_
  intro W base args ds gs before hval0 hW _ hsz0 _
  have hsz : (DataW.weightsEach Try.prog (Try.f3.params.toList ++ Rows.earlySpec.plain.varTypes Try.prog) (ds ++ gs)).all (· ≤ reachBytes) = true := hsz0
  clear hsz0
  have hval : ∀ (j : Nat) t v, Try.f3.params[j]? = some t → args[j]? = some v → Value.okWide Try.prog W .any base t v := hval0
  have hW' := hW
  obtain ⟨p, q, hA0, hV, rfl, _, _⟩ := hW
  have hA : DataW.TrodAll enc Try.prog W 0 (fun _ => true) true Try.f3.params.toList args.toList ds p := hA0
  rw [Try.params3] at hA hval hsz
  obtain ⟨v0, vs0, d0, ds0, p0, q0, hargs, rfl, rfl, h0, r0⟩ := trodAll_cons hA
  obtain ⟨v1, vs1, d1, ds1, p1, q1, rfl, rfl, rfl, h1, r1⟩ := trodAll_cons r0
  obtain ⟨v2, vs2, d2, ds2, p2, q2, rfl, rfl, rfl, h2, r2⟩ := trodAll_cons r1
  obtain ⟨v3, vs3, d3, ds3, p3, q3, rfl, rfl, rfl, h3, r3⟩ := trodAll_cons r2
  obtain ⟨v4, vs4, d4, ds4, p4, q4, rfl, rfl, rfl, h4, r4⟩ := trodAll_cons r3
  obtain ⟨rfl, rfl, rfl⟩ := trodAll_nil r4
  obtain rfl : args = #[v0, v1, v2, v3, v4] := by cases args; simp_all
  obtain ⟨rfl, rfl⟩ := trodVars_none hV
  obtain ⟨a0, rfl, rfl, rfl, w0⟩ := open_int Try.underlying3 (hval 0 3 v0 rfl rfl) h0
  obtain ⟨a1, rfl, rfl, rfl, w1⟩ := open_int Try.underlying3 (hval 1 3 v1 rfl rfl) h1
  obtain ⟨a3, rfl, rfl, rfl, w3⟩ := open_int Try.underlying3 (hval 3 3 v3 rfl rfl) h3
  obtain ⟨a4, rfl, rfl, rfl, w4⟩ := open_string Try.underlying9 (hval 4 9 v4 rfl rfl) h4
  obtain ⟨xs, hi, hx, hl⟩ := open_nums (hval 2 22 v2 rfl rfl) h2
  clear hA0 hval0
  simp only [List.append_nil] at hW'
  have hlt : ∀ x ∈ p2, x.block < W.heap.size := fun x hx => by simpa using hW'.lt x (by simp [hx])
  have hlen : a4.data.toList.length ≤ 140737488355328 := by
    have h5 := DataW.weights_mem_each (H := H) (P := Try.prog) (j := 4) (ts := [3, 3, 22, 3, 9] ++ Rows.earlySpec.plain.varTypes Try.prog) (ds := [.lit (.int .i64 a0), .lit (.int .i64 a1), d2, .lit (.int .i64 a3), .lit (.string a4.data.toList)] ++ []) rfl rfl a4.data.toList.length (by simp [DataW.weights])
    have h6 := of_decide_eq_true (List.all_eq_true.1 hsz _ h5)
    simp only [reachBytes] at h6
    omega
  have hwalk := early_walk a0 a1 a3 v2 xs a4.data.toList W (wf_i64 w0) (wf_i64 w1) (wf_i64 w3) hi hx hl hlen
  rw [show (⟨a4.data.toList.toArray⟩ : ByteArray) = a4 from rfl] at hwalk
  refine hwalk.mono fun e W' ⟨he, hg⟩ => ?_
  subst he
  have hb := below_of_grown hg
  refine ⟨_, rfl, _, _, _, [], [] ++ ([] ++ (p2 ++ ([] ++ ([] ++ [])))), [], hW', ?_, ?_, rfl, hb.frame _, fun h => by cases h⟩
  · exact trodAll_cons_mk (shut_bool Try.underlying4 _) trodAll_mk0
  · exact trodAll_cons_mk (shut_int Try.underlying3 w0) (trodAll_cons_mk (shut_int Try.underlying3 w1) (trodAll_cons_mk (Below.trod Try.laidOut (by kernel_rfl) (of_decide_eq_true (by kernel_rfl)) h2 hb hlt) (trodAll_cons_mk (shut_int Try.underlying3 w3) (trodAll_cons_mk (shut_string Try.underlying9 w4) trodAll_mk0))))

theorem early_holds : Rows.EarlySaid :=
  OpenClaim.holds_of_wide 3 Try.f3 rfl rfl rfl rfl rfl rfl rfl ⟨rfl, rfl, rfl, rfl, rfl⟩ rfl rfl rfl rfl rfl (by kernel_rfl) Try.func3 (by kernel_rfl)
    (of_decide_eq_true (by kernel_rfl)) (by unfold Func.isWrapper; first | (rw [if_pos (by decide +kernel)]; kernel_rfl) | (rw [if_neg (by decide +kernel)]; exact ⟨rfl, rfl⟩))
    (fun os started H enc _ => early_lifted os started H enc)
end Go.Proofs.Ytdjmhagclcfnfab
