/- strandkeep's made and text. -/
import Derived.Deep.AppendLies
import Derived.Test.YtdjmhagclcfnfaaKPick
import Derived.Test.YtdjmhagclcfnfaaLOwn
import Derived.Deep.RegionLaw
namespace Go.Proofs.Ytdjmhagclcfnfaa
open Go.RowKit Go.Shelf

/-- 'append(l, r)' at a step of a region that draws its order. -/
theorem step_rec {w : World} {ops : Array Oper} {o : Oper} {a : Act} {K : Act → World → Prop} {Q : Exit → Act → World → Prop} {E : Prop} (hgd : o.guard = none) (sl x : Operand)
    (ho : o.op = .call { callee := .builtin .append, args := #[sl, x], argTypes := #[22, 22] })
    (B : Nat) (v : Value) (rs : List Rc) (r : Rc) (nb : Nat) (hs : a.eval sl = v) (hown : OwnsR B w v rs) (hx : a.eval x = .slice (some ⟨nb, 0, none⟩) 1 1)
    (hc : ∀ j u, [Value.bool r.free, .int .i64 r.block, .string r.data][j]? = some u → w.cell? (Addr.add ⟨nb, 0, none⟩ j) = some u) (hl : rs.length ≤ 2000) (hB : B ≤ w.heap.size)
    (h : ∀ v' w', OwnsR B w' v' (rs ++ [r]) → w.grownBy w' v.ownBlock → K (a.put o.dst v') w') :
    if Region.wanted o (yielded ops a.tmps) = true then Oper.wp Try.prog o a w K Q else E := by
  obtain ⟨i0, hi, hz0, hz1, hz2⟩ := info_parts Try.infoRec
  have hml : rs.length + 1 ≤ maxLen := Nat.le_trans (show rs.length + 1 ≤ 2001 by omega) (by decide)
  refine step_append_lies w hgd sl x 22 ho B 34 i0 _ 3 32 Try.underlying22 hi hz0 hz1 hz2 rfl (by decide) v rs.length (recVals rs) hs hown ⟨nb, 0, none⟩ 1 1 _ hx rfl hc (by simp [Value.oneCell']) (by decide) hml (by omega) hB w.heap.size rfl ?_
  intro g cap w1 ho1 hg _ _
  exact h _ w1 (ownsR_snoc ho1) hg

theorem made_step {w wr w3 : World} {v0 v1 v2 v3 sv v' : Value} {rs rs' : List Rc} {cs : Array Value}
    (h0 : wr.heap[w.heap.size]? = some (.cells cs 24 (0, 0))) (h1 : wr.heap[w.heap.size + 1]? = some (.cells #[v0, v1, v2, v3, sv] 24 (0, 0))) (ho : OwnsR (w.heap.size + 2) wr sv rs) (hw : w.grownBy wr none)
    (hg : wr.grownBy w3 sv.ownBlock) (ho' : OwnsR (w.heap.size + 2) w3 v' rs') :
    (w3.setCell ⟨w.heap.size + 1, 4, none⟩ v').heap[w.heap.size]? = some (.cells cs 24 (0, 0)) ∧ (w3.setCell ⟨w.heap.size + 1, 4, none⟩ v').heap[w.heap.size + 1]? = some (.cells #[v0, v1, v2, v3, v'] 24 (0, 0)) ∧ OwnsR (w.heap.size + 2) (w3.setCell ⟨w.heap.size + 1, 4, none⟩ v') v' rs' ∧ w.grownBy (w3.setCell ⟨w.heap.size + 1, 4, none⟩ v') none := by
  have hge := ho.own_ge
  have hn : ∀ k, k < w.heap.size + 2 → some k ≠ sv.ownBlock := fun k hk e => by have := hge k e.symm; omega
  have l0 := (Array.getElem?_eq_some_iff.1 h0).1
  have l1 := (Array.getElem?_eq_some_iff.1 h1).1
  have b0 := (hg.block w.heap.size l0 (hn _ (by omega))).trans h0
  have b1 := (hg.block (w.heap.size + 1) l1 (hn _ (by omega))).trans h1
  refine ⟨?_, ?_, ho'.set (by omega), ?_⟩
  · exact (Below.heap_setCell _ _ _ _ (by show w.heap.size ≠ w.heap.size + 1; omega)).trans b0
  · exact block_set (i := 4) b1 v'
  · have g3 : w.grownBy w3 none := ⟨hg.os.trans hw.os, hg.tape.trans hw.tape, hg.output.trans hw.output, Nat.le_trans hw.size hg.size, fun j hj hne => (hg.block j (Nat.lt_of_lt_of_le hj hw.size) (hn _ (by omega))).trans (hw.block j hj hne)⟩
    exact gfresh g3 (by omega)

theorem made_kept {W w2 w3 : World} {B k : Nat} {sv : Value} {rs : List Rc} {o : Obj} (h : W.heap[k]? = some o) (hk : k < B) (ho : OwnsR B W sv rs) (h2 : W.grownBy w2 none) (hg : w2.grownBy w3 sv.ownBlock) : w3.heap[k]? = some o := by
  have hl := (Array.getElem?_eq_some_iff.1 h).1
  refine (hg.block k (Nat.lt_of_lt_of_le hl h2.size) (fun e => ?_)).trans ((h2.block k hl (by simp)).trans h)
  have := ho.own_ge k e.symm
  omega
theorem gwiden {A B C : World} {r : Option Nat} (h : A.grownBy B none) (k : B.grownBy C r) : A.grownBy C r :=
  ⟨k.os.trans h.os, k.tape.trans h.tape, k.output.trans h.output, Nat.le_trans h.size k.size, fun j hj hne => (k.block j (Nat.lt_of_lt_of_le hj h.size) hne).trans (h.block j hj (by simp))⟩

theorem quo4 (c : Int) (h1 : -9223372036854775808 ≤ c) (h2 : c ≤ 9223372036854775807) : -4611686018427387904 ≤ IntKind.i64.wrap (c.tdiv 4) ∧ IntKind.i64.wrap (c.tdiv 4) ≤ 4611686018427387904 := by
  rw [IntKind.wrap_i64]
  have : -2305843009213693952 ≤ c.tdiv 4 ∧ c.tdiv 4 ≤ 2305843009213693952 := by
    rcases Int.le_total 0 c with h | h
    · rw [Int.tdiv_eq_ediv_of_nonneg h]
      omega
    · have e : c.tdiv 4 = -((-c) / 4) := by
        conv => lhs; rw [show c = -(-c) by omega]
        rw [Int.neg_tdiv, Int.tdiv_eq_ediv_of_nonneg (by omega)]
      rw [e]
      omega
  omega
theorem keepM {wr W W' : World} {k : Nat} {v : Value} {r : Option Nat} (HM : ∀ W', wr.grownBy W' r → W'.cell? ⟨k, 4, none⟩ = some v ∧ W'.frozen? ⟨k, 4, none⟩ = false) (hS : W.cell? ⟨k, 4, none⟩ = some v ∧ W.frozen? ⟨k, 4, none⟩ = false ∧ wr.grownBy W r) (hg : W.grownBy W' r) :
    W'.cell? ⟨k, 4, none⟩ = some v ∧ W'.frozen? ⟨k, 4, none⟩ = false ∧ wr.grownBy W' r :=
  have h := gtrans hS.2.2 hg
  ⟨(HM W' h).1, (HM W' h).2, h⟩

set_option maxRecDepth 100000 in
set_option maxHeartbeats 4000000 in
theorem made_any (f t : Int) (n z : Nat) (v : Value) (xs : List Int) (wh : Bool) (w : World) (hv : Ints w.heap.size w v xs) (hxs : ∀ x ∈ xs, I64 x) (hxl : xs.length ≤ 9223372036854775807) (hn : n ≤ 100) (hz : z ≤ 64) :
    Calls Try.prog 41 #[.int .i64 f, .int .i64 t, .int .i64 n, .int .i64 z, v, .bool wh] w fun e w' => ∃ sv rs, e = .returned (.agg #[.int .i64 f, .int .i64 t, .int .i64 n, .int .i64 z, sv]) ∧ recsOk n z (-1) rs = true ∧ (wh = true → ∀ r ∈ rs, r.free = false) ∧ OwnsR w.heap.size w' sv rs ∧ w.grownBy w' none := by
  obtain ⟨a, cap, rfl⟩ := hv.slice
  have HV : Hid (∀ W, w.grownBy W none → Ints w.heap.size W (.slice a xs.length cap) xs) := fun W hW => hv.below ⟨hW.os, hW.tape, hW.output, hW.size, fun k hk => hW.block k hk (by simp)⟩
  have HX : Hid (∀ k, I64 (xs.getD k 0)) := by
    intro k
    rw [List.getD_eq_getElem?_getD]
    by_cases hk : k < xs.length
    · rw [List.getElem?_eq_getElem hk, Option.getD_some]
      exact hxs _ (List.getElem_mem hk)
    · rw [List.getElem?_eq_none (by omega), Option.getD_none]
      exact ⟨by omega, by omega⟩
  clear hv hxs
  go_enter Try.func41, Try.ntmps41
  go_wp2
  go_loopw [14] (fun b wr => ∃ (k : Nat) (sv : Value) (rs : List Rc), k ≤ n ∧ b = .int .i64 k ∧ wr.heap[w.heap.size]? = some (.cells #[.int .i64 0, .int .i64 0, .int .i64 0, .int .i64 0, .slice none 0 0] 24 (0, 0)) ∧ wr.heap[w.heap.size + 1]? = some (.cells #[.int .i64 f, .int .i64 t, .int .i64 n, .int .i64 z, sv] 24 (0, 0)) ∧ OwnsR (w.heap.size + 2) wr sv rs ∧ recsOk n z (-1) rs = true ∧ lastOf (-1) rs < k ∧ (wh = true → ∀ r ∈ rs, r.free = false) ∧ w.grownBy wr none) (fun b _ => n - (intOf b).toNat)
  case atStart =>
    obtain ⟨h1, h2, hB⟩ := two_boxes w #[.int .i64 0, .int .i64 0, .int .i64 0, .int .i64 0, .slice none 0 0] #[.int .i64 f, .int .i64 t, .int .i64 n, .int .i64 z, .slice none 0 0] 24
    exact ⟨0, _, [], Nat.zero_le _, rfl, h1, h2, World.ownsRow_nil _ _ _ _, rfl, by simp [lastOf], (fun _ r hr => by cases hr), gbelow hB⟩
  case round =>
    obtain ⟨k, sv, rs, hk, rfl, h0, h1, ho, hok, hla, hfr, hg⟩ := hrel
    obtain ⟨sa, sl, sc, rfl⟩ := ho.slice
    by_cases hlt : k < n
    · have HI := HX.out k
      have HN : Hid (∀ u : Unit, _) := fun _ => nth_any w.heap.size _ xs k wr (HV.out _ hg) (by omega) hxl
      generalize xs.getD k 0 = c at *
      have HP : Hid (∀ u : Unit, _) := fun _ => pick_at c 4 4 wr HI rfl (by omega) (by omega)
      have hp := pickN_lt c 4 (by omega)
      generalize pickN c 4 = p at *
      have hrl := recsOk_length n z rs hok (by omega)
      obtain ⟨c0, c1, c2, c3, c4, f0, f1, f2, f3, f4⟩ := box5 h1
      have H0 : Hid _ := h0
      have H1 : Hid _ := h1
      have HO : Hid _ := ho
      have HG : Hid _ := hg
      have HK : Hid (∀ fr d, (d.size : Int) = (if fr then 0 else (z : Int)) → (wh = true → fr = false) → recsOk n z (-1) (rs ++ [⟨fr, (k : Int), d⟩]) = true ∧ lastOf (-1) (rs ++ [⟨fr, (k : Int), d⟩]) < ((k + 1 : Nat) : Int) ∧ (wh = true → ∀ r ∈ rs ++ [⟨fr, (k : Int), d⟩], r.free = false)) := by
        intro fr d hd hf
        refine ⟨?_, ?_, ?_⟩
        · rw [recsOk_append, hok, Bool.true_and, recsOk, Bool.and_eq_true]
          exact ⟨decide_eq_true ⟨hla, by simp only; omega, hd⟩, rfl⟩
        · rw [lastOf_snoc]
          simp only
          omega
        · intro hw r hr
          rcases List.mem_append.1 hr with h | h
          · exact hfr hw r h
          · rw [List.mem_singleton.1 h]
            exact hf hw
      clear h0 h1 ho hg
      go_wp2_with fail
      go_at_call 76
      refine (HN.out ()).mono ?_
      rintro _ w1 ⟨rfl, rfl⟩
      go_wp2_with fail
      go_at_call 40
      refine (HP.out ()).mono ?_
      rintro _ wr ⟨rfl, rfl⟩
      clear HP HN
      have hz2 : w.heap.size + 1 < wr.heap.size := (Array.getElem?_eq_some_iff.1 H1.out).1
      obtain rfl | rfl | h23 : p = 0 ∨ p = 1 ∨ (p = 2 ∨ p = 3) := by omega
      · go_wp2
        exact ⟨⟨k + 1, _, rs, by omega, by go_num, H0.out, H1.out, HO.out, hok, by omega, hfr, HG.out⟩, by simp [intOf]; omega⟩
      · cases wh
        · go_wp2_with (at_builtin; refine wpList_append_rec _ rfl _ _ rfl (w.heap.size + 2) _ rs rfl (OwnsR.alloc HO.out _) ⟨_, 0, none⟩ ⟨true, k, ⟨#[]⟩⟩ rfl (cells_new2 _ _ _ _ (by simp)) (by omega) (by simp; omega) ?_; intro v' w3 hO3 hg3 _ _; obtain ⟨a3, l3, c3', rfl⟩ := hO3.slice; have G3 : Hid _ := hg3; have O3 : Hid _ := hO3; obtain ⟨-, -, -, -, d4, -, -, -, -, z4⟩ := box5 (made_kept H1.out (by omega) HO.out (World.grownBy_alloc _ _ none) hg3); clear hg3 hO3)
          obtain ⟨p0, p1, p2, p3⟩ := made_step H0.out H1.out HO.out HG.out (gwiden (World.grownBy_alloc _ _ none) G3.out) O3.out
          obtain ⟨q0, q1, q2⟩ := HK.out true ⟨#[]⟩ rfl (fun h => by cases h)
          exact ⟨⟨k + 1, _, _, by omega, by go_num, p0, p1, p2, q0, q1, q2, p3⟩, by simp [intOf]; omega⟩
        · go_wp2
          exact ⟨⟨k + 1, _, rs, by omega, by go_num, H0.out, H1.out, HO.out, hok, by omega, hfr, HG.out⟩, by simp [intOf]; omega⟩
      · have HD : Hid (∀ c', -4611686018427387904 ≤ c' ∧ c' ≤ 4611686018427387904 → ∀ W, _) := fun c' hc' W => data_any c' z W hc' hz
        have HM : Hid (∀ W', wr.drew.grownBy W' (Value.slice sa sl sc).ownBlock → W'.cell? ⟨w.heap.size + 1, 4, none⟩ = some (.slice sa sl sc) ∧ W'.frozen? ⟨w.heap.size + 1, 4, none⟩ = false) := by
          intro W' hW'
          have hb := made_kept H1.out (by omega) HO.out (w2 := wr.drew) ⟨rfl, rfl, rfl, Nat.le_refl _, fun _ _ _ => rfl⟩ hW'
          obtain ⟨-, -, -, -, d4, -, -, -, -, z4⟩ := box5 hb
          exact ⟨d4, z4⟩
        have HB2 : Hid (∀ W' o, wr.drew.grownBy W' none → w.heap.size + 2 ≤ (World.alloc W' o).heap.size) := fun W' o hW' => by
          have h1 : wr.heap.size ≤ W'.heap.size := hW'.size
          simp
          omega
        have HO2 : Hid (∀ W' o, wr.drew.grownBy W' none → OwnsR (w.heap.size + 2) (World.alloc W' o) (.slice sa sl sc) rs) := fun W' o hW' => OwnsR.alloc (OwnsR.kept (W := wr.drew) HO.out hW') o
        have HC2 : Hid (∀ (W : World) (d : ByteArray) j u, [Value.bool false, .int .i64 k, .string d][j]? = some u → (W.alloc (.cells #[.bool false, .int .i64 k, .string d] 34)).cell? (Addr.add ⟨W.heap.size, 0, none⟩ j) = some u) := fun W d => cells_new2 W [.bool false, .int .i64 k, .string d] 34 _ rfl
        have hr2 : rs.length ≤ 2000 := by omega
        have HW : Hid (wr.grownBy wr.drew none) := ⟨rfl, rfl, rfl, Nat.le_refl _, fun _ _ _ => rfl⟩
        obtain ⟨hi1, hi2⟩ := HI
        have HQ : -4611686018427387904 ≤ IntKind.i64.wrap (c.tdiv 4) ∧ IntKind.i64.wrap (c.tdiv 4) ≤ 4611686018427387904 := quo4 c hi1 hi2
        rcases h23 with rfl | rfl
        all_goals
          go_wp2_with fail
          go_region_law (first | (refine step_rec ?_ (.tmp 46) (.tmp 53) ?_ (w.heap.size + 2) (.slice sa sl sc) rs ⟨false, k, ⟨bs.toArray⟩⟩ w2.heap.size ?_ ?_ ?_ ?_ ?_ ?_ ?_; rfl; rfl; rfl; exact HO2.out _ _ G2.out; rfl; exact HC2.out _ _; exact hr2; exact HB2.out _ _ G2.out; intro v' w3 hO3 hg3; obtain ⟨a3, l3, c3', rfl⟩ := hO3.slice; have O3 : Hid _ := hO3; have G3 : Hid _ := hg3; obtain ⟨e4, y4⟩ := HM.out _ (gwiden (gtrans G2.out (World.grownBy_alloc _ _ none)) hg3); clear hO3 hg3) | (go_simp; go_at_call 77; refine (HD.out _ HQ _).mono ?_; rintro e w2 ⟨bs, hbs, rfl, hg2⟩; have G2 : Hid _ := hg2; obtain ⟨d4, z4⟩ := HM.out _ (gnone hg2); have hl2 : w.heap.size + 1 < w2.heap.size := Nat.lt_of_lt_of_le hz2 hg2.size; clear hg2; dsimp only))
          all_goals
            go_wp2
            obtain ⟨p0, p1, p2, p3⟩ := made_step H0.out H1.out HO.out HG.out (gwiden HW.out (gwiden (gtrans G2.out (World.grownBy_alloc _ _ none)) G3.out)) O3.out
            obtain ⟨q0, q1, q2⟩ := HK.out false ⟨bs.toArray⟩ (by simp [ByteArray.size, hbs]) (fun _ => rfl)
            exact ⟨⟨k + 1, _, _, by omega, by go_num, p0, p1, p2, q0, q1, q2, p3⟩, by simp [intOf]; omega⟩
    · obtain rfl : k = n := by omega
      obtain ⟨c0, c1, c2, c3, c4, f0, f1, f2, f3, f4⟩ := box5 h1
      obtain ⟨d0, d1, d2, d3, d4, g0, g1, g2, g3, g4⟩ := box5 h0
      have hz1 : w.heap.size < wr.heap.size := (Array.getElem?_eq_some_iff.1 h0).1
      have HO : Hid _ := ho
      have HG : Hid _ := hg
      clear h0 h1 ho hg
      go_wp2
      refine bodyPost_ret (v := .agg #[.int .i64 f, .int .i64 t, .int .i64 k,   .int .i64 z, .slice sa sl sc]) (by simp [results, Try.results41, go_sem, d0, d1, d2, d3, d4]) rfl ?_
      exact ⟨_, rs, rfl, hok, hfr, OwnsR.base (OwnsR.set (OwnsR.set (OwnsR.set (OwnsR.set (OwnsR.set HO.out (by omega)) (by omega)) (by omega)) (by omega)) (by omega)) (by omega), gfresh (gfresh (gfresh (gfresh (gfresh HG.out (by omega)) (by omega)) (by omega)) (by omega)) (by omega)⟩
end Go.Proofs.Ytdjmhagclcfnfaa
