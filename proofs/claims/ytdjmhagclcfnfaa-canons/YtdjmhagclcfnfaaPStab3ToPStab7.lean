/- PStab3, PStab4, PStab5, PStab6, PStab7 -/
import Derived.Test.YtdjmhagclcfnfaaPUnsortToStabN
import Derived.Deep.CutRange
import Derived.Shelf.SlSortCmp.WholeK
import Derived.Shelf.SlicesG.Cmp
import Derived.Shelf.Small.Bits
/- The library's stable sort, at records: one merged into those behind it. -/
namespace Go.Proofs.Ytdjmhagclcfnfaa
open Go.Shelf Go.RowKit Go.Lib Go.Sort

theorem getT {xs : List Tg} {i : Nat} {x : Tg} (h : xs[i]? = some x) : xs.toArray[i]! = x := getB h

set_option maxHeartbeats 4000000 in
set_option maxRecDepth 1000000 in
/-- One merged into those behind it. -/
theorem symOne_any {P : Program} {k : Nat} (L : StabL P k) (g cap cf a m b : Nat) (p ys r : List Tg) (x : Tg) (d0 : Array Tg) (w0 W : World) (R : RowK tgE k w0 g 0 d0)
    (eg : ∀ args w, (callFunc cf args).run P w = .ok (.enter cf args) w) (hC : CmpLays P cf #[] tgE k tgC g 0 d0.size w0)
    (hs : d0.size = p.length + 1 + ys.length + r.length) (ha : a = p.length) (hm : m = p.length + 1) (hb : b = p.length + 1 + ys.length) (hy : ys.Pairwise (tlt Rc.block)) (htag : ∀ y ∈ ys, x.2 < y.2)
    (S : SWK tgE k w0 g 0 (p ++ [x] ++ ys ++ r).toArray W) (hsz : d0.size ≤ 400) :
    Calls P 172 #[.slice (some ⟨g, 0, none⟩) d0.size cap, .int .i64 a, .int .i64 m, .int .i64 b, .func (.func cf) #[] #[]] W fun e w' => e = .returned (.tuple #[]) ∧
      ∃ zs : List Tg, zs.Perm (x :: ys) ∧ zs.Pairwise (tlt Rc.block) ∧ SWK tgE k w0 g 0 (p ++ zs ++ r).toArray w' := by
  have S0 : Aside (SWK tgE k w0 g 0 (p ++ [x] ++ ys ++ r).toArray W) := S
  have HC : Aside _ := hC
  have HL : Hid ((p ++ [x] ++ ys ++ r).toArray.size = d0.size) := by show _ = _; simp; omega
  have HX : Hid ((p ++ [x] ++ ys ++ r).toArray[p.length]! = x) := getT (mid_left p [x] ys r 0 p.length rfl (by simp))
  have HY : Hid (∀ c (_ : p.length + 1 ≤ c) (h : c - p.length - 1 < ys.length), (p ++ [x] ++ ys ++ r).toArray[c]! = ys[c - p.length - 1]) := fun c hc h => getT (mid_right p [x] ys r (c - p.length - 1) c (by simp; omega) h)
  have HT : Hid (∀ j (h : j < ys.length), x.2 < (ys[j]).2) := fun j h => htag _ (List.getElem_mem h)
  have HS : Hid _ := hy
  generalize hD : (p ++ [x] ++ ys ++ r).toArray = D at *
  have HD : Hid _ := hD
  have mixed := L.mixed; have t3 := L.t3; have a3 := L.a3; have z3 := L.z3; have v3 := L.v3; have t4 := L.t4; have a4 := L.a4; have z4 := L.z4; have v4 := L.v4; have tU := L.tU; have aU := L.aU; have zU := L.zU; have vU := L.vU; have tS := L.tS; have aS := L.aS; have zS := L.zS; have vS := L.vS; have aE := L.aE; have zE := L.zE
  clear S hC hy htag hD
  obtain ⟨hs1, hs2⟩ : d0.size ≤ p.length + 1 + ys.length + r.length ∧ p.length + 1 + ys.length + r.length ≤ d0.size := ⟨by omega, by omega⟩
  clear hs
  have HPL : Hid (p.length = a) := ha.symm
  rw [← ha] at hs1 hs2 HX HY hm hb
  obtain ⟨hm1, hm2⟩ : m ≤ a + 1 ∧ a + 1 ≤ m := ⟨by omega, by omega⟩
  obtain ⟨hb1, hb2⟩ : b ≤ a + 1 + ys.length ∧ a + 1 + ys.length ≤ b := ⟨by omega, by omega⟩
  clear ha hm hb
  have hone : ((m : Int) - (a : Int) == 1) = true := by rw [beq_iff_eq]; omega
  go_enter L.fSym, Try.ntmps172
  go_wp2
  go_loopg [10, 11] ys.length (fun kx s10 s11 wr => ∃ (i j : Nat), s10 = .int .i64 i ∧ s11 = .int .i64 j ∧ a + 1 ≤ i ∧ i ≤ j ∧ j ≤ b ∧ j - i ≤ kx ∧ Hid ((i = a + 1 ∨ ∃ h : i - a - 2 < ys.length, tlt Rc.block ys[i - a - 2] x) ∧ (j = b ∨ ∃ h : j - a - 1 < ys.length, tlt Rc.block x ys[j - a - 1])) ∧ Aside (SWK tgE k w0 g 0 D wr))
  case atStart => exact ⟨m, b, rfl, rfl, by omega, by omega, Nat.le_refl _, by omega, ⟨.inl (by omega), .inl rfl⟩, S0⟩
  case round =>
    clear S0
    obtain ⟨i, j, rfl, rfl, hi, hij, hj, hkx, HI, S1⟩ := hrel
    by_cases hlt : i < j
    · have hltz : (i : Int) < (j : Int) := by omega
      obtain ⟨c, hc⟩ : ∃ c, (i + j) / 2 = c := ⟨_, rfl⟩
      have hcz : ((i : Int) + (j : Int)) / 2 = (c : Int) := by omega
      have hq : c - a - 1 < ys.length := by omega
      have hcl : a + 1 ≤ c := by omega
      have hbi : c < j := by omega
      have hbj : i ≤ c := by omega
      have ea : (c : Int).toNat = c := by omega
      have pa : (0 : Int) ≤ (c : Int) := by omega
      have ba : (c : Int) < (d0.size : Int) := by omega
      have ra : IntKind.i64.wrap (c : Int) = (c : Int) := by rw [IntKind.wrap_i64]; omega
      have ec : ((a : Int)).toNat = a := by omega
      have pc : (0 : Int) ≤ (a : Int) := by omega
      have bc : (a : Int) < (d0.size : Int) := by omega
      have rc : IntKind.i64.wrap (a : Int) = (a : Int) := by rw [IntKind.wrap_i64]; omega
      have HYQ : Hid _ := HY.out c hcl hq
      have HTQ : Hid _ := HT.out _ hq
      have la := S1.out.ld R HL.out P c (by rw [HL.out]; omega)
      have lb := S1.out.ld R HL.out P a (by rw [HL.out]; omega)
      rw [HYQ.out] at la
      rw [HX.out] at lb
      have hcm := S1.out.cmp HC.out HL.out ys[c - a - 1] x
      have HEQ : Hid ((ltOf tgC ys[c - a - 1] x = true → tlt Rc.block ys[c - a - 1] x) ∧ (ltOf tgC ys[c - a - 1] x = false → tlt Rc.block x ys[c - a - 1])) := by
        show _ ∧ _
        rw [tg_lt]
        exact ⟨fun h => tlt_of_lt (of_decide_eq_true h), fun h => tlt_of_ge HTQ.out (of_decide_eq_false h)⟩
      clear hc
      obtain ⟨y, hyy⟩ : ∃ y, y = ys[c - a - 1] := ⟨_, rfl⟩
      rw [← hyy] at la hcm HEQ
      have HYY : Hid _ := hyy
      clear hyy
      simp only [Nat.zero_add] at la lb
      cases hlv : ltOf tgC y x with
      | true =>
        have hv : tgC y x < 0 := of_decide_eq_true hlv
        have hd : decide (tgC y x < 0) = true := decide_eq_true hv
        go_wp2_with fail
        go_quiet_grown (first | (go_at_fn cf; refine Calls.grown_of (hcm _ _)))
        have S2 : Aside (SWK tgE k w0 g 0 D (grow (wr.drewN nq) osq)) := S1.out.grown nq osq
        clear la lb hcm S1
        generalize grow (wr.drewN nq) osq = w2 at S2 ⊢
        clear nq osq
        go_wp2
        go_roundg (j - (c + 1))
        case measure => omega
        case rel => exact ⟨c + 1, j, by go_num, rfl, by omega, by omega, hj, Nat.le_refl _, ⟨.inr ⟨by omega, by simp only [show c + 1 - a - 2 = c - a - 1 from by omega]; rw [← HYY.out]; exact HEQ.out.1 hlv⟩, HI.out.2⟩, S2⟩
      | false =>
        have hv : ¬ tgC y x < 0 := of_decide_eq_false hlv
        have hd : decide (tgC y x < 0) = false := decide_eq_false hv
        go_wp2_with fail
        go_quiet_grown (first | (go_at_fn cf; refine Calls.grown_of (hcm _ _)))
        have S2 : Aside (SWK tgE k w0 g 0 D (grow (wr.drewN nq) osq)) := S1.out.grown nq osq
        clear la lb hcm S1
        generalize grow (wr.drewN nq) osq = w2 at S2 ⊢
        clear nq osq
        go_wp2
        go_roundg (c - i)
        case measure => omega
        case rel => exact ⟨i, c, rfl, rfl, hi, by omega, by omega, Nat.le_refl _, ⟨HI.out.1, .inr ⟨hq, by rw [← HYY.out]; exact HEQ.out.2 hlv⟩⟩, S2⟩
    · obtain ⟨hq, hq2⟩ : i - a - 1 ≤ ys.length ∧ i ≤ j ∧ j ≤ i := ⟨by omega, by omega, by omega⟩
      obtain rfl : i = j := by omega
      have hltz : ¬ (i : Int) < (i : Int) := by omega
      have HZ : Hid ((ys.take (i - a - 1) ++ x :: ys.drop (i - a - 1)).Pairwise (tlt Rc.block)) := ins_sorted (tlt_trans Rc.block) hq HS.out (by
        rcases HI.out.1 with h | ⟨h, h'⟩
        · exact .inl (by omega)
        · simp only [show i - a - 2 = i - a - 1 - 1 from by omega] at h h'
          exact .inr ⟨h, h'⟩) (by
        rcases HI.out.2 with h | ⟨h, h'⟩
        · exact .inl (by omega)
        · exact .inr ⟨h, h'⟩)
      clear HI
      have HW : Hid (∀ c, a ≤ c → c < i - 1 → Sort.swp (p ++ (ys.take (c - a) ++ x :: ys.drop (c - a)) ++ r).toArray c (c + 1) = (p ++ (ys.take (c + 1 - a) ++ x :: ys.drop (c + 1 - a)) ++ r).toArray) := fun c hc ht => by
        have h := swp_step p r ys x (c - a) (by omega)
        rw [HPL.out, show a + (c - a) = c from by omega, show c - a + 1 = c + 1 - a from by omega] at h
        rw [swp_array _ _ _ (by simp [HPL.out]; omega) (by simp [HPL.out]; omega), h]
      have HLT : Hid (∀ c, a ≤ c → c ≤ i - 1 → (p ++ (ys.take (c - a) ++ x :: ys.drop (c - a)) ++ r).toArray.size = d0.size) := fun c hc ht => by simp [HPL.out]; omega
      have S2 : Aside (SWK tgE k w0 g 0 (p ++ (ys.take (a - a) ++ x :: ys.drop (a - a)) ++ r).toArray wr) := by
        have h := S1.out
        rw [← HD.out] at h
        have e : p ++ [x] ++ ys ++ r = p ++ (ys.take (a - a) ++ x :: ys.drop (a - a)) ++ r := by simp
        rw [e] at h
        exact h
      clear S1
      go_wp2
      go_loopg [13] (i - 1 - a) (fun kx s13 wr => ∃ (c : Nat), s13 = .int .i64 c ∧ a ≤ c ∧ c ≤ i - 1 ∧ i - 1 - c ≤ kx ∧ Aside (SWK tgE k w0 g 0 (p ++ (ys.take (c - a) ++ x :: ys.drop (c - a)) ++ r).toArray wr))
      case atStart => exact ⟨a, rfl, Nat.le_refl _, by omega, by omega, S2⟩
      case round =>
        clear S2
        obtain ⟨c, rfl, hc1, hc2, hkx, S3⟩ := hrel
        by_cases hlt2 : c < i - 1
        · have hltz2 : (c : Int) < (i : Int) - 1 := by omega
          have hl3 := HLT.out c hc1 hc2
          have ea : (c : Int).toNat = c := by omega
          have pa : (0 : Int) ≤ (c : Int) := by omega
          have ba : (c : Int) < (d0.size : Int) := by omega
          have ra : IntKind.i64.wrap (c : Int) = (c : Int) := by rw [IntKind.wrap_i64]; omega
          have ec : ((c : Int) + 1).toNat = c + 1 := by omega
          have pc : (0 : Int) ≤ (c : Int) + 1 := by omega
          have bc : (c : Int) + 1 < (d0.size : Int) := by omega
          have rc : IntKind.i64.wrap ((c : Int) + 1) = (c : Int) + 1 := by rw [IntKind.wrap_i64]; omega
          have S4 : Aside (SWK tgE k w0 g 0 (Sort.swp (p ++ (ys.take (c - a) ++ x :: ys.drop (c - a)) ++ r).toArray c (c + 1)) _) := S3.out.swapped R c (c + 1) (by rw [hl3]; omega) (by rw [hl3]; omega)
          rw [HW.out c hc1 hlt2] at S4
          generalize (p ++ (ys.take (c - a) ++ x :: ys.drop (c - a)) ++ r).toArray = E at *
          have la := S3.out.ld1 R hl3 P c (by omega)
          have lb := S3.out.ld1 R hl3 P (c + 1) (by omega)
          have sa := S3.out.st1 R hl3 P c (by omega) E[c + 1]!
          have sb := S3.out.st2 R hl3 P c (c + 1) (by omega) (by omega) E[c + 1]! E[c]!
          have na : (tgE E[c]!).length = k := R.hk _
          have nb : (tgE E[c + 1]!).length = k := R.hk _
          generalize tgE E[c]! = cI at S4 la sb na
          generalize tgE E[c + 1]! = cJ at S4 lb sa sb nb
          clear S3 hl3
          rw [Nat.zero_add] at la lb sa
          rw [Nat.zero_add, Nat.zero_add] at sb
          rw [Nat.zero_add, Nat.zero_add] at S4
          go_wp2_with fail
          go_big_region_o
          clear la lb sa sb
          generalize (wr.drew.setCells g (c * k) cJ).setCells g ((c + 1) * k) cI = w2 at S4 ⊢
          go_wp2
          go_roundg (i - 1 - (c + 1))
          case measure => omega
          case rel => exact ⟨c + 1, by go_num, by omega, by omega, Nat.le_refl _, S4⟩
        · have hltz2 : ¬ (c : Int) < (i : Int) - 1 := by omega
          obtain rfl : c = i - 1 := by omega
          go_wp2
          (try simp only [Exit.inBlock, Exit.then]); refine bodyPost_ret (results_none rfl _ _ _) rfl ?_
          refine ⟨rfl, _, ins_perm ys x (i - a - 1), HZ.out, ?_⟩
          have h := S3.out
          rw [show i - 1 - a = i - a - 1 from by omega] at h
          rw [List.append_assoc p] at h
          exact h
end Go.Proofs.Ytdjmhagclcfnfaa
/- The library's stable sort, at records: one merged into those ahead of it. -/
namespace Go.Proofs.Ytdjmhagclcfnfaa
open Go.Shelf Go.RowKit Go.Lib Go.Sort

set_option maxHeartbeats 4000000 in
set_option maxRecDepth 1000000 in
/-- One merged into those ahead of it. -/
theorem symLast_any {P : Program} {k : Nat} (L : StabL P k) (g cap cf a m b : Nat) (p xs r : List Tg) (y : Tg) (d0 : Array Tg) (w0 W : World) (R : RowK tgE k w0 g 0 d0)
    (eg : ∀ args w, (callFunc cf args).run P w = .ok (.enter cf args) w) (hC : CmpLays P cf #[] tgE k tgC g 0 d0.size w0)
    (hs : d0.size = p.length + xs.length + 1 + r.length) (ha : a = p.length) (hm : m = p.length + xs.length) (hb : b = p.length + xs.length + 1) (h2 : 2 ≤ xs.length) (hx : xs.Pairwise (tlt Rc.block)) (htag : ∀ x ∈ xs, x.2 < y.2)
    (S : SWK tgE k w0 g 0 (p ++ xs ++ [y] ++ r).toArray W) (hsz : d0.size ≤ 400) :
    Calls P 172 #[.slice (some ⟨g, 0, none⟩) d0.size cap, .int .i64 a, .int .i64 m, .int .i64 b, .func (.func cf) #[] #[]] W fun e w' => e = .returned (.tuple #[]) ∧
      ∃ zs : List Tg, zs.Perm (y :: xs) ∧ zs.Pairwise (tlt Rc.block) ∧ SWK tgE k w0 g 0 (p ++ zs ++ r).toArray w' := by
  have S0 : Aside (SWK tgE k w0 g 0 (p ++ xs ++ [y] ++ r).toArray W) := S
  have HC : Aside _ := hC
  have HL : Hid ((p ++ xs ++ [y] ++ r).toArray.size = d0.size) := by show _ = _; simp; omega
  have HY : Hid ((p ++ xs ++ [y] ++ r).toArray[m]! = y) := getT (mid_right p xs [y] r 0 m (by omega) (by simp))
  have HX : Hid (∀ c (_ : p.length ≤ c) (h : c - p.length < xs.length), (p ++ xs ++ [y] ++ r).toArray[c]! = xs[c - p.length]) := fun c hc h => getT (mid_left p xs [y] r (c - p.length) c (by omega) h)
  have HT : Hid (∀ j (h : j < xs.length), (xs[j]).2 < y.2) := fun j h => htag _ (List.getElem_mem h)
  have HS : Hid _ := hx
  generalize hD : (p ++ xs ++ [y] ++ r).toArray = D at *
  have HD : Hid _ := hD
  have mixed := L.mixed; have t3 := L.t3; have a3 := L.a3; have z3 := L.z3; have v3 := L.v3; have t4 := L.t4; have a4 := L.a4; have z4 := L.z4; have v4 := L.v4; have tU := L.tU; have aU := L.aU; have zU := L.zU; have vU := L.vU; have tS := L.tS; have aS := L.aS; have zS := L.zS; have vS := L.vS; have aE := L.aE; have zE := L.zE
  clear S hC hx htag hD
  obtain ⟨hs1, hs2⟩ : d0.size ≤ p.length + xs.length + 1 + r.length ∧ p.length + xs.length + 1 + r.length ≤ d0.size := ⟨by omega, by omega⟩
  clear hs
  have HPL : Hid (p.length = a) := ha.symm
  rw [← ha] at hs1 hs2 HX hm hb
  obtain ⟨hm1, hm2⟩ : m ≤ a + xs.length ∧ a + xs.length ≤ m := ⟨by omega, by omega⟩
  obtain ⟨hb1, hb2⟩ : b ≤ m + 1 ∧ m + 1 ≤ b := ⟨by omega, by omega⟩
  clear ha hm hb
  have hone : ((m : Int) - (a : Int) == 1) = false := by rw [beq_eq_false_iff_ne]; omega
  have hone2 : ((b : Int) - (m : Int) == 1) = true := by rw [beq_iff_eq]; omega
  go_enter L.fSym, Try.ntmps172
  go_wp2
  go_loopg [14, 15] xs.length (fun kx s14 s15 wr => ∃ (i j : Nat), s14 = .int .i64 i ∧ s15 = .int .i64 j ∧ a ≤ i ∧ i ≤ j ∧ j ≤ m ∧ j - i ≤ kx ∧ Hid ((i = a ∨ ∃ h : i - a - 1 < xs.length, tlt Rc.block xs[i - a - 1] y) ∧ (j = m ∨ ∃ h : j - a < xs.length, tlt Rc.block y xs[j - a])) ∧ Aside (SWK tgE k w0 g 0 D wr))
  case atStart => exact ⟨a, m, rfl, rfl, by omega, by omega, Nat.le_refl _, by omega, ⟨.inl rfl, .inl rfl⟩, S0⟩
  case round =>
    clear S0
    obtain ⟨i, j, rfl, rfl, hi, hij, hj, hkx, HI, S1⟩ := hrel
    by_cases hlt : i < j
    · have hltz : (i : Int) < (j : Int) := by omega
      obtain ⟨c, hc⟩ : ∃ c, (i + j) / 2 = c := ⟨_, rfl⟩
      have hcz : ((i : Int) + (j : Int)) / 2 = (c : Int) := by omega
      have hq : c - a < xs.length := by omega
      have hcl : a ≤ c := by omega
      have hbi : c < j := by omega
      have hbj : i ≤ c := by omega
      have ea : (c : Int).toNat = c := by omega
      have pa : (0 : Int) ≤ (c : Int) := by omega
      have ba : (c : Int) < (d0.size : Int) := by omega
      have ra : IntKind.i64.wrap (c : Int) = (c : Int) := by rw [IntKind.wrap_i64]; omega
      have ec : ((m : Int)).toNat = m := by omega
      have pc : (0 : Int) ≤ (m : Int) := by omega
      have bc : (m : Int) < (d0.size : Int) := by omega
      have rc : IntKind.i64.wrap (m : Int) = (m : Int) := by rw [IntKind.wrap_i64]; omega
      have HXQ : Hid _ := HX.out c hcl hq
      have HTQ : Hid _ := HT.out _ hq
      have la := S1.out.ld R HL.out P c (by rw [HL.out]; omega)
      have lb := S1.out.ld R HL.out P m (by rw [HL.out]; omega)
      rw [HXQ.out] at la
      rw [HY.out] at lb
      have hcm := S1.out.cmp HC.out HL.out y xs[c - a]
      have HEQ : Hid ((ltOf tgC y xs[c - a] = true → tlt Rc.block y xs[c - a]) ∧ (ltOf tgC y xs[c - a] = false → tlt Rc.block xs[c - a] y)) := by
        show _ ∧ _
        rw [tg_lt]
        exact ⟨fun h => tlt_of_lt (of_decide_eq_true h), fun h => tlt_of_ge HTQ.out (of_decide_eq_false h)⟩
      clear hc
      obtain ⟨x, hxx⟩ : ∃ x, x = xs[c - a] := ⟨_, rfl⟩
      rw [← hxx] at la hcm HEQ
      have HXX : Hid _ := hxx
      clear hxx
      simp only [Nat.zero_add] at la lb
      cases hlv : ltOf tgC y x with
      | false =>
        have hv : ¬ tgC y x < 0 := of_decide_eq_false hlv
        have hd : decide (tgC y x < 0) = false := decide_eq_false hv
        go_wp2_with fail
        go_quiet_grown (first | (go_at_fn cf; refine Calls.grown_of (hcm _ _)))
        have S2 : Aside (SWK tgE k w0 g 0 D (grow (wr.drewN nq) osq)) := S1.out.grown nq osq
        clear la lb hcm S1
        generalize grow (wr.drewN nq) osq = w2 at S2 ⊢
        clear nq osq
        go_wp2
        go_roundg (j - (c + 1))
        case measure => omega
        case rel => exact ⟨c + 1, j, by go_num, rfl, by omega, by omega, hj, Nat.le_refl _, ⟨.inr ⟨by omega, by simp only [show c + 1 - a - 1 = c - a from by omega]; rw [← HXX.out]; exact HEQ.out.2 hlv⟩, HI.out.2⟩, S2⟩
      | true =>
        have hv : tgC y x < 0 := of_decide_eq_true hlv
        have hd : decide (tgC y x < 0) = true := decide_eq_true hv
        go_wp2_with fail
        go_quiet_grown (first | (go_at_fn cf; refine Calls.grown_of (hcm _ _)))
        have S2 : Aside (SWK tgE k w0 g 0 D (grow (wr.drewN nq) osq)) := S1.out.grown nq osq
        clear la lb hcm S1
        generalize grow (wr.drewN nq) osq = w2 at S2 ⊢
        clear nq osq
        go_wp2
        go_roundg (c - i)
        case measure => omega
        case rel => exact ⟨i, c, rfl, rfl, hi, by omega, by omega, Nat.le_refl _, ⟨HI.out.1, .inr ⟨hq, by rw [← HXX.out]; exact HEQ.out.1 hlv⟩⟩, S2⟩
    · have hq : i - a ≤ xs.length := by omega
      obtain rfl : i = j := by omega
      have hltz : ¬ (i : Int) < (i : Int) := by omega
      have HZ : Hid ((xs.take (i - a) ++ y :: xs.drop (i - a)).Pairwise (tlt Rc.block)) := ins_sorted (tlt_trans Rc.block) hq HS.out (by
        rcases HI.out.1 with h | ⟨h, h'⟩
        · exact .inl (by omega)
        · exact .inr ⟨h, h'⟩) (by
        rcases HI.out.2 with h | ⟨h, h'⟩
        · exact .inl (by omega)
        · exact .inr ⟨h, h'⟩)
      clear HI
      have HW : Hid (∀ c, i < c → c ≤ m → Sort.swp (p ++ (xs.take (c - a) ++ y :: xs.drop (c - a)) ++ r).toArray c (c - 1) = (p ++ (xs.take (c - 1 - a) ++ y :: xs.drop (c - 1 - a)) ++ r).toArray) := fun c hc ht => by
        have h := swp_down p r xs y (c - 1 - a) (by omega)
        rw [HPL.out, show c - 1 - a + 1 = c - a from by omega, show a + (c - 1 - a) = c - 1 from by omega, show c - 1 + 1 = c from by omega] at h
        rw [swp_array _ _ _ (by simp [HPL.out]; omega) (by simp [HPL.out]; omega), h]
      have HLT : Hid (∀ c, i ≤ c → c ≤ m → (p ++ (xs.take (c - a) ++ y :: xs.drop (c - a)) ++ r).toArray.size = d0.size) := fun c hc ht => by simp [HPL.out]; omega
      have S2 : Aside (SWK tgE k w0 g 0 (p ++ (xs.take (m - a) ++ y :: xs.drop (m - a)) ++ r).toArray wr) := by
        have h := S1.out
        rw [← HD.out] at h
        have e : p ++ xs ++ [y] ++ r = p ++ (xs.take (m - a) ++ y :: xs.drop (m - a)) ++ r := by
          rw [List.take_of_length_le (by omega), List.drop_of_length_le (by omega)]
          simp
        rw [e] at h
        exact h
      clear S1
      go_wp2
      go_loopg [17] (m - i) (fun kx s17 wr => ∃ (c : Nat), s17 = .int .i64 c ∧ i ≤ c ∧ c ≤ m ∧ c - i ≤ kx ∧ Aside (SWK tgE k w0 g 0 (p ++ (xs.take (c - a) ++ y :: xs.drop (c - a)) ++ r).toArray wr))
      case atStart => exact ⟨m, rfl, by omega, Nat.le_refl _, by omega, S2⟩
      case round =>
        clear S2
        obtain ⟨c, rfl, hc1, hc2, hkx, S3⟩ := hrel
        by_cases hlt2 : i < c
        · have hltz2 : (i : Int) < (c : Int) := by omega
          have hl3 := HLT.out c hc1 hc2
          have ea : (c : Int).toNat = c := by omega
          have pa : (0 : Int) ≤ (c : Int) := by omega
          have ba : (c : Int) < (d0.size : Int) := by omega
          have ra : IntKind.i64.wrap (c : Int) = (c : Int) := by rw [IntKind.wrap_i64]; omega
          have ec : ((c : Int) - 1).toNat = c - 1 := by omega
          have pc : (0 : Int) ≤ (c : Int) - 1 := by omega
          have bc : (c : Int) - 1 < (d0.size : Int) := by omega
          have rc : IntKind.i64.wrap ((c : Int) - 1) = (c : Int) - 1 := by rw [IntKind.wrap_i64]; omega
          have S4 : Aside (SWK tgE k w0 g 0 (Sort.swp (p ++ (xs.take (c - a) ++ y :: xs.drop (c - a)) ++ r).toArray c (c - 1)) _) := S3.out.swapped R c (c - 1) (by rw [hl3]; omega) (by rw [hl3]; omega)
          rw [HW.out c hlt2 hc2] at S4
          generalize (p ++ (xs.take (c - a) ++ y :: xs.drop (c - a)) ++ r).toArray = E at *
          have la := S3.out.ld1 R hl3 P c (by omega)
          have lb := S3.out.ld1 R hl3 P (c - 1) (by omega)
          have sa := S3.out.st1 R hl3 P c (by omega) E[c - 1]!
          have sb := S3.out.st2 R hl3 P c (c - 1) (by omega) (by omega) E[c - 1]! E[c]!
          have na : (tgE E[c]!).length = k := R.hk _
          have nb : (tgE E[c - 1]!).length = k := R.hk _
          generalize tgE E[c]! = cI at S4 la sb na
          generalize tgE E[c - 1]! = cJ at S4 lb sa sb nb
          clear S3 hl3
          rw [Nat.zero_add] at la lb sa
          rw [Nat.zero_add, Nat.zero_add] at sb
          rw [Nat.zero_add, Nat.zero_add] at S4
          go_wp2_with fail
          go_big_region_o
          clear la lb sa sb
          generalize (wr.drew.setCells g (c * k) cJ).setCells g ((c - 1) * k) cI = w2 at S4 ⊢
          go_wp2
          go_roundg (c - 1 - i)
          case measure => omega
          case rel => exact ⟨c - 1, by go_num, by omega, by omega, Nat.le_refl _, S4⟩
        · have hltz2 : ¬ (i : Int) < (c : Int) := by omega
          obtain rfl : i = c := by omega
          go_wp2
          (try simp only [Exit.inBlock, Exit.then]); refine bodyPost_ret (results_none rfl _ _ _) rfl ?_
          refine ⟨rfl, _, ins_perm xs y (i - a), HZ.out, ?_⟩
          have h := S3.out
          rw [List.append_assoc p] at h
          exact h
end Go.Proofs.Ytdjmhagclcfnfaa
/- The library's stable sort, at records: two in order merged. -/
namespace Go.Proofs.Ytdjmhagclcfnfaa
open Go.Shelf Go.RowKit Go.Lib Go.Sort

/-- What a merge says. -/
def SymSaid (P : Program) (k g cap cf : Nat) (d0 : Array Tg) (w0 : World) (xs ys : List Tg) : Prop :=
  ∀ (a m b : Nat) (p r : List Tg) (W : World), d0.size = p.length + xs.length + ys.length + r.length → a = p.length → m = p.length + xs.length → b = p.length + xs.length + ys.length →
    xs.Pairwise (tlt Rc.block) → ys.Pairwise (tlt Rc.block) → (∀ x ∈ xs, ∀ y ∈ ys, x.2 < y.2) → SWK tgE k w0 g 0 (p ++ xs ++ ys ++ r).toArray W →
    Calls P 172 #[.slice (some ⟨g, 0, none⟩) d0.size cap, .int .i64 a, .int .i64 m, .int .i64 b, .func (.func cf) #[] #[]] W fun e w' => e = .returned (.tuple #[]) ∧
      ∃ zs : List Tg, zs.Perm (xs ++ ys) ∧ zs.Pairwise (tlt Rc.block) ∧ SWK tgE k w0 g 0 (p ++ zs ++ r).toArray w'

theorem parts_eq {α : Type} (p xs ys r : List α) (s t : Nat) : p ++ xs ++ ys ++ r = (p ++ xs.take s) ++ xs.drop s ++ ys.take t ++ (ys.drop t ++ r) := by
  conv => lhs; rw [← List.take_append_drop s xs, ← List.take_append_drop t ys]
  simp only [List.append_assoc]

set_option maxHeartbeats 8000000 in
set_option maxRecDepth 1000000 in
theorem symMid_any {P : Program} {k : Nat} (L : StabL P k) (g cap cf : Nat) (d0 : Array Tg) (w0 : World) (R : RowK tgE k w0 g 0 d0)
    (eg : ∀ args w, (callFunc cf args).run P w = .ok (.enter cf args) w) (hC : CmpLays P cf #[] tgE k tgC g 0 d0.size w0) (hsz : d0.size ≤ 400) (xs ys : List Tg) (h2x : 2 ≤ xs.length) (h2y : 2 ≤ ys.length)
    (IH : ∀ us vs : List Tg, us.length + vs.length < xs.length + ys.length → 1 ≤ us.length → 1 ≤ vs.length → SymSaid P k g cap cf d0 w0 us vs) : SymSaid P k g cap cf d0 w0 xs ys := by
  intro a m b p r W hs ha hm hb hx hy htag S
  have S0 : Aside (SWK tgE k w0 g 0 (p ++ xs ++ ys ++ r).toArray W) := S
  have HC : Aside _ := hC
  have HIH : Aside _ := IH
  have HL : Hid ((p ++ xs ++ ys ++ r).toArray.size = d0.size) := by show _ = _; simp; omega
  have HX : Hid (∀ c (_ : p.length ≤ c) (h : c - p.length < xs.length), (p ++ xs ++ ys ++ r).toArray[c]! = xs[c - p.length]) := fun c hc h => getT (mid_left p xs ys r (c - p.length) c (by omega) h)
  have HY : Hid (∀ c (_ : p.length + xs.length ≤ c) (h : c - (p.length + xs.length) < ys.length), (p ++ xs ++ ys ++ r).toArray[c]! = ys[c - (p.length + xs.length)]) := fun c hc h => getT (mid_right p xs ys r (c - (p.length + xs.length)) c (by omega) h)
  have HT : Hid (∀ i (h : i < xs.length) j (h' : j < ys.length), (xs[i]).2 < (ys[j]).2) := fun i h j h' => htag _ (List.getElem_mem h) _ (List.getElem_mem h')
  have HTA : Hid _ := htag
  have HSX : Hid _ := hx
  have HSY : Hid _ := hy
  generalize hD : (p ++ xs ++ ys ++ r).toArray = D at *
  have HD : Hid _ := hD
  have mixed := L.mixed; have t3 := L.t3; have a3 := L.a3; have z3 := L.z3; have v3 := L.v3; have t4 := L.t4; have a4 := L.a4; have z4 := L.z4; have v4 := L.v4; have tU := L.tU; have aU := L.aU; have zU := L.zU; have vU := L.vU; have tS := L.tS; have aS := L.aS; have zS := L.zS; have vS := L.vS; have aE := L.aE; have zE := L.zE
  clear S hC hx hy htag hD IH
  obtain ⟨hs1, hs2⟩ : d0.size ≤ p.length + xs.length + ys.length + r.length ∧ p.length + xs.length + ys.length + r.length ≤ d0.size := ⟨by omega, by omega⟩
  clear hs
  have HPL : Hid (p.length = a) := ha.symm
  have HPM : Hid (p.length + xs.length = m) := hm.symm
  rw [← ha] at hs1 hs2 HX hm hb
  rw [HPM.out] at HY
  obtain ⟨hm1, hm2⟩ : m ≤ a + xs.length ∧ a + xs.length ≤ m := ⟨by omega, by omega⟩
  obtain ⟨hb1, hb2⟩ : b ≤ m + ys.length ∧ m + ys.length ≤ b := ⟨by omega, by omega⟩
  clear ha hm hb
  have hone : ((m : Int) - (a : Int) == 1) = false := by rw [beq_eq_false_iff_ne]; omega
  have hone2 : ((b : Int) - (m : Int) == 1) = false := by rw [beq_eq_false_iff_ne]; omega
  obtain ⟨mid, hmid⟩ : ∃ mid, (a + b) / 2 = mid := ⟨_, rfl⟩
  have hmz : ((a : Int) + (b : Int)) / 2 = (mid : Int) := by omega
  obtain ⟨hmid1, hmid2⟩ : 2 * mid ≤ a + b ∧ a + b ≤ 2 * mid + 1 := ⟨by omega, by omega⟩
  clear hmid
  obtain ⟨s0, r0, hs0, hr0⟩ : ∃ s0 r0 : Nat, ((mid < m ∧ s0 + b = mid + m) ∨ (m ≤ mid ∧ s0 = a)) ∧ ((mid < m ∧ r0 = mid) ∨ (m ≤ mid ∧ r0 = m)) := by
    by_cases h : mid < m
    · exact ⟨mid + m - b, mid, .inl ⟨h, by omega⟩, .inl ⟨h, rfl⟩⟩
    · exact ⟨a, m, .inr ⟨by omega, rfl⟩, .inr ⟨by omega, rfl⟩⟩
  have eR : ∀ args w, (callFunc 176 args).run P w = .ok (.enter 176 args) w := enters_of L.fRot (by kernel_rfl) rfl
  have eS : ∀ args w, (callFunc 172 args).run P w = .ok (.enter 172 args) w := enters_of L.fSym (by kernel_rfl) rfl
  go_enter L.fSym, Try.ntmps172
  go_upto_if 140 with fail
  go_cut [20, 21] from 138 to 148 (fun s20 s21 wx => s20 = .int .i64 s0 ∧ s21 = .int .i64 r0 ∧ wx = W)
  case first =>
    by_cases hcs : mid < m
    · have hcz : (mid : Int) < (m : Int) := by omega
      have hsz0 : (mid : Int) + (m : Int) - (b : Int) = (s0 : Int) := by omega
      go_wp2
      go_meet
      exact ⟨rfl, by congr 1; omega, rfl⟩
    · have hcz : ¬ (mid : Int) < (m : Int) := by omega
      go_wp2
      go_meet
      exact ⟨by congr 1; omega, by congr 1; omega, rfl⟩
  case rest =>
  obtain ⟨rfl, rfl, rfl⟩ := hcut
  go_wp2
  go_loopg [20, 21] (r0 - s0) (fun kx s20 s21 wr => ∃ (i j : Nat), s20 = .int .i64 i ∧ s21 = .int .i64 j ∧ s0 ≤ i ∧ i ≤ j ∧ j ≤ r0 ∧ j - i ≤ kx ∧ Hid ((i = s0 ∨ ∃ (h : i - 1 - a < xs.length) (h' : mid - i < ys.length), tlt Rc.block xs[i - 1 - a] ys[mid - i]) ∧ (j = r0 ∨ ∃ (h : j - a < xs.length) (h' : mid - 1 - j < ys.length), tlt Rc.block ys[mid - 1 - j] xs[j - a])) ∧ Aside (SWK tgE k w0 g 0 D wr))
  case atStart => (refine ⟨s0, r0, ?_, ?_, Nat.le_refl _, by omega, Nat.le_refl _, Nat.le_refl _, ⟨.inl rfl, .inl rfl⟩, S0⟩ <;> first | rfl | (congr 1; omega))
  case round => (
    clear S0
    obtain ⟨i, j, rfl, rfl, hi, hij, hj, hkx, HI, S1⟩ := hrel
    by_cases hlt : i < j
    · have hltz : (i : Int) < (j : Int) := (by omega)
      obtain ⟨c, hc⟩ : ∃ c, (i + j) / 2 = c := ⟨_, rfl⟩
      have hcz2 : ((i : Int) + (j : Int)) / 2 = (c : Int) := (by omega)
      have hbi : c < j := (by omega)
      have hbj : i ≤ c := (by omega)
      obtain ⟨e, he⟩ : ∃ e, e + c + 1 = mid + m := ⟨mid + m - 1 - c, by omega⟩
      have hez : (mid : Int) + (m : Int) - 1 - (c : Int) = (e : Int) := (by omega)
      have hqx : c - a < xs.length := (by omega)
      have hqy : mid - 1 - c < ys.length := (by omega)
      have hca : a ≤ c := (by omega)
      have hem : m ≤ e := (by omega)
      have hqe : e - m = mid - 1 - c := (by omega)
      have hqe2 : e - m < ys.length := (by omega)
      have ea : (c : Int).toNat = c := (by omega)
      have pa : (0 : Int) ≤ (c : Int) := (by omega)
      have ba : (c : Int) < (d0.size : Int) := (by omega)
      have ra : IntKind.i64.wrap (c : Int) = (c : Int) := (by rw [IntKind.wrap_i64]; omega)
      have ec : (e : Int).toNat = e := (by omega)
      have pc : (0 : Int) ≤ (e : Int) := (by omega)
      have bc : (e : Int) < (d0.size : Int) := (by omega)
      have rc : IntKind.i64.wrap (e : Int) = (e : Int) := (by rw [IntKind.wrap_i64]; omega)
      have HXQ : Hid _ := HX.out c hca hqx
      have HYQ : Hid _ := HY.out e hem hqe2
      have HTQ : Hid _ := HT.out _ hqx _ hqe2
      have la := S1.out.ld R HL.out P c (by rw [HL.out]; omega)
      have lb := S1.out.ld R HL.out P e (by rw [HL.out]; omega)
      rw [HXQ.out] at la
      rw [HYQ.out] at lb
      have hcm := S1.out.cmp HC.out HL.out ys[e - m] xs[c - a]
      have HEQ : Hid ((ltOf tgC ys[e - m] xs[c - a] = true → tlt Rc.block ys[e - m] xs[c - a]) ∧ (ltOf tgC ys[e - m] xs[c - a] = false → tlt Rc.block xs[c - a] ys[e - m])) := (by
        show _ ∧ _
        rw [tg_lt]
        exact ⟨fun h => tlt_of_lt (of_decide_eq_true h), fun h => tlt_of_ge HTQ.out (of_decide_eq_false h)⟩)
      clear hc
      obtain ⟨x, hxx⟩ : ∃ x, x = xs[c - a] := ⟨_, rfl⟩
      obtain ⟨y, hyy⟩ : ∃ y, y = ys[e - m] := ⟨_, rfl⟩
      rw [← hxx] at la
      rw [← hyy] at lb
      rw [← hxx, ← hyy] at hcm HEQ
      have HXX : Hid _ := hxx
      have HYY : Hid (y = ys[mid - 1 - c]) := (by show _ = _; rw [hyy]; simp only [hqe])
      clear hxx hyy hqe
      simp only [Nat.zero_add] at la lb
      cases hlv : ltOf tgC y x with
      | false =>
        have hv : ¬ tgC y x < 0 := of_decide_eq_false hlv
        have hd : decide (tgC y x < 0) = false := decide_eq_false hv
        go_wp2_with fail
        go_quiet_grown (first | (go_at_fn cf; refine Calls.grown_of (hcm _ _)))
        have S2 : Aside (SWK tgE k w0 g 0 D (grow (wr.drewN nq) osq)) := S1.out.grown nq osq
        clear la lb hcm S1
        generalize grow (wr.drewN nq) osq = w2 at S2 ⊢
        clear nq osq
        go_wp2
        go_roundg (j - (c + 1))
        case measure => omega
        case rel => exact ⟨c + 1, j, by go_num, rfl, by omega, by omega, hj, Nat.le_refl _, ⟨.inr ⟨by omega, by omega, by simp only [show c + 1 - 1 - a = c - a from by omega, show mid - (c + 1) = mid - 1 - c from by omega]; rw [← HXX.out, ← HYY.out]; exact HEQ.out.2 hlv⟩, HI.out.2⟩, S2⟩
      | true =>
        have hv : tgC y x < 0 := of_decide_eq_true hlv
        have hd : decide (tgC y x < 0) = true := decide_eq_true hv
        go_wp2_with fail
        go_quiet_grown (first | (go_at_fn cf; refine Calls.grown_of (hcm _ _)))
        have S2 : Aside (SWK tgE k w0 g 0 D (grow (wr.drewN nq) osq)) := S1.out.grown nq osq
        clear la lb hcm S1
        generalize grow (wr.drewN nq) osq = w2 at S2 ⊢
        clear nq osq
        go_wp2
        go_roundg (c - i)
        case measure => omega
        case rel => exact ⟨i, c, rfl, rfl, hi, by omega, by omega, Nat.le_refl _, ⟨HI.out.1, .inr ⟨hqx, hqy, by rw [← HXX.out, ← HYY.out]; exact HEQ.out.1 hlv⟩⟩, S2⟩
    · obtain rfl : i = j := (by omega)
      have hltz : ¬ (i : Int) < (i : Int) := (by omega)
      have hia : a ≤ i := (by omega)
      have his : i - a ≤ xs.length := (by omega)
      have him : i ≤ mid := (by omega)
      have hik : mid - i ≤ ys.length := (by omega)
      have HW : Hid (∀ lo hi : List Tg, lo.Perm (xs.take (i - a) ++ ys.take (mid - i)) → hi.Perm (xs.drop (i - a) ++ ys.drop (mid - i)) → lo.Pairwise (tlt Rc.block) → hi.Pairwise (tlt Rc.block) → (lo ++ hi).Pairwise (tlt Rc.block) ∧ (lo ++ hi).Perm (xs ++ ys)) := (fun lo hi => sym_whole (tlt_trans Rc.block) HSX.out HSY.out his hik (by
          rcases HI.out.1 with h | ⟨h, h', q⟩
          · rcases hs0 with ⟨h1, h2⟩ | ⟨h1, h2⟩
            · exact .inr (.inl (by omega))
            · exact .inl (by omega)
          · exact .inr (.inr ⟨by omega, h', by simp only [show i - a - 1 = i - 1 - a from by omega]; exact q⟩)) (by
          rcases HI.out.2 with h | ⟨h, h', q⟩
          · rcases hr0 with ⟨h1, h2⟩ | ⟨h1, h2⟩
            · exact .inr (.inl (by omega))
            · exact .inl (by omega)
          · exact .inr (.inr ⟨h, by omega, by simp only [show mid - i - 1 = mid - 1 - i from by omega]; exact q⟩)))
      clear HI
      obtain ⟨e, he⟩ : ∃ e, e + i = mid + m := ⟨mid + m - i, by omega⟩
      have hez : (mid : Int) + (m : Int) - (i : Int) = (e : Int) := (by omega)
      have HNR : Hid (¬ (i < m ∧ i < mid) → D = (p ++ xs.take (i - a) ++ ys.take (mid - i) ++ xs.drop (i - a) ++ ys.drop (mid - i) ++ r).toArray) := (fun h => by
        rw [← HD.out]
        by_cases h1 : i < m
        · rw [show mid - i = 0 from by omega]
          simp
        · rw [List.take_of_length_le (show xs.length ≤ i - a by omega), List.drop_of_length_le (show xs.length ≤ i - a by omega)]
          simp)
      have HRO : Hid (D = ((p ++ xs.take (i - a)) ++ xs.drop (i - a) ++ ys.take (mid - i) ++ (ys.drop (mid - i) ++ r)).toArray) := (by
        show _ = _
        rw [← HD.out, parts_eq p xs ys r (i - a) (mid - i)])
      have HLx1 : Hid ((xs.take (i - a)).length = i - a) := (by show _ = _; rw [List.length_take]; omega)
      have HLx2 : Hid ((xs.drop (i - a)).length = m - i) := (by show _ = _; rw [List.length_drop]; omega)
      have HLy1 : Hid ((ys.take (mid - i)).length = mid - i) := (by show _ = _; rw [List.length_take]; omega)
      have HLy2 : Hid ((ys.drop (mid - i)).length = b - e) := (by show _ = _; rw [List.length_drop]; omega)
      have hie : i ≤ e := (by omega)
      have heb : e ≤ b := (by omega)
      have hme : m ≤ e := (by omega)
      have hmide : mid ≤ e := (by omega)
      go_upto_region 39 with fail
      go_cut [185] from 178 to 184 (fun s185 wx => s185 = .bool (decide (i < m ∧ i < mid)) ∧ wx = wr)
      case first => (
        by_cases h1 : i < m
        · have z1 : (i : Int) < (m : Int) := (by omega)
          by_cases h2 : i < mid
          · have z2 : (m : Int) < (e : Int) := (by omega)
            go_wp2
            go_meet
            exact ⟨by rw [decide_eq_true (⟨h1, h2⟩ : i < m ∧ i < mid)], rfl⟩
          · have z2 : ¬ (m : Int) < (e : Int) := (by omega)
            go_wp2
            go_meet
            exact ⟨by rw [decide_eq_false (fun h : i < m ∧ i < mid => h2 h.2)], rfl⟩
        · have z1 : ¬ (i : Int) < (m : Int) := (by omega)
          go_wp2
          go_meet
          exact ⟨by rw [decide_eq_false (fun h : i < m ∧ i < mid => h1 h.1)], rfl⟩)
      case rest => (
        obtain ⟨rfl, rfl⟩ := hcut
        go_upto_if 185 with fail
        go_cut [] from 178 to 191 (fun wx => Aside (SWK tgE k w0 g 0 (p ++ xs.take (i - a) ++ ys.take (mid - i) ++ xs.drop (i - a) ++ ys.drop (mid - i) ++ r).toArray wx))
        case first => (
          by_cases hc : i < m ∧ i < mid
          · have hd : decide (i < m ∧ i < mid) = true := decide_eq_true hc
            have S2 : Aside (SWK tgE k w0 g 0 ((p ++ xs.take (i - a)) ++ xs.drop (i - a) ++ ys.take (mid - i) ++ (ys.drop (mid - i) ++ r)).toArray wc) := (by show SWK _ _ _ _ _ _ _; rw [← HRO.out]; exact S1.out)
            clear S1
            go_wp2_with fail
            refine (rotate_any L g cap cf i m e (p ++ xs.take (i - a)) (xs.drop (i - a)) (ys.take (mid - i)) (ys.drop (mid - i) ++ r) d0 w0 _ R (by rw [List.length_append, List.length_append, HPL.out, HLx1.out, HLx2.out, HLy1.out, HLy2.out]; omega) (by rw [List.length_append, HPL.out, HLx1.out]; omega) (by rw [List.length_append, HPL.out, HLx1.out, HLx2.out]; omega) (by rw [List.length_append, HPL.out, HLx1.out, HLx2.out, HLy1.out]; omega) (by rw [HLx2.out]; omega) (by rw [HLy1.out]; omega) S2.out hsz).mono ?_
            rintro e' w2 ⟨rfl, S3⟩
            have S4 : Aside (SWK tgE k w0 g 0 (p ++ xs.take (i - a) ++ ys.take (mid - i) ++ xs.drop (i - a) ++ ys.drop (mid - i) ++ r).toArray w2) := (by show SWK _ _ _ _ _ _ _; rw [List.append_assoc _ (ys.drop _) r]; exact S3)
            clear S2 S3
            go_wp2
            go_meet
            exact S4
          · have hd : decide (i < m ∧ i < mid) = false := decide_eq_false hc
            have S4 : Aside (SWK tgE k w0 g 0 (p ++ xs.take (i - a) ++ ys.take (mid - i) ++ xs.drop (i - a) ++ ys.drop (mid - i) ++ r).toArray wc) := (by show SWK _ _ _ _ _ _ _; rw [← HNR.out hc]; exact S1.out)
            clear S1
            go_wp2
            go_meet
            exact S4)
        case rest => (
          have S2 := hcut
          clear S1 hcut
          go_upto_region 41 with fail
          go_cut [199] from 192 to 198 (fun s199 wx => s199 = .bool (decide (a < i ∧ i < mid)) ∧ wx = wc)
          case first => (
            by_cases h1 : a < i
            · have z1 : (a : Int) < (i : Int) := (by omega)
              by_cases h2 : i < mid
              · have z2 : (i : Int) < (mid : Int) := (by omega)
                go_wp2
                go_meet
                exact ⟨by rw [decide_eq_true (⟨h1, h2⟩ : a < i ∧ i < mid)], rfl⟩
              · have z2 : ¬ (i : Int) < (mid : Int) := (by omega)
                go_wp2
                go_meet
                exact ⟨by rw [decide_eq_false (fun h : a < i ∧ i < mid => h2 h.2)], rfl⟩
            · have z1 : ¬ (a : Int) < (i : Int) := (by omega)
              go_wp2
              go_meet
              exact ⟨by rw [decide_eq_false (fun h : a < i ∧ i < mid => h1 h.1)], rfl⟩)
          case rest => (
            obtain ⟨rfl, rfl⟩ := hcut
            go_upto_if 199 with fail
            go_cut [] from 192 to 205 (fun wx => ∃ lo : List Tg, Hid (lo.Perm (xs.take (i - a) ++ ys.take (mid - i))) ∧ Hid (lo.Pairwise (tlt Rc.block)) ∧ Aside (SWK tgE k w0 g 0 (p ++ lo ++ xs.drop (i - a) ++ ys.drop (mid - i) ++ r).toArray wx))
            case first => (
              by_cases hc : a < i ∧ i < mid
              · have hd : decide (a < i ∧ i < mid) = true := decide_eq_true hc
                have S3 : Aside (SWK tgE k w0 g 0 (p ++ xs.take (i - a) ++ ys.take (mid - i) ++ (xs.drop (i - a) ++ ys.drop (mid - i) ++ r)).toArray wc) := (by show SWK _ _ _ _ _ _ _; simp only [List.append_assoc]; have h := S2.out; simp only [List.append_assoc] at h; exact h)
                clear S2
                go_wp2_with fail
                refine (HIH.out (xs.take (i - a)) (ys.take (mid - i)) (by rw [HLx1.out, HLy1.out]; omega) (by rw [HLx1.out]; omega) (by rw [HLy1.out]; omega) a i mid p (xs.drop (i - a) ++ ys.drop (mid - i) ++ r) wc (by rw [List.length_append, List.length_append, HPL.out, HLx1.out, HLx2.out, HLy1.out, HLy2.out]; omega) HPL.out.symm (by rw [HPL.out, HLx1.out]; omega) (by rw [HPL.out, HLx1.out, HLy1.out]; omega) (HSX.out.sublist (List.take_sublist _ _)) (HSY.out.sublist (List.take_sublist _ _)) (fun x hx y hy => HTA.out x (List.mem_of_mem_take hx) y (List.mem_of_mem_take hy)) S3.out).mono ?_
                rintro e' w2 ⟨rfl, lo, hlo, hls, S4⟩
                have S5 : Aside (SWK tgE k w0 g 0 (p ++ lo ++ xs.drop (i - a) ++ ys.drop (mid - i) ++ r).toArray w2) := (by show SWK _ _ _ _ _ _ _; simp only [List.append_assoc] at S4 ⊢; exact S4)
                have HLO : Hid _ := hlo
                have HLS : Hid _ := hls
                clear S3 S4 hlo hls
                go_wp2
                go_meet
                exact ⟨lo, HLO, HLS, S5⟩
              · have hd : decide (a < i ∧ i < mid) = false := decide_eq_false hc
                have HLOW : Hid ((xs.take (i - a) ++ ys.take (mid - i)).Pairwise (tlt Rc.block)) := (by
                  show List.Pairwise _ _
                  by_cases h1 : a < i
                  · rw [show mid - i = 0 from by omega, List.take_zero, List.append_nil]
                    exact HSX.out.sublist (List.take_sublist _ _)
                  · rw [show i - a = 0 from by omega, List.take_zero, List.nil_append]
                    exact HSY.out.sublist (List.take_sublist _ _))
                have S5 : Aside (SWK tgE k w0 g 0 (p ++ (xs.take (i - a) ++ ys.take (mid - i)) ++ xs.drop (i - a) ++ ys.drop (mid - i) ++ r).toArray wc) := (by show SWK _ _ _ _ _ _ _; rw [← List.append_assoc p]; exact S2.out)
                clear S2
                go_wp2
                go_meet
                exact ⟨_, List.Perm.refl _, HLOW, S5⟩)
            case rest => (
              obtain ⟨lo, HLO, HLS, S3⟩ := hcut
              clear S2
              have HLL : Hid (lo.length = mid - a) := (by show _ = _; rw [HLO.out.length_eq, List.length_append, HLx1.out, HLy1.out]; omega)
              by_cases h1 : mid < e
              · have z1 : (mid : Int) < (e : Int) := (by omega)
                by_cases h2 : e < b
                · have z2 : (e : Int) < (b : Int) := (by omega)
                  have S4 : Aside (SWK tgE k w0 g 0 ((p ++ lo) ++ xs.drop (i - a) ++ ys.drop (mid - i) ++ r).toArray wc) := S3
                  clear S3
                  go_wp2_with fail
                  refine (HIH.out (xs.drop (i - a)) (ys.drop (mid - i)) (by rw [HLx2.out, HLy2.out]; omega) (by rw [HLx2.out]; omega) (by rw [HLy2.out]; omega) mid e b (p ++ lo) r wc (by rw [List.length_append, HPL.out, HLL.out, HLx2.out, HLy2.out]; omega) (by rw [List.length_append, HPL.out, HLL.out]; omega) (by rw [List.length_append, HPL.out, HLL.out, HLx2.out]; omega) (by rw [List.length_append, HPL.out, HLL.out, HLx2.out, HLy2.out]; omega) (HSX.out.sublist (List.drop_sublist _ _)) (HSY.out.sublist (List.drop_sublist _ _)) (fun x hx y hy => HTA.out x (List.mem_of_mem_drop hx) y (List.mem_of_mem_drop hy)) S4.out).mono ?_
                  rintro e' w2 ⟨rfl, hi2, hhi, hhs, S5⟩
                  have S6 : Aside (SWK tgE k w0 g 0 (p ++ (lo ++ hi2) ++ r).toArray w2) := (by show SWK _ _ _ _ _ _ _; simp only [List.append_assoc] at S5 ⊢; exact S5)
                  obtain ⟨f1, f2⟩ := HW.out lo hi2 HLO.out hhi HLS.out hhs
                  have F1 : Hid _ := f1
                  have F2 : Hid _ := f2
                  clear S4 S5 hhi hhs f1 f2
                  go_wp2
                  go_end0
                  exact ⟨rfl, lo ++ hi2, F2.out, F1.out, S6.out⟩
                · have z2 : ¬ (e : Int) < (b : Int) := (by omega)
                  have hye : ys.drop (mid - i) = [] := List.eq_nil_of_length_eq_zero (by rw [HLy2.out]; omega)
                  obtain ⟨f1, f2⟩ := HW.out lo (xs.drop (i - a)) HLO.out (by rw [hye, List.append_nil]) HLS.out (HSX.out.sublist (List.drop_sublist _ _))
                  have F1 : Hid _ := f1
                  have F2 : Hid _ := f2
                  have S6 : Aside (SWK tgE k w0 g 0 (p ++ (lo ++ xs.drop (i - a) ++ r)).toArray wc) := (by show SWK _ _ _ _ _ _ _; have h := S3.out; rw [hye] at h; simp only [List.append_assoc, List.append_nil] at h ⊢; exact h)
                  clear S3 hye f1 f2
                  go_wp2
                  go_end0
                  exact ⟨rfl, lo ++ xs.drop (i - a), F2.out, F1.out, S6.out⟩
              · have z1 : ¬ (mid : Int) < (e : Int) := (by omega)
                have hxe : xs.drop (i - a) = [] := List.eq_nil_of_length_eq_zero (by rw [HLx2.out]; omega)
                obtain ⟨f1, f2⟩ := HW.out lo (ys.drop (mid - i)) HLO.out (by rw [hxe, List.nil_append]) HLS.out (HSY.out.sublist (List.drop_sublist _ _))
                have F1 : Hid _ := f1
                have F2 : Hid _ := f2
                have S6 : Aside (SWK tgE k w0 g 0 (p ++ (lo ++ ys.drop (mid - i) ++ r)).toArray wc) := (by show SWK _ _ _ _ _ _ _; have h := S3.out; rw [hxe] at h; simp only [List.append_assoc, List.nil_append] at h ⊢; exact h)
                clear S3 hxe f1 f2
                go_wp2
                go_end0
                exact ⟨rfl, lo ++ ys.drop (mid - i), F2.out, F1.out, S6.out⟩)))))

/-- **Two in order merged: in order, those alike as they stood.** -/
theorem sym_any {P : Program} {k : Nat} (L : StabL P k) (g cap cf : Nat) (d0 : Array Tg) (w0 : World) (R : RowK tgE k w0 g 0 d0)
    (eg : ∀ args w, (callFunc cf args).run P w = .ok (.enter cf args) w) (hC : CmpLays P cf #[] tgE k tgC g 0 d0.size w0) (hsz : d0.size ≤ 400) :
    ∀ (N : Nat) (xs ys : List Tg), xs.length + ys.length ≤ N → 1 ≤ xs.length → 1 ≤ ys.length → SymSaid P k g cap cf d0 w0 xs ys
  | 0, xs, ys, hN, h1, _ => by omega
  | N + 1, xs, ys, hN, h1, h2 => by
    by_cases hx1 : xs.length = 1
    · obtain ⟨x, rfl⟩ := List.length_eq_one_iff.1 hx1
      intro a m b p r W hs ha hm hb _ hy htag S
      exact symOne_any L g cap cf a m b p ys r x d0 w0 W R eg hC hs ha hm hb hy (fun y hy => htag x (by simp) y hy) S hsz
    · by_cases hy1 : ys.length = 1
      · obtain ⟨y, rfl⟩ := List.length_eq_one_iff.1 hy1
        intro a m b p r W hs ha hm hb hx _ htag S
        refine (symLast_any L g cap cf a m b p xs r y d0 w0 W R eg hC hs ha hm hb (by omega) hx (fun x hx => htag x hx y (by simp)) S hsz).mono ?_
        rintro e w' ⟨he, zs, hz, hs', hw⟩
        exact ⟨he, zs, hz.trans (List.perm_append_singleton y xs).symm, hs', hw⟩
      · exact symMid_any L g cap cf d0 w0 R eg hC hsz xs ys (by omega) (by omega) (fun us vs hl h3 h4 => sym_any L g cap cf d0 w0 R eg hC hsz N us vs (by omega) h3 h4)
end Go.Proofs.Ytdjmhagclcfnfaa
/- The library's stable sort, at records: the comparison, the insertion sort of a piece. -/
namespace Go.Proofs.Ytdjmhagclcfnfaa
open Go.Shelf Go.RowKit Go.Lib Go.Sort
def Try.insRec_ren : Go.Shelf.Ren := ⟨fun | 20 => 171 | n => n, fun | 24 => 34 | 22 => 22 | 3 => 3 | 25 => 164 | 4 => 4 | 0 => 0 | n => n, fun | n => n⟩
theorem Try.insRec : Go.Proofs.SlLaysF0.n20 Try.prog Try.insRec_ren := {
  mixed := by kernel_rfl
  f20 := ⟨Try.f171.name, by decide, Try.func171.trans (congrArg some (by kernel_rfl))⟩
  t0 := Try.underlying0
  a0 := Try.isAgg0
  z0 := Try.sizeOf0
  v0 := Try.zeroValue0
  t3 := Try.underlying3
  a3 := Try.isAgg3
  z3 := Try.sizeOf3
  v3 := Try.zeroValue3
  t4 := Try.underlying4
  a4 := Try.isAgg4
  z4 := Try.sizeOf4
  v4 := Try.zeroValue4
  t22 := Try.underlying22
  a22 := Try.isAgg22
  z22 := Try.sizeOf22
  v22 := Try.zeroValue22
  t25 := Try.underlying164
  a25 := Try.isAgg164
  z25 := Try.sizeOf164
  v25 := Try.zeroValue164 }
def Try.cmpIntR_ren : Go.Shelf.Ren := ⟨fun | 5 => 105 | 7 => 132 | n => n, fun | 22 => 3 | 3 => 3 | 4 => 4 | n => n, fun | n => n⟩
theorem Try.cmpIntR : Go.Proofs.SlLaysC2.n5 Try.prog Try.cmpIntR_ren := {
  mixed := by kernel_rfl
  f5 := ⟨Try.f105.name, by decide, Try.func105.trans (congrArg some (by kernel_rfl))⟩
  f7 := ⟨Try.f132.name, by decide, Try.func132.trans (congrArg some (by kernel_rfl))⟩
  t3 := Try.underlying3
  a3 := Try.isAgg3
  z3 := Try.sizeOf3
  v3 := Try.zeroValue3
  t4 := Try.underlying4
  a4 := Try.isAgg4
  z4 := Try.sizeOf4
  v4 := Try.zeroValue4
  t22 := Try.underlying3
  a22 := Try.isAgg3
  z22 := Try.sizeOf3
  v22 := Try.zeroValue3 }

set_option maxRecDepth 100000 in
set_option maxHeartbeats 1000000 in
theorem latest1_any (x y : Tg) (W : World) : Calls Try.prog 136 #[.agg (tgE x).toArray, .agg (tgE y).toArray] W fun e w' => e = .returned (.int .i64 (tgC x y)) ∧ ∃ q os', w' = grow (W.drewN q) os' := by
  obtain ⟨⟨f1, b1, d1⟩, t1⟩ := x
  obtain ⟨⟨f2, b2, d2⟩, t2⟩ := y
  have hcon := fun W' => AnyG.cmp_Compare_int Try.cmpIntR b1 b2 W'
  change ∀ W', Calls Try.prog 105 _ _ _ at hcon
  have HC : Hid _ := hcon
  clear hcon
  show Calls Try.prog 136 #[.agg #[.bool f1, .int .i64 b1, .string d1], .agg #[.bool f2, .int .i64 b2, .string d2]] W fun e w' => e = .returned (.int .i64 (Lib.compareInt b1 b2)) ∧ ∃ q os', w' = grow (W.drewN q) os'
  generalize Lib.compareInt b1 b2 = r at *
  go_enter Try.func136, Try.ntmps136
  go_wp2_with fail
  refine (HC.out _).mono ?_
  rintro e w' ⟨rfl, rfl⟩
  go_wp2
  go_ret
  exact ⟨rfl, 0, _, by rw [alloc_eq_grow, alloc_eq_grow, grow_grow]; rfl⟩
theorem Try.egL : ∀ args w, (callFunc 136 args).run Try.prog w = .ok (.enter 136 args) w := enters_of Try.func136 (by kernel_rfl) rfl
theorem cmpLays_any (g n : Nat) (w0 : World) : CmpLays Try.prog 136 #[] tgE 3 tgC g 0 n w0 := fun _ _ _ _ x y => latest1_any x y _

/-- The insertion sort of a piece. -/
theorem ins_any (g cap a b : Nat) (p us r : List Tg) (d0 : Array Tg) (w0 W : World) (R : RowK tgE 3 w0 g 0 d0) (hs : d0.size = p.length + us.length + r.length) (ha : a = p.length) (hb : b = p.length + us.length) (hu : us.Pairwise (fun x y => x.2 < y.2))
    (S : SWK tgE 3 w0 g 0 (p ++ us ++ r).toArray W) (hsz : d0.size ≤ 400) :
    Calls Try.prog 171 #[.slice (some ⟨g, 0, none⟩) d0.size cap, .int .i64 a, .int .i64 b, .func (.func 136) #[] #[]] W fun e w' => e = .returned (.tuple #[]) ∧
      ∃ vs : List Tg, vs.Perm us ∧ vs.Pairwise (tlt Rc.block) ∧ SWK tgE 3 w0 g 0 (p ++ vs ++ r).toArray w' := by
  subst ha hb
  have hz : (p ++ us ++ r).toArray.size = d0.size := by simp; omega
  have hcon := AnyQ.insertionSortCmpFunc Try.insRec 3 Try.isAgg34 Try.sizeOf34 tgE R.hk R.h1 tgC 136 #[] g 0 cap p.length (p.length + us.length) (p ++ us ++ r).toArray W Try.egL (cmpLays_any g _ W) (S.holds R.hblk R.hH hz) (S.lt R.hblk) (by omega) (by rw [hz]; omega) (by rw [hz]; omega)
  change Calls Try.prog 171 _ _ _ at hcon
  rw [hz] at hcon
  obtain ⟨vs, h1, h2, h3⟩ := ins_stable Rc.block (ltOf tgC) tg_lt p us r hu
  refine hcon.mono ?_
  rintro e w' ⟨rfl, n, os, rfl⟩
  rw [h1]
  exact ⟨rfl, vs, h2, h3, S.on R.hblk n _ os (by rw [hz]; simp; rw [h2.length_eq]; omega)⟩
end Go.Proofs.Ytdjmhagclcfnfaa
/- The library's stable sort, at records. -/
namespace Go.Proofs.Ytdjmhagclcfnfaa
open Go.Shelf Go.RowKit Go.Lib Go.Sort

/-- A merge, at the program. -/
theorem symR_any (g cap a m b : Nat) (p xs ys r : List Tg) (d0 : Array Tg) (w0 W : World) (R : RowK tgE 3 w0 g 0 d0) (hsz : d0.size ≤ 400) (h1 : 1 ≤ xs.length) (h2 : 1 ≤ ys.length)
    (hs : d0.size = p.length + xs.length + ys.length + r.length) (ha : a = p.length) (hm : m = p.length + xs.length) (hb : b = p.length + xs.length + ys.length)
    (hx : xs.Pairwise (tlt Rc.block)) (hy : ys.Pairwise (tlt Rc.block)) (ht : ∀ x ∈ xs, ∀ y ∈ ys, x.2 < y.2) (S : SWK tgE 3 w0 g 0 (p ++ xs ++ ys ++ r).toArray W) :
    Calls Try.prog 172 #[.slice (some ⟨g, 0, none⟩) d0.size cap, .int .i64 a, .int .i64 m, .int .i64 b, .func (.func 136) #[] #[]] W fun e w' => e = .returned (.tuple #[]) ∧
      ∃ zs : List Tg, zs.Perm (xs ++ ys) ∧ zs.Pairwise (tlt Rc.block) ∧ SWK tgE 3 w0 g 0 (p ++ zs ++ r).toArray w' :=
  sym_any Try.stabL g cap 136 d0 w0 R Try.egL (cmpLays_any g _ w0) hsz _ xs ys (Nat.le_refl _) h1 h2 a m b p r W hs ha hm hb hx hy ht S

/-- What the sort stands at between two steps: done, still to do. -/
structure Part (n : Nat) (zs done todo : List Tg) (ahead : List Tg → Prop) (rest : List Tg → Prop) : Prop where
  len : done.length + todo.length = n
  perm : (done ++ todo).Perm zs
  ah : ahead done
  re : rest todo
  tags : ∀ x ∈ done, ∀ y ∈ todo, x.2 < y.2
abbrev Rise (u : List Tg) : Prop := u.Pairwise (fun x y => x.2 < y.2)
theorem Part.start {n : Nat} {zs : List Tg} (h : zs.length = n) (hr : Rise zs) : Part n zs [] zs (Ahead Rc.block 20) Rise := ⟨by simpa using h, List.Perm.refl _, Ahead.nil _ _, hr, by simp⟩
theorem Part.start2 {n k : Nat} {zs u : List Tg} (h : u.length = n) (hp : u.Perm zs) (hb : BS Rc.block k u) : Part n zs [] u (Ahead Rc.block (2 * k)) (BS Rc.block k) := ⟨by simpa using h, hp, Ahead.nil _ _, hb, by simp⟩
theorem tags_parts {d u v : List Tg} (h : ∀ x ∈ d, ∀ y ∈ u ++ v, x.2 < y.2) : (∀ x ∈ d, ∀ y ∈ u, x.2 < y.2) ∧ ∀ x ∈ d, ∀ y ∈ v, x.2 < y.2 := ⟨fun x hx y hy => h x hx y (by simp [hy]), fun x hx y hy => h x hx y (by simp [hy])⟩
theorem tags_join {d u v : List Tg} (h1 : ∀ x ∈ d, ∀ y ∈ v, x.2 < y.2) (h2 : ∀ x ∈ u, ∀ y ∈ v, x.2 < y.2) : ∀ x ∈ d ++ u, ∀ y ∈ v, x.2 < y.2 := fun x hx y hy => (List.mem_append.1 hx).elim (fun h => h1 x h y hy) (fun h => h2 x h y hy)
/-- A piece of twenty sorted. -/
theorem Part.ins {n : Nat} {zs done us v vs : List Tg} (h : Part n zs done (us ++ v) (Ahead Rc.block 20) Rise) (hu : us.length = 20) (hv : vs.Perm us) (hs : vs.Pairwise (tlt Rc.block)) : Part n zs (done ++ vs) v (Ahead Rc.block 20) Rise := by
  obtain ⟨r1, r2, r3⟩ := rise_parts h.re
  obtain ⟨t1, t2⟩ := tags_parts h.tags
  refine ⟨?_, ?_, h.ah.more (by rw [hv.length_eq]; exact hu) hs (marks_perm t1 (List.Perm.refl _) hv), r2, tags_join t2 (marks_perm r3 hv (List.Perm.refl _))⟩
  · have := h.len
    rw [List.length_append] at this ⊢
    rw [hv.length_eq]
    omega
  · refine List.Perm.trans ?_ h.perm
    rw [List.append_assoc]
    exact List.Perm.append_left _ (List.Perm.append_right _ hv)
theorem Part.insLast {n : Nat} {zs done us vs : List Tg} (h : Part n zs done us (Ahead Rc.block 20) Rise) (hu : us.length ≤ 20) (hv : vs.Perm us) (hs : vs.Pairwise (tlt Rc.block)) : BS Rc.block 20 (done ++ vs) ∧ (done ++ vs).Perm zs :=
  ⟨h.ah.whole (by rw [hv.length_eq]; exact hu) hs (marks_perm h.tags (List.Perm.refl _) hv), (List.Perm.append_left _ hv).trans h.perm⟩
/-- Two blocks merged. -/
theorem Part.sym {n k : Nat} {zs done us vs v ms : List Tg} (h : Part n zs done (us ++ vs ++ v) (Ahead Rc.block (2 * k)) (BS Rc.block k)) (hu : us.length = k) (hv : vs.length = k) (h3 : ∀ x ∈ us ++ vs, ∀ y ∈ v, x.2 < y.2) (h4 : BS Rc.block k v) (hm : ms.Perm (us ++ vs)) (hs : ms.Pairwise (tlt Rc.block)) : Part n zs (done ++ ms) v (Ahead Rc.block (2 * k)) (BS Rc.block k) := by
  obtain ⟨t1, t2⟩ := tags_parts h.tags
  have hl : ms.length = 2 * k := by rw [hm.length_eq, List.length_append]; omega
  refine ⟨?_, ?_, h.ah.more hl hs (marks_perm t1 (List.Perm.refl _) hm), h4, tags_join t2 (marks_perm h3 hm (List.Perm.refl _))⟩
  · have := h.len
    rw [List.length_append, List.length_append] at this
    rw [List.length_append]
    omega
  · refine List.Perm.trans ?_ h.perm
    rw [List.append_assoc]
    exact List.Perm.append_left _ (List.Perm.append_right _ hm)
theorem BS.two {k : Nat} {t : List Tg} (h : BS Rc.block k t) (hk : 2 * k ≤ t.length) : ∃ us vs v, t = us ++ vs ++ v ∧ us.length = k ∧ vs.length = k ∧ us.Pairwise (tlt Rc.block) ∧ vs.Pairwise (tlt Rc.block) ∧ (∀ x ∈ us, ∀ y ∈ vs, x.2 < y.2) ∧ (∀ x ∈ us ++ vs, ∀ y ∈ v, x.2 < y.2) ∧ BS Rc.block k v := by
  obtain ⟨us, t1, rfl, hu, su, tu, b1⟩ := h.first (by omega)
  rw [List.length_append] at hk
  obtain ⟨vs, v, rfl, hv, sv, tv, b2⟩ := b1.first (by omega)
  obtain ⟨q1, q2⟩ := tags_parts tu
  exact ⟨us, vs, v, by simp, hu, hv, su, sv, q1, tags_join q2 tv, b2⟩
theorem Part.symEnd {n k : Nat} {zs done us vs ms : List Tg} (h : Part n zs done (us ++ vs) (Ahead Rc.block (2 * k)) (BS Rc.block k)) (hu : us.length = k) (hv : vs.length ≤ k) (hm : ms.Perm (us ++ vs)) (hs : ms.Pairwise (tlt Rc.block)) : BS Rc.block (2 * k) (done ++ ms) ∧ (done ++ ms).Perm zs :=
  ⟨h.ah.whole (by rw [hm.length_eq, List.length_append]; omega) hs (marks_perm h.tags (List.Perm.refl _) hm), (List.Perm.append_left _ hm).trans h.perm⟩
theorem Part.rest {n k : Nat} {zs done us : List Tg} (h : Part n zs done us (Ahead Rc.block (2 * k)) (BS Rc.block k)) (hu : us.length ≤ k) : BS Rc.block (2 * k) (done ++ us) ∧ (done ++ us).Perm zs :=
  ⟨h.ah.whole (by omega) (h.re.one hu) h.tags, h.perm⟩

set_option maxHeartbeats 4000000 in
set_option maxRecDepth 1000000 in
/-- **The stable sort.** -/
theorem stable_any (g cap n : Nat) (zs : List Tg) (d0 : Array Tg) (w0 W : World) (R : RowK tgE 3 w0 g 0 d0) (hn : zs.length = n) (hs : d0.size = n) (hsz : d0.size ≤ 400) (hr : Rise zs) (S : SWK tgE 3 w0 g 0 zs.toArray W) :
    Calls Try.prog 163 #[.slice (some ⟨g, 0, none⟩) d0.size cap, .int .i64 n, .func (.func 136) #[] #[]] W fun e w' => e = .returned (.tuple #[]) ∧
      ∃ vs : List Tg, vs.Perm zs ∧ vs.Pairwise (tlt Rc.block) ∧ SWK tgE 3 w0 g 0 vs.toArray w' := by
  have S0 : Aside (SWK tgE 3 w0 g 0 ([] ++ zs).toArray W) := S
  have P0 : Hid (Part n zs [] zs (Ahead Rc.block 20) Rise) := Part.start hn hr
  obtain ⟨hs1, hs2⟩ : d0.size ≤ n ∧ n ≤ d0.size := ⟨by omega, by omega⟩
  have hn4 : n ≤ 400 := by omega
  clear S hr hs
  go_enter Try.func163, Try.ntmps163
  go_wp2
  go_loopg [7, 8] n (fun kx s7 s8 wr => ∃ (a b : Nat) (done todo : List Tg), s7 = .int .i64 a ∧ s8 = .int .i64 b ∧ a ≤ done.length ∧ done.length ≤ a ∧ b ≤ a + 20 ∧ a + 20 ≤ b ∧ n - a ≤ kx ∧ Hid (Part n zs done todo (Ahead Rc.block 20) Rise) ∧ Aside (SWK tgE 3 w0 g 0 (done ++ todo).toArray wr))
  case atStart => exact ⟨0, 20, [], zs, rfl, rfl, Nat.le_refl _, Nat.le_refl _, Nat.le_refl _, Nat.le_refl _, by omega, P0, S0⟩
  case round =>
    clear S0 P0
    obtain ⟨a, b, done, todo, rfl, rfl, ha1, ha2, hb1, hb2, hkx, PT, S1⟩ := hrel
    obtain ⟨hl1, hl2⟩ : done.length + todo.length ≤ n ∧ n ≤ done.length + todo.length := ⟨Nat.le_of_eq PT.out.len, Nat.le_of_eq PT.out.len.symm⟩
    by_cases hle : b ≤ n
    · have hlez : (b : Int) ≤ (n : Int) := by omega
      have HUV : Hid (todo.take 20 ++ todo.drop 20 = todo) := List.take_append_drop _ _
      have HTL : Hid ((todo.take 20).length = 20) := by show _ = _; rw [List.length_take]; omega
      have HDL : Hid ((todo.drop 20).length = todo.length - 20) := List.length_drop
      have P1 : Hid (Part n zs done (todo.take 20 ++ todo.drop 20) (Ahead Rc.block 20) Rise) := by show Part _ _ _ _ _ _; rw [HUV.out]; exact PT.out
      have S2 : Aside (SWK tgE 3 w0 g 0 (done ++ todo.take 20 ++ todo.drop 20).toArray wr) := by show SWK _ _ _ _ _ _ _; rw [List.append_assoc, HUV.out]; exact S1.out
      clear S1 PT
      go_wp2_with fail
      refine (ins_any g cap a b done (todo.take 20) (todo.drop 20) d0 w0 _ R (by rw [HTL.out, HDL.out]; omega) (by omega) (by rw [HTL.out]; omega) (rise_parts P1.out.re).1 S2.out hsz).mono ?_
      rintro e w2 ⟨rfl, vs, hv1, hv2, S3⟩
      have P2 : Hid (Part n zs (done ++ vs) (todo.drop 20) (Ahead Rc.block 20) Rise) := P1.out.ins HTL.out hv1 hv2
      have S4 : Aside (SWK tgE 3 w0 g 0 (done ++ vs ++ todo.drop 20).toArray w2) := S3
      have HVL : Hid (vs.length = 20) := hv1.length_eq.trans HTL.out
      clear S2 S3 P1 hv1 hv2
      go_wp2
      go_roundg (n - b)
      case measure => omega
      case rel => exact ⟨b, b + 20, done ++ vs, todo.drop 20, rfl, by go_num, by rw [List.length_append, HVL.out]; omega, by rw [List.length_append, HVL.out]; omega, Nat.le_refl _, Nat.le_refl _, Nat.le_refl _, P2, S4⟩
    · have hlez : ¬ (b : Int) ≤ (n : Int) := by omega
      have S2 : Aside (SWK tgE 3 w0 g 0 (done ++ todo ++ []).toArray wr) := by show SWK _ _ _ _ _ _ _; rw [List.append_nil]; exact S1.out
      clear S1
      go_wp2_with fail
      refine (ins_any g cap a n done todo [] d0 w0 _ R (by simp only [List.length_nil]; omega) (by omega) (by omega) PT.out.re S2.out hsz).mono ?_
      rintro e w2 ⟨rfl, vs, hv1, hv2, S3⟩
      obtain ⟨hB, hP⟩ := PT.out.insLast (by omega) hv1 hv2
      rw [List.append_nil] at S3
      have S4 : Aside (SWK tgE 3 w0 g 0 (done ++ vs).toArray w2) := S3
      have HB : Hid (BS Rc.block 20 (done ++ vs)) := hB
      have HP : Hid ((done ++ vs).Perm zs) := hP
      clear S2 S3 hv1 hv2 hB hP PT hl1 hl2 ha1 ha2 hb1 hb2 hkx hle hlez
      generalize done ++ vs = u0 at *
      go_wp2
      go_loopg [6, 7, 8, 9] n (fun kx s6 s7 s8 s9 wr => ∃ (k : Nat) (u : List Tg), s6 = .int .i64 k ∧ 1 ≤ k ∧ k ≤ 800 ∧ n - k ≤ kx ∧ Hid (BS Rc.block k u) ∧ Hid (u.Perm zs) ∧ Aside (SWK tgE 3 w0 g 0 u.toArray wr))
      case atStart => exact ⟨20, u0, rfl, by omega, by omega, by omega, HB, HP, S4⟩
      case round =>
        clear S4 HB HP
        obtain ⟨k, u, rfl, hk1, hk2, hkx, HB, HP, S1⟩ := hrel
        obtain ⟨hul1, hul2⟩ : u.length ≤ n ∧ n ≤ u.length := by have := HP.out.length_eq; exact ⟨by omega, by omega⟩
        by_cases hlt : k < n
        · have hltz : (k : Int) < (n : Int) := by omega
          have P0 : Hid (Part n zs [] u (Ahead Rc.block (2 * k)) (BS Rc.block k)) := Part.start2 (by omega) HP.out HB.out
          have S0 : Aside (SWK tgE 3 w0 g 0 ([] ++ u).toArray wr) := S1
          clear S1 HB HP hul1 hul2
          go_wp2
          go_loopg [7, 8] n (fun kx s7 s8 wr => ∃ (a b : Nat) (done todo : List Tg), s7 = .int .i64 a ∧ s8 = .int .i64 b ∧ a ≤ done.length ∧ done.length ≤ a ∧ b ≤ a + 2 * k ∧ a + 2 * k ≤ b ∧ n - a ≤ kx ∧ Hid (Part n zs done todo (Ahead Rc.block (2 * k)) (BS Rc.block k)) ∧ Aside (SWK tgE 3 w0 g 0 (done ++ todo).toArray wr))
          case atStart => exact ⟨0, 2 * k, [], u, rfl, by congr 1, Nat.le_refl _, Nat.le_refl _, by omega, by omega, by omega, P0, S0⟩
          case round =>
            clear S0 P0
            obtain ⟨a, b, done, todo, rfl, rfl, ha1, ha2, hb1, hb2, hkx2, PT, S1⟩ := hrel
            obtain ⟨hl1, hl2⟩ : done.length + todo.length ≤ n ∧ n ≤ done.length + todo.length := ⟨Nat.le_of_eq PT.out.len, Nat.le_of_eq PT.out.len.symm⟩
            obtain ⟨m, hm1, hm2⟩ : ∃ m, m ≤ a + k ∧ a + k ≤ m := ⟨a + k, Nat.le_refl _, Nat.le_refl _⟩
            have hmz : (a : Int) + (k : Int) = (m : Int) := by omega
            by_cases hle : b ≤ n
            · have hlez : (b : Int) ≤ (n : Int) := by omega
              obtain ⟨us, vs, v, rfl, hu, hv, su, sv, tuv, tv, bv⟩ := PT.out.re.two (by omega)
              obtain ⟨hu1, hu2⟩ : us.length ≤ k ∧ k ≤ us.length := ⟨by omega, by omega⟩
              obtain ⟨hv1, hv2⟩ : vs.length ≤ k ∧ k ≤ vs.length := ⟨by omega, by omega⟩
              have P1 : Hid (∀ ms : List Tg, ms.Perm (us ++ vs) → ms.Pairwise (tlt Rc.block) → Part n zs (done ++ ms) v (Ahead Rc.block (2 * k)) (BS Rc.block k)) := fun ms h1 h2 => PT.out.sym hu hv tv bv h1 h2
              have HSU : Hid _ := su
              have HSV : Hid _ := sv
              have HTT : Hid _ := tuv
              have S2 : Aside (SWK tgE 3 w0 g 0 (done ++ us ++ vs ++ v).toArray wr) := by show SWK _ _ _ _ _ _ _; have h := S1.out; simp only [List.append_assoc] at h ⊢; exact h
              rw [List.length_append, List.length_append] at hl1 hl2
              clear S1 PT hu hv su sv tuv tv bv
              go_wp2_with fail
              refine (symR_any g cap a m b done us vs v d0 w0 _ R hsz (by omega) (by omega) (by omega) (by omega) (by omega) (by omega) HSU.out HSV.out HTT.out S2.out).mono ?_
              rintro e w2 ⟨rfl, ms, hms, hmo, S3⟩
              have P2 : Hid _ := P1.out ms hms hmo
              have S4 : Aside (SWK tgE 3 w0 g 0 (done ++ ms ++ v).toArray w2) := S3
              obtain ⟨hms1, hms2⟩ : ms.length ≤ 2 * k ∧ 2 * k ≤ ms.length := by have := hms.length_eq; rw [List.length_append] at this; exact ⟨by omega, by omega⟩
              clear S2 S3 P1 hms hmo HSU HSV HTT
              go_wp2
              go_roundg (n - b)
              case measure => omega
              case rel => exact ⟨b, b + 2 * k, done ++ ms, v, rfl, by congr 1, by rw [List.length_append]; omega, by rw [List.length_append]; omega, Nat.le_refl _, Nat.le_refl _, Nat.le_refl _, P2, S4⟩
            · have hlez : ¬ (b : Int) ≤ (n : Int) := by omega
              by_cases hmn : m < n
              · have hmnz : (m : Int) < (n : Int) := by omega
                obtain ⟨us, vs, rfl, hu, su, tuv, bv⟩ := PT.out.re.first (by omega)
                rw [List.length_append] at hl1 hl2
                obtain ⟨hu1, hu2⟩ : us.length ≤ k ∧ k ≤ us.length := ⟨by omega, by omega⟩
                have hv1 : vs.length ≤ k := by omega
                have HSV : Hid (vs.Pairwise (tlt Rc.block)) := bv.one hv1
                have HSU : Hid _ := su
                have HTT : Hid _ := tuv
                have P1 : Hid (∀ ms : List Tg, ms.Perm (us ++ vs) → ms.Pairwise (tlt Rc.block) → BS Rc.block (2 * k) (done ++ ms) ∧ (done ++ ms).Perm zs) := fun ms h1 h2 => PT.out.symEnd hu hv1 h1 h2
                have S2 : Aside (SWK tgE 3 w0 g 0 (done ++ us ++ vs ++ []).toArray wr) := by show SWK _ _ _ _ _ _ _; have h := S1.out; simp only [List.append_assoc, List.append_nil] at h ⊢; exact h
                clear S1 PT hu su tuv bv
                go_wp2_with fail
                refine (symR_any g cap a m n done us vs [] d0 w0 _ R hsz (by omega) (by omega) (by simp only [List.length_nil]; omega) (by omega) (by omega) (by omega) HSU.out HSV.out HTT.out S2.out).mono ?_
                rintro e w2 ⟨rfl, ms, hms, hmo, S3⟩
                obtain ⟨f1, f2⟩ := P1.out ms hms hmo
                have F1 : Hid _ := f1
                have F2 : Hid _ := f2
                rw [List.append_nil] at S3
                have S4 : Aside (SWK tgE 3 w0 g 0 (done ++ ms).toArray w2) := S3
                clear S2 S3 P1 hms hmo HSU HSV HTT f1 f2
                go_wp2
                go_roundg (n - 2 * k)
                case measure => omega
                case rel => exact ⟨2 * k, done ++ ms, by congr 1; omega, by omega, by omega, Nat.le_refl _, F1, F2, S4⟩
              · have hmnz : ¬ (m : Int) < (n : Int) := by omega
                obtain ⟨f1, f2⟩ := PT.out.rest (by omega)
                have F1 : Hid _ := f1
                have F2 : Hid _ := f2
                clear PT f1 f2
                go_wp2
                go_roundg (n - 2 * k)
                case measure => omega
                case rel => exact ⟨2 * k, done ++ todo, by congr 1; omega, by omega, by omega, Nat.le_refl _, F1, F2, S1⟩
        · have hltz : ¬ (k : Int) < (n : Int) := by omega
          have HS : Hid (u.Pairwise (tlt Rc.block)) := HB.out.one (by omega)
          go_wp2
          go_end0
          exact ⟨rfl, u, HP.out, HS.out, S1.out⟩
set_option maxHeartbeats 1000000 in
set_option maxRecDepth 1000000 in
theorem sortStable_any (g cap : Nat) (zs : List Tg) (d0 : Array Tg) (w0 W : World) (R : RowK tgE 3 w0 g 0 d0) (hs : d0.size = zs.length) (hsz : d0.size ≤ 400) (hr : Rise zs) (S : SWK tgE 3 w0 g 0 zs.toArray W) :
    Calls Try.prog 135 #[.slice (some ⟨g, 0, none⟩) d0.size cap, .func (.func 136) #[] #[]] W fun e w' => e = .returned (.tuple #[]) ∧
      ∃ vs : List Tg, vs.Perm zs ∧ vs.Pairwise (tlt Rc.block) ∧ SWK tgE 3 w0 g 0 vs.toArray w' := by
  have hc := stable_any g cap d0.size zs d0 w0 W R hs.symm rfl hsz hr S
  have HC : Hid (∀ _ : Unit, Calls Try.prog 163 _ W _) := fun _ => hc
  clear S hr hs hc
  go_enter Try.func135, Try.ntmps135
  go_wp2_with fail
  refine (HC.out ()).mono ?_
  rintro e w2 ⟨rfl, H⟩
  have H2 : Hid _ := H
  clear H
  go_wp2
  go_end0
  exact ⟨rfl, H2.out⟩
end Go.Proofs.Ytdjmhagclcfnfaa
