/- The walk of Early. -/
import Derived.Test.YtpopjmkipddpgabKText
import Derived.Test.YtpopjmkipddpgabEarlyM
import Derived.Test.YtpopjmkipddpgabPSome2
import Derived.Test.YtpopjmkipddpgabLExact2
namespace Go.Proofs.Ytpopjmkipddpgab
open Go.RowKit Go.Shelf

theorem toldS_all {l : List UInt8} {fr mn : Nat} {w w' : World} {e : Ending} {rs : List Rc} (h : ToldS l fr mn w e w') (hs : someR l fr mn = .inr rs) :
    ∃ a c, e = .returned (.tuple #[.slice a rs.length c, .int .i64 0]) ∧ Recs w'.heap.size w' (.slice a rs.length c) rs ∧ w.grownBy w' none := by
  obtain ⟨hg, (⟨k, hk, rfl⟩ | ⟨rs', v, hk, rfl, ho⟩)⟩ := h
  · rw [hs] at hk
    cases hk
  · rw [hs] at hk
    cases hk
    obtain ⟨a, c, rfl⟩ := ho.recs.slice
    exact ⟨a, c, rfl, ho.recs, hg⟩

set_option maxRecDepth 100000 in
set_option maxHeartbeats 2000000 in
theorem early_walk (x y mny : Int) (v : Value) (xs : List Int) (bh : List UInt8) (w : World) (hx : I64 x) (hy : I64 y) (hmn : I64 mny) (hv : Ints w.heap.size w v xs) (hxs : ∀ c ∈ xs, I64 c) (hxl : xs.length ≤ 9223372036854775807) (hbl : bh.length ≤ 140737488355328) :
    Calls Try.prog 3 #[.int .i64 x, .int .i64 y, v, .int .i64 mny, .string ⟨bh.toArray⟩] w fun e w' => e = .returned (.bool true) ∧ w.grownBy w' none := by
  obtain ⟨a, cap, rfl⟩ := hv.slice
  have HV : Hid _ := hv
  have hn : pickN x 100 + 1 ≤ 100 := pickN_lt x 100 (by omega)
  have hz : pickN y 64 + 1 ≤ 64 := pickN_lt y 64 (by omega)
  have HM : Hid (∀ u : Unit, _) := fun _ => made_any 1 2 (pickN x 100 + 1) (pickN y 64 + 1) (.slice a xs.length cap) xs false w HV.out hxs hxl (by omega) (by omega)
  have HS : Hid (∀ W, _) := fun W => shape_any x y W hx hy
  have hwh : wellHead 1 2 ((pickN x 100 + 1 : Nat) : Int) ((pickN y 64 + 1 : Nat) : Int) = true := decide_eq_true ⟨by omega, by omega, by omega, by omega, by omega, by omega, by omega, by omega, by omega⟩
  generalize pickN x 100 + 1 = n at *
  generalize pickN y 64 + 1 = z at *
  clear hv hx hy hxs hxl
  go_enter Try.func3, Try.ntmps3
  go_wp2_with fail
  refine (HS.out _).mono ?_
  rintro e w1 ⟨rfl, rfl⟩
  go_wp2_with fail
  refine (HM.out ()).mono ?_
  rintro e w2 ⟨sv, rs, rfl, hok, -, hown, hg2⟩
  obtain ⟨al, cl, rfl⟩ := hown.recs.slice
  obtain ⟨W2, hW2⟩ : ∃ W2, W2 = w2.alloc (.cells #[.int .i64 1, .int .i64 2, .int .i64 n, .int .i64 z, .slice al rs.length cl] 27) := ⟨_, rfl⟩
  have hx2 : W2.heap[w2.heap.size]? = some (.cells #[.int .i64 1, .int .i64 2, .int .i64 n, .int .i64 z, .slice al rs.length cl] 27 (0, 0)) := by rw [hW2]; exact World.alloc_heap_new _ _
  have G2 : Hid (w1.grownBy W2 none) := by rw [hW2]; exact gallocR hg2 _
  have hR2 : Recs W2.heap.size W2 (.slice al rs.length cl) rs := by rw [hW2]; exact (OwnsR.alloc hown _).recs
  have SB : Hid (∀ W, W2.grownBy W none → W.heap[w2.heap.size]? = some (.cells #[.int .i64 1, .int .i64 2, .int .i64 n, .int .i64 z, .slice al rs.length cl] 27 (0, 0))) := fun W h => (box_kept hx2 h).1
  have RS : Hid (∀ W, W2.grownBy W none → Recs W.heap.size W (.slice al rs.length cl) rs) := fun W h => hR2.moved (below_of_grown h)
  have HT : Hid (∀ u : Unit, _) := fun _ => text_good 1 2 n z (.slice al rs.length cl) rs W2 hR2 hwh hok
  have hsm := serB_small 1 2 n z rs (by omega) (by omega) hok
  have hrl := recsOk_length n z rs hok (by omega)
  have HSA : Hid _ := some_all 1 2 n z rs hwh hok
  have HSF : Hid (∀ m, m < rs.length → _) := fun m hm => some_first 1 2 n z rs hwh hok m hm bh
  have HNX : Hid (∀ k (h : k < rs.length), _) := fun k h => recsB_next n z rs hok k h
  clear hg2 hok hown hx2 hR2 hwh
  generalize serB 1 2 n z rs = L at *
  go_wp2_with fail
  rw [← hW2]
  clear hW2
  refine (HT.out ()).mono ?_
  rintro e w3 ⟨rfl, hg3⟩
  have G3 : Hid (W2.grownBy w3 none) := hg3
  have hL0 : (L == []) = false := by
    cases L with
    | nil => simp at hsm
    | cons _ _ => rfl
  obtain ⟨-, -, -, -, c4, -⟩ := box5 (SB.out w3 hg3)
  have HP1 : Hid (∀ W, _) := fun W => psome L 0 rs.length W (by omega) (by omega) (by omega)
  clear hg3 HT HM HS HV
  go_wp2_with fail
  refine (HP1.out _).mono ?_
  intro e w4 h4
  obtain ⟨aa, ca, rfl, hRA, hg4⟩ := toldS_all h4 HSA.out
  have G4 : Hid (W2.grownBy w4 none) := gtrans G3.out hg4
  have RA : Hid (∀ W, w4.grownBy W none → Recs W.heap.size W (.slice aa rs.length ca) rs) := fun W h => hRA.moved (below_of_grown h)
  obtain ⟨-, -, -, -, d4, -⟩ := box5 (SB.out w4 G4.out)
  clear h4 hRA hg4 c4 HP1 HSA
  by_cases hr0 : rs.length = 0
  · go_wp2_with fail
    go_ret
    exact ⟨rfl, gtrans G2.out G4.out⟩
  go_wp2_with fail
  refine (pick_any mny rs.length _ hmn (by omega) (by omega)).mono ?_
  rintro e w5 ⟨rfl, rfl⟩
  have hml := pickN_lt mny rs.length (by omega)
  generalize pickN mny rs.length = m at *
  go_wp2_with fail
  have HR5 : Hid (Recs w5.heap.size w5 (.slice al rs.length cl) rs) := RS.out w5 G4.out
  have HSM : Hid _ := HSF.out m hml
  have hend : ∀ k, k ≤ m → 18 + (recsB (rs.take k)).length ≤ 10000 := by
    intro k hk
    have := (HSF.out k (by omega)).1
    omega
  clear HSF
  go_loopw [18, 19] (fun en i wr => ∃ k : Nat, k ≤ m ∧ i = .int .i64 k ∧ en = .int .i64 ((18 + (recsB (rs.take k)).length : Nat) : Int) ∧ wr = w5) (fun _ i _ => m - (intOf i).toNat)
  case atStart => exact ⟨0, Nat.zero_le _, rfl, rfl, rfl⟩
  case round =>
    obtain ⟨k, hk, rfl, rfl, rfl⟩ := hrel
    by_cases hlt : k < m
    · obtain ⟨b1, off, ha, hb, q0, q1, q2⟩ := Recs.at HR5.out (Nat.lt_trans hlt hml)
      subst ha
      have hnx := HNX.out k (by omega)
      have hen := hend (k + 1) (by omega)
      have hek := hend k (by omega)
      generalize rs[k] = r at *
      rw [hnx] at hen
      have HN : Hid _ := hnx
      clear hnx
      go_wp2
      go_roundw
      case rel => exact ⟨k + 1, by omega, by go_num, by rw [HN.out]; go_num, by trivial⟩
      case measure => simp [intOf]; omega
    · obtain rfl : k = m := by omega
      have hen := hend k (by omega)
      generalize 18 + (recsB (rs.take k)).length = E at *
      obtain ⟨hEL, hsf⟩ := HSM.out
      have HSE : Hid _ := hsf
      have HP2 : Hid (∀ W, _) := fun W => psome (L.take E ++ bh) 0 k W (by rw [List.length_append, List.length_take]; omega) (by omega) (by omega)
      have ex1 : (⟨L.toArray⟩ : ByteArray).extract 0 E = ⟨(L.take E).toArray⟩ := by
        apply ByteArray.ext
        rw [← Array.toList_inj, Lib.extract_data]
        simp
      have ex2 : (⟨(L.take E).toArray⟩ : ByteArray) ++ ⟨bh.toArray⟩ = ⟨(L.take E ++ bh).toArray⟩ := by
        apply ByteArray.ext
        simp
      clear hsf HSM hend HNX
      go_wp2_with fail
      refine (HP2.out _).mono ?_
      intro e w6 h6
      obtain ⟨af, cf, rfl, hRF, hg6⟩ := toldS_all h6 HSE.out
      have hkl : (rs.take k).length = k := by rw [List.length_take]; omega
      rw [hkl] at hRF ⊢
      have G6 : Hid (W2.grownBy w6 none) := gtrans G4.out hg6
      have R6 : Hid (Recs w6.heap.size w6 (.slice al rs.length cl) rs) := RS.out w6 G6.out
      have A6 : Hid (Recs w6.heap.size w6 (.slice aa rs.length ca) rs) := RA.out w6 hg6
      have F6 : Hid (Recs w6.heap.size w6 (.slice af k cf) (rs.take k)) := hRF
      clear d4
      obtain ⟨-, -, -, -, d4, -⟩ := box5 (SB.out w6 G6.out)
      clear h6 hRF hg6 HSE HP2
      go_wp2_with fail
      clear SB RS RA HR5 ex1 ex2 hL0 hr0
      go_loopw [22] (fun i wr => ∃ j : Nat, j ≤ k ∧ i = .int .i64 j ∧ ∃ d, wr = w6.drewN d) (fun i _ => k - (intOf i).toNat)
      case atStart => exact ⟨0, Nat.zero_le _, rfl, 0, rfl⟩
      case round =>
        obtain ⟨j, hj, rfl, d, rfl⟩ := hrel
        by_cases hjk : j < k
        · obtain ⟨b1, off1, ha1, hb1, q0, q1, q2⟩ := Recs.at R6.out (Nat.lt_trans hjk hml)
          obtain ⟨b2, off2, ha2, hb2, p0, p1, p2⟩ := Recs.at A6.out (Nat.lt_trans hjk hml)
          obtain ⟨b3, off3, ha3, hb3, o0, o1, o2⟩ := Recs.at F6.out (by rw [hkl]; exact hjk)
          rw [List.getElem_take] at o0 o1 o2
          subst ha1
          subst ha2
          subst ha3
          generalize rs[j] = r at *
          go_wp2
          go_quiet (fail)
          go_wp2
          go_roundw
          case rel => exact ⟨j + 1, by omega, by go_num, _, rfl⟩
          case measure => simp [intOf]; omega
        · go_wp2
          go_ret
          exact ⟨rfl, gdrewR (gtrans G2.out G6.out) d⟩
end Go.Proofs.Ytpopjmkipddpgab
