/- The reference's Well: a head that may be. -/
import Derived.Test.YtdjmhagclcfnfaaWell
namespace Go.Proofs.Ytdjmhagclcfnfaa
open Go.RowKit

set_option maxRecDepth 100000 in
set_option maxHeartbeats 4000000 in
theorem well_good (f t b z : Int) (sv : Value) (rs : List Rc) (w : World) (h : wellHead f t b z = true) (hr : Recs w.heap.size w sv rs) (hlen : rs.length ≤ 4611686018427387904) :
    Calls Try.prog 53 #[.agg #[.int .i64 f, .int .i64 t, .int .i64 b, .int .i64 z, sv]] w fun e w' => e = .returned (.bool (recsOk b z (-1) rs)) ∧ Below w.heap.size w w' := by
  obtain ⟨h1, h2, h3, h4, h5, h6, h7, h8, h9⟩ : 0 ≤ f ∧ f ≤ 2147483647 ∧ 1 ≤ t ∧ t ≤ 2147483647 ∧ f ≠ t ∧ 1 ≤ b ∧ b ≤ 100 ∧ 1 ≤ z ∧ z ≤ 64 := of_decide_eq_true h
  have d1 : decide (f < 0) = false := by simp; omega
  have d2 : decide (2147483647 < f) = false := by simp; omega
  have d3 : decide (t < 1) = false := by simp; omega
  have d4 : decide (2147483647 < t) = false := by simp; omega
  have d5 : (f == t) = false := by simp; omega
  have d6 : decide (b < 1) = false := by simp; omega
  have d7 : decide (100 < b) = false := by simp; omega
  have d8 : decide (z < 1) = false := by simp; omega
  have d9 : decide (64 < z) = false := by simp; omega
  clear h h5
  rcases hr with ⟨rfl, a, cap, rfl⟩ | ⟨bb, off, cap, rfl, hbb, hc⟩
  · go_enter Try.func53, Try.ntmps53
    go_wp2
    go_loop [4] (fun i => i = .int .i64 0) (fun _ => 0)
    case atStart => rfl
    case round =>
      subst hrel
      go_wp2
      go_ret
      exact ⟨rfl, (Below.refl _ _).alloc (Nat.le_refl _) _⟩
  · go_enter Try.func53, Try.ntmps53
    go_wp2
    generalize hO : (Obj.cells #[.int .i64 f, .int .i64 t, .int .i64 b, .int .i64 z, .slice (some ⟨bb, off, none⟩) rs.length cap] 24) = O
    have hB0 : Below w.heap.size w (w.alloc O) := (Below.refl _ _).alloc (Nat.le_refl _) _
    have c2 : (w.alloc O).cell? ⟨w.heap.size, 2, none⟩ = some (.int .i64 b) := by subst hO; simp [go_sem]
    have c3 : (w.alloc O).cell? ⟨w.heap.size, 3, none⟩ = some (.int .i64 z) := by subst hO; simp [go_sem]
    have c4 : (w.alloc O).cell? ⟨w.heap.size, 4, none⟩ = some (.slice (some ⟨bb, off, none⟩) rs.length cap) := by subst hO; simp [go_sem]
    have hsz : w.heap.size < (w.alloc O).heap.size := by simp
    clear hO
    generalize w.alloc O = W0 at *
    go_loopw [3, 4] (fun la i wr => ∃ k : Nat, k ≤ rs.length ∧ i = .int .i64 k ∧ la = .int .i64 (lastOf (-1) (rs.take k)) ∧ recsOk b z (-1) (rs.take k) = true ∧ Below W0.heap.size W0 wr) (fun _ i _ => rs.length - (intOf i).toNat)
    case atStart => exact ⟨0, Nat.zero_le _, rfl, rfl, rfl, Below.refl _ _⟩
    case round =>
      obtain ⟨k, hk, rfl, rfl, hok, hB⟩ := hrel
      have HOK : Hid _ := hok
      clear hok
      have g2 := (hB.cell (p := ⟨w.heap.size, 2, none⟩) hsz).trans c2
      have g3 := (hB.cell (p := ⟨w.heap.size, 3, none⟩) hsz).trans c3
      have g4 := (hB.cell (p := ⟨w.heap.size, 4, none⟩) hsz).trans c4
      have hsw : w.heap.size < wr.heap.size := Nat.lt_of_lt_of_le hsz hB.size
      by_cases hlt : k < rs.length
      · obtain ⟨q0, q1, q2⟩ := hc k hlt
        have hB2 := hB0.trans (hB.mono (Nat.le_of_lt hsz))
        replace q0 := (hB2.cell (p := ⟨bb, off + k * 3, none⟩) hbb).trans q0
        replace q1 := (hB2.cell (p := ⟨bb, off + k * 3 + 1, none⟩) hbb).trans q1
        replace q2 := (hB2.cell (p := ⟨bb, off + k * 3 + 2, none⟩) hbb).trans q2
        have hbw : bb < wr.heap.size := Nat.lt_of_lt_of_le hbb hB2.size
        have hts : rs.take (k + 1) = rs.take k ++ [rs[k]] := List.take_succ_eq_append_getElem hlt
        have HT : Hid (∀ x, recOk b z (lastOf (-1) (rs.take k)) rs[k] = x → recsOk b z (-1) (rs.take (k + 1)) = x) := by
          intro x hx
          rw [hts, recsOk_append, HOK.out]; simp [recsOk, hx]
        have HL : Hid (lastOf (-1) (rs.take (k + 1)) = rs[k].block) := by
          show _ = _
          rw [hts, lastOf_snoc]
        have HF : Hid (recsOk b z (-1) (rs.take (k + 1)) = false → recsOk b z (-1) rs = false) := by
          intro hx
          have := recsOk_append b z (rs.take (k + 1)) (-1) (rs.drop (k + 1))
          rw [List.take_append_drop, hx] at this
          simpa using this
        clear hts hc
        generalize hr : rs[k] = r at *
        generalize lastOf (-1) (rs.take k) = la at *
        clear hr
        obtain ⟨fr, bl, da⟩ := r
        dsimp only at q0 q1 q2
        cases fr
        · have H' : (decide (bl ≤ la) = true) ∨ (decide (bl ≤ la) = false ∧ decide (b ≤ bl) = true) ∨ (decide (bl ≤ la) = false ∧ decide (b ≤ bl) = false ∧ ((da.size : Int) != z) = true) ∨ (decide (bl ≤ la) = false ∧ decide (b ≤ bl) = false ∧ ((da.size : Int) != z) = false) := by
            simp only [bne_iff_ne, bne_eq_false_iff_eq, decide_eq_true_eq, decide_eq_false_iff_not]
            omega
          rcases H' with e1 | ⟨e1, e2⟩ | ⟨e1, e2, e3⟩ | ⟨e1, e2, e3⟩
          case inr.inr.inr =>
            have hrk : recOk b z la ⟨false, bl, da⟩ = true := by
              simp only [bne_eq_false_iff_eq, decide_eq_false_iff_not] at e1 e2 e3
              exact decide_eq_true ⟨by dsimp only; omega, by dsimp only; omega, e3⟩
            have HR : Hid _ := HT.out _ hrk
            clear hrk
            go_wp2
            go_roundw
            case rel => exact ⟨k + 1, by omega, by go_num, by rw [HL.out], HR.out, (hB.alloc hB.size _)⟩
            case measure => simp [intOf]; omega
          all_goals
            have hrk : recOk b z la ⟨false, bl, da⟩ = false := by
              simp only [bne_iff_ne, decide_eq_true_eq, decide_eq_false_iff_not] at *
              refine decide_eq_false ?_
              rintro ⟨k1, k2, k3⟩
              dsimp only at k1 k2
              first | omega | exact e3 k3
            have HR : Hid _ := HF.out (HT.out _ hrk)
            clear hrk
            go_wp2
            go_ret
            rw [HR.out]
            exact ⟨rfl, hB2.alloc hB2.size _⟩
        · have H' : (decide (bl ≤ la) = true) ∨ (decide (bl ≤ la) = false ∧ decide (b ≤ bl) = true) ∨ (decide (bl ≤ la) = false ∧ decide (b ≤ bl) = false ∧ ((da.size : Int) != 0) = true) ∨ (decide (bl ≤ la) = false ∧ decide (b ≤ bl) = false ∧ ((da.size : Int) != 0) = false) := by
            simp only [bne_iff_ne, bne_eq_false_iff_eq, decide_eq_true_eq, decide_eq_false_iff_not]
            omega
          rcases H' with e1 | ⟨e1, e2⟩ | ⟨e1, e2, e3⟩ | ⟨e1, e2, e3⟩
          case inr.inr.inr =>
            have hrk : recOk b z la ⟨true, bl, da⟩ = true := by
              simp only [bne_eq_false_iff_eq, decide_eq_false_iff_not] at e1 e2 e3
              exact decide_eq_true ⟨by dsimp only; omega, by dsimp only; omega, e3⟩
            have HR : Hid _ := HT.out _ hrk
            clear hrk
            go_wp2
            go_roundw
            case rel => exact ⟨k + 1, by omega, by go_num, by rw [HL.out], HR.out, (hB.alloc hB.size _)⟩
            case measure => simp [intOf]; omega
          all_goals
            have hrk : recOk b z la ⟨true, bl, da⟩ = false := by
              simp only [bne_iff_ne, decide_eq_true_eq, decide_eq_false_iff_not] at *
              refine decide_eq_false ?_
              rintro ⟨k1, k2, k3⟩
              dsimp only at k1 k2
              first | omega | exact e3 k3
            have HR : Hid _ := HF.out (HT.out _ hrk)
            clear hrk
            go_wp2
            go_ret
            rw [HR.out]
            exact ⟨rfl, hB2.alloc hB2.size _⟩
      · obtain rfl : k = rs.length := by omega
        go_wp2
        go_ret
        have := HOK.out
        rw [List.take_length] at this
        rw [this]
        exact ⟨rfl, hB0.trans (hB.mono (Nat.le_of_lt hsz))⟩
end Go.Proofs.Ytdjmhagclcfnfaa
