/- The program's isVolume, and changed. -/
import Derived.Test.YtkmeingnhaomaaaRApply2
namespace Go.Proofs.Ytkmeingnhaomaaa
open Go.RowKit Go.Shelf

set_option maxRecDepth 100000 in
set_option maxHeartbeats 1000000 in
theorem isVolume_any (sv : Value) (cs : List Cl) (b z : Nat) (w : World) (hR : Cls w.heap.size w sv cs) (hlen : cs.length ≤ 4611686018427387904) (hb : b ≤ 1000) :
    Calls Try.prog 59 #[sv, .int .i64 b, .int .i64 z] w fun e w' => e = .returned (.bool (volOk cs b z)) ∧ w.grownBy w' none := by
  obtain ⟨a, c, rfl⟩ := hR.slice
  have HR : Hid (∀ W, w.grownBy W none → _) := fun W h => Cls.moved hR (below_of_grown h)
  clear hR
  go_enter Try.func59, Try.ntmps59
  by_cases hl : cs.length = b
  · subst hl
    go_wp2
    go_loopw [15] (fun v wr => ∃ k : Nat, k ≤ cs.length ∧ v = .int .i64 k ∧ (cs.take k).all (fun c => decide (c.data.size = if c.held then z else 0)) = true ∧ w.grownBy wr none) (fun v _ => cs.length - (intOf v).toNat)
    case atStart => exact ⟨0, Nat.zero_le _, rfl, rfl, drew_grown _ 0 _⟩
    case round =>
      obtain ⟨k, hk, rfl, ha, hg⟩ := hrel
      by_cases hlt : k < cs.length
      · obtain ⟨b, off, e, hb', q0, q1⟩ := Cls.at (HR.out _ hg) hlt
        subst e
        have HN : Hid (decide (cs[k].data.size = if cs[k].held then z else 0) = true → (cs.take (k + 1)).all (fun c => decide (c.data.size = if c.held then z else 0)) = true) := fun h => by
          rw [List.take_succ_eq_append_getElem hlt, List.all_append, ha, Bool.true_and, List.all_cons, h]
          rfl
        have HF : Hid (decide (cs[k].data.size = if cs[k].held then z else 0) = false → volOk cs cs.length z = false) := fun h => by
          unfold volOk
          rw [Bool.and_eq_false_iff]
          right
          rw [List.all_eq_false]
          exact ⟨cs[k], List.getElem_mem hlt, by rw [h]; simp⟩
        have HG : Hid _ := hg
        clear ha hg
        generalize cs[k] = r at *
        go_wp2_with fail
        refine (filled_any _ _ _ _).mono ?_
        rintro e w1 ⟨rfl, rfl⟩
        have hx : (decide ((r.data.size : Int) = if r.held then (z : Int) else 0)) = decide (r.data.size = if r.held then z else 0) := by
          cases r.held <;> simp
          exact Int.ofNat_inj
        rw [hx]
        cases hgood : decide (r.data.size = if r.held then z else 0) with
        | true =>
          have H2 : Hid _ := HN.out hgood
          clear HN HF hgood hx
          go_wp2
          go_roundw
          case rel => exact ⟨k + 1, by omega, by go_num, H2.out, gallocR HG.out _⟩
          case measure => simp [intOf]; omega
        | false =>
          have H2 : Hid _ := HF.out hgood
          clear HN HF hgood hx
          go_wp2
          go_ret
          exact ⟨by rw [H2.out]; rfl, gallocR HG.out _⟩
      · rw [List.take_of_length_le (by omega)] at ha
        have H2 : Hid (volOk cs cs.length z = true) := by
          show _ = _
          unfold volOk
          rw [ha]
          simp
        have HG : Hid _ := hg
        clear ha hg
        go_wp2
        go_ret
        exact ⟨by rw [H2.out]; rfl, HG.out⟩
  · have hv : volOk cs b z = false := by simp [volOk, hl]
    rw [hv]
    have hne : ((cs.length : Int) != (b : Int)) = true := by simp; omega
    go_wp2
    go_ret
    exact ⟨rfl, drew_grown _ 0 _⟩

end Go.Proofs.Ytkmeingnhaomaaa
