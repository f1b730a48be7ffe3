/- The reference's ends, and Parse. -/
import Derived.Test.YtdjmhagclcfnfaaRRecs
namespace Go.Proofs.Ytdjmhagclcfnfaa
open Go.RowKit Go.Shelf

theorem check_at (s : ByteArray) (L : List UInt8) (w : World) (h : s.data.toList = L) (hs : L.length ≤ 100000) :
    Calls Try.prog 56 #[.string s] w fun e w' => e = .returned (.string ⟨(lowB (crc L) 4).toArray⟩) ∧ Below w.heap.size w w' := by
  have := check_list L w hs
  rwa [show (⟨L.toArray⟩ : ByteArray) = s from by rw [← h]] at this

theorem four (q : List UInt8) (c : Nat) (h : 4 ≤ q.length) (hc : c < 2 ^ 32) : q.take 4 = lowB c 4 ↔ num (q.take 4) = c := by
  have hl : (q.take 4).length = 4 := by simp; omega
  constructor
  · intro e
    rw [e, num_lowB]
    omega
  · intro e
    have := lowB_num (q.take 4)
    rw [hl, e] at this
    exact this.symm

set_option maxRecDepth 100000 in
set_option maxHeartbeats 1000000 in
theorem rends (l : List UInt8) (p : Nat) (w : World) (hp : p ≤ l.length) (hl : l.length ≤ 4611686018427387904) (hp2 : p ≤ 100000) :
    Calls Try.prog 47 #[.string ⟨l.toArray⟩, .string ⟨(l.drop p).toArray⟩] w fun e w' => e = .returned (.int .i64 ((endR l p).getD 0)) ∧ w.grownBy w' none := by
  have hdl : (l.drop p).length = l.length - p := by simp
  have hcr := crc_lt (l.take p)
  have HC : Hid (∀ s : ByteArray, s.data.toList = l.take p → ∀ W, _) := fun s hs W => check_at s (l.take p) W hs (by simp; omega)
  by_cases h4 : l.length < p + 4
  · have HE : Hid (endR l p = some 2) := by
      show _ = _
      rw [endR, if_pos h4]
    have e4 : decide ((l.drop p).length < 4) = true := by rw [hdl]; simp; omega
    go_enter Try.func47, Try.ntmps47
    go_wp2
    go_ret
    exact ⟨by rw [HE.out]; rfl, drew_grown w 0 none⟩
  have e4 : decide ((l.drop p).length < 4) = false := by rw [hdl]; simp; omega
  have he4 : ((⟨(l.drop p).toArray⟩ : ByteArray).extract 0 4).toList = (l.drop p).take 4 := by
    rw [ByteArray.toList_eq, Lib.extract_data]
    simp
  have hex : ((⟨l.toArray⟩ : ByteArray).extract 0 (l.length - (l.length - p))).data.toList = l.take p := by
    rw [Lib.extract_data, show l.length - (l.length - p) = p from by omega]
    simp
  have HX : Hid _ := hex
  clear hex
  have hfour := four (l.drop p) (crc (l.take p)) (by omega) hcr
  by_cases h7 : num ((l.drop p).take 4) ≠ crc (l.take p)
  · have HE : Hid (endR l p = some 7) := by
      show _ = _
      rw [endR, if_neg h4, if_pos h7]
    have e7 : (((⟨(l.drop p).toArray⟩ : ByteArray).extract 0 4).toList == lowB (crc (l.take p)) 4) = false := by
      rw [he4, beq_eq_false_iff_ne]
      exact fun e => h7 (hfour.1 e)
    clear he4 hfour h7 hcr
    go_enter Try.func47, Try.ntmps47
    go_wp2
    go_region_held3 (fun w' => w.grownBy w' none)
      (first | exact drew_grown w 1 none | exact gtrans (by assumption) (gbelow hb1))
      (first | (go_at_call 56; refine (HC.out _ HX.out _).mono ?_; rintro e w1 ⟨rfl, hb1⟩))
    all_goals
      go_wp2
      go_ret
      exact ⟨by rw [HE.out]; rfl, by first | assumption | exact gtrans (by assumption) (gbelow hb1)⟩
  have h7' : num ((l.drop p).take 4) = crc (l.take p) := by simpa using h7
  have e7 : (((⟨(l.drop p).toArray⟩ : ByteArray).extract 0 4).toList == lowB (crc (l.take p)) 4) = true := by
    rw [he4, beq_iff_eq]
    exact hfour.2 h7'
  clear he4 hfour hcr
  by_cases h8 : p + 4 < l.length
  · have HE : Hid (endR l p = some 8) := by
      show _ = _
      rw [endR, if_neg h4, if_neg h7, if_pos h8]
    have e8 : decide (4 < (l.drop p).length) = true := by rw [hdl]; simp; omega
    clear h7 h7'
    go_enter Try.func47, Try.ntmps47
    go_wp2
    go_region_held3 (fun w' => w.grownBy w' none)
      (first | exact drew_grown w 1 none | exact gtrans (by assumption) (gbelow hb1))
      (first | (go_at_call 56; refine (HC.out _ HX.out _).mono ?_; rintro e w1 ⟨rfl, hb1⟩))
    all_goals
      go_wp2
      go_ret
      exact ⟨by rw [HE.out]; rfl, by first | assumption | exact gtrans (by assumption) (gbelow hb1)⟩
  · have HE : Hid (endR l p = none) := by
      show _ = _
      rw [endR, if_neg h4, if_neg h7, if_neg h8]
    have e8 : decide (4 < (l.drop p).length) = false := by rw [hdl]; simp; omega
    clear h7 h7'
    go_enter Try.func47, Try.ntmps47
    go_wp2
    go_region_held3 (fun w' => w.grownBy w' none)
      (first | exact drew_grown w 1 none | exact gtrans (by assumption) (gbelow hb1))
      (first | (go_at_call 56; refine (HC.out _ HX.out _).mono ?_; rintro e w1 ⟨rfl, hb1⟩))
    all_goals
      go_wp2
      go_ret
      exact ⟨by rw [HE.out]; rfl, by first | assumption | exact gtrans (by assumption) (gbelow hb1)⟩
end Go.Proofs.Ytdjmhagclcfnfaa
