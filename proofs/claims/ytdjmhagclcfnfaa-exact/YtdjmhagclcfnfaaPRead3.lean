/- The program's reader: the end of a text. -/
import Derived.Test.YtdjmhagclcfnfaaPRead2
namespace Go.Proofs.Ytdjmhagclcfnfaa
open Go.RowKit Go.Shelf

/-- The end of a text, of which p bytes have been read: the error, if there is one. -/
def endR (l : List UInt8) (p : Nat) : Option Int :=
  if l.length < p + 4 then some 2 else if num ((l.drop p).take 4) ≠ crc (l.take p) then some 7 else if p + 4 < l.length then some 8 else none

set_option maxRecDepth 100000 in
set_option maxHeartbeats 1000000 in
theorem nothing_any (R : Nat) (l : List UInt8) (p : Nat) (w : World) (hr : Rd w R l p) (_hp : p ≤ l.length) (_hl : l.length ≤ 4611686018427387904) :
    Calls Try.prog 140 #[.pointer (some ⟨R, 0, none⟩)] w fun e w' => w.grownBy w' none ∧
      ((p < l.length ∧ e = .panicked (gave 8)) ∨ (l.length = p ∧ e = .returned (.tuple #[]))) := by
  have c1 := boxed_cell (i := 1) (v := .int .i64 l.length) hr.1 rfl
  have c2 := boxed_cell (i := 2) (v := .int .i64 p) hr.1 rfl
  clear hr
  by_cases h8 : p < l.length
  · have e2 : decide ((p : Int) < l.length) = true := by simp; omega
    go_enter Try.func140, Try.ntmps140
    go_wp2
    go_quiet (fail)
    go_wp2
    exact ⟨rfl, drew_grown w _ _, .inl ⟨h8, rfl⟩⟩
  · have e2 : decide ((p : Int) < l.length) = false := by simp; omega
    go_enter Try.func140, Try.ntmps140
    go_wp2
    go_quiet (fail)
    go_wp2
    go_end0
    exact ⟨drew_grown w _ _, .inr ⟨by omega, rfl⟩⟩

set_option maxRecDepth 100000 in
set_option maxHeartbeats 1000000 in
theorem pend (R : Nat) (l : List UInt8) (p : Nat) (w : World) (hr : Rd w R l p) (hp : p ≤ l.length) (hl : l.length ≤ 4611686018427387904) (_hp2 : p ≤ 100000) :
    Calls Try.prog 119 #[.pointer (some ⟨R, 0, none⟩)] w fun e w' => w.grownBy w' (some R) ∧
      ((∃ k, endR l p = some k ∧ e = .panicked (gave k)) ∨ (endR l p = none ∧ e = .returned (.tuple #[]))) := by
  have c3 := boxed_cell (i := 3) (v := .int .u32 (crcN (l.take p) : Nat)) hr.1 rfl
  have HR : Hid (Rd w R l p) := hr
  have HC : Hid (∀ W, _) := fun W => pchk_any (crcN (l.take p)) W (crcN_lt _)
  have HE0 : Hid (crcN (l.take p) ^^^ 4294967295 = crc (l.take p)) := rfl
  clear hr
  generalize crcN (l.take p) = x at *
  go_enter Try.func119, Try.ntmps119
  go_wp2_with fail
  refine (HC.out _).mono ?_
  rintro e w' ⟨rfl, rfl⟩
  rw [HE0.out]
  have hrd : Rd w' R l p := HR.out
  clear c3
  by_cases h4 : l.length < p + 4
  · have HT : Hid (∀ u : Unit, _) := fun _ => number_short R l p 4 w' hrd hp hl h4 (by omega)
    clear hrd
    have HE : Hid (endR l p = some 2) := by
      show _ = _
      rw [endR, if_pos h4]
    go_wp2_with (go_at_call 129; refine (HT.out ()).mono ?_; rintro e w1 ⟨rfl, hg1⟩)
    exact ⟨rfl, gnone hg1, .inl ⟨_, HE.out, rfl⟩⟩
  have HT : Hid (∀ u : Unit, _) := fun _ => number_ok R l p 4 w' hrd hl (by omega) (by omega)
  clear hrd
  by_cases h7 : num ((l.drop p).take 4) ≠ crc (l.take p)
  · have HE : Hid (endR l p = some 7) := by
      show _ = _
      rw [endR, if_neg h4, if_pos h7]
    generalize num ((l.drop p).take 4) = a at *
    generalize crc (l.take p) = b at *
    have e1 : ((a : Int) != (b : Int)) = true := by simp; omega
    go_wp2_with (go_at_call 129; refine (HT.out ()).mono ?_; rintro e w1 ⟨rfl, hr1, hg1⟩)
    exact ⟨rfl, hg1, .inl ⟨_, HE.out, rfl⟩⟩
  have HE2 : Hid (endR l p = if p + 4 < l.length then some 8 else none) := by
    show _ = _
    rw [endR, if_neg h4, if_neg h7]
  generalize num ((l.drop p).take 4) = a at *
  generalize crc (l.take p) = b at *
  have e1 : ((a : Int) != (b : Int)) = false := by simp; omega
  clear h7
  go_wp2_with (go_at_call 129; refine (HT.out ()).mono ?_; rintro e w1 ⟨rfl, hr1, hg1⟩; have HR1 : Hid (Rd w1 R l (p + 4)) := hr1; have HG : Hid _ := hg1; clear hr1 hg1)
  refine (nothing_any R l (p + 4) w1 HR1.out (by omega) hl).mono ?_
  rintro e w2 ⟨hg2, (⟨h8, rfl⟩ | ⟨h8, rfl⟩)⟩
  · exact ⟨rfl, gtrans HG.out (gnone hg2), .inl ⟨8, by rw [HE2.out, if_pos h8], rfl⟩⟩
  · have G2 : Hid (w'.grownBy w2 (some R)) := gtrans HG.out (gnone hg2)
    clear hg2
    go_wp2
    go_end0
    exact ⟨G2.out, .inr ⟨by rw [HE2.out, if_neg (by omega)], rfl⟩⟩
end Go.Proofs.Ytdjmhagclcfnfaa
