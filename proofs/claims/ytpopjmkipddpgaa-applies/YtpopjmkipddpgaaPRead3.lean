/- The program's reader: the end of a text. -/
import Derived.Test.YtpopjmkipddpgaaPRead2
namespace Go.Proofs.Ytpopjmkipddpgaa
open Go.RowKit Go.Shelf

/-- The end of a text, of which p bytes have been read: the error, if there is one. -/
def endR (l : List UInt8) (p : Nat) : Option Int :=
  if l.length < p + 4 then some 2 else if num ((l.drop p).take 4) ≠ crc (l.take p) then some 7 else if p + 4 < l.length then some 8 else none

theorem pcheck_at (s : ByteArray) (L : List UInt8) (w : World) (h : s.data.toList = L) (hs : L.length ≤ 100000) :
    Calls Try.prog 67 #[.string s] w fun e w' => e = .returned (.int .u32 (crc L : Nat)) ∧ w' = w := by
  subst h
  exact pcheck_any s w hs

set_option maxRecDepth 100000 in
set_option maxHeartbeats 1000000 in
theorem pend (R : Nat) (l : List UInt8) (p : Nat) (w : World) (hr : Rd w R l p) (hp : p ≤ l.length) (hl : l.length ≤ 4611686018427387904) (hp2 : p ≤ 100000) :
    Calls Try.prog 79 #[.pointer (some ⟨R, 0, none⟩)] w fun e w' => w.grownBy w' (some R) ∧
      ((∃ k, endR l p = some k ∧ e = .panicked (gave k)) ∨ (endR l p = none ∧ e = .returned (.tuple #[]))) := by
  have c0 := boxed_cell (i := 0) (v := .string ⟨l.toArray⟩) hr rfl
  have c1 := boxed_cell (i := 1) (v := .int .i64 p) hr rfl
  have HR : Hid _ := hr
  clear hr
  have hle : (p : Int) ≤ l.length := by omega
  go_enter Try.func79, Try.ntmps79
  go_wp2
  go_region_held3 (fun w' => w'.cell? ⟨R, 0, none⟩ = some (.string ⟨l.toArray⟩) ∧ w'.cell? ⟨R, 1, none⟩ = some (.int .i64 p) ∧ w.grownBy w' none)
    (first | exact ⟨c0, c1, drew_grown _ _ _⟩ | assumption)
    (first | (go_at_call 67; refine (pcheck_at _ (l.take p) _ ?_ ?_).mono ?_; (rw [Lib.extract_data]; simp); (simp; omega); rintro e w' ⟨rfl, rfl⟩))
  have hrd : Rd w.drew R l p := HR.out
  clear c0 c1
  by_cases h4 : l.length < p + 4
  · have HT : Hid (∀ u : Unit, _) := fun _ => number_short R l p 4 w.drew hrd hp hl h4 (by omega)
    clear hrd
    have HE : Hid (endR l p = some 2) := by
      show _ = _
      rw [endR, if_pos h4]
    go_wp2_with (go_at_call 75; refine (HT.out ()).mono ?_; rintro e w1 ⟨rfl, hg1⟩)
    exact ⟨rfl, gtrans (drew_grown w 1 _) (gnone hg1), .inl ⟨_, HE.out, rfl⟩⟩
  have HT : Hid (∀ u : Unit, _) := fun _ => number_ok R l p 4 w.drew hrd hl (by omega) (by omega)
  clear hrd
  by_cases h7 : num ((l.drop p).take 4) ≠ crc (l.take p)
  · have HE : Hid (endR l p = some 7) := by
      show _ = _
      rw [endR, if_neg h4, if_pos h7]
    generalize num ((l.drop p).take 4) = a at *
    generalize crc (l.take p) = b at *
    have e1 : ((a : Int) != (b : Int)) = true := by simp; omega
    go_wp2_with (go_at_call 75; refine (HT.out ()).mono ?_; rintro e w1 ⟨rfl, hr1, hg1⟩)
    exact ⟨rfl, gtrans (drew_grown w 1 _) hg1, .inl ⟨_, HE.out, rfl⟩⟩
  have HE2 : Hid (endR l p = if p + 4 < l.length then some 8 else none) := by
    show _ = _
    rw [endR, if_neg h4, if_neg h7]
  generalize num ((l.drop p).take 4) = a at *
  generalize crc (l.take p) = b at *
  have e1 : ((a : Int) != (b : Int)) = false := by simp; omega
  clear h7
  have HL : Hid (∀ W, Rd W R l (p + 4) → W.cell? ⟨R, 0, none⟩ = some (.string ⟨l.toArray⟩) ∧ W.cell? ⟨R, 1, none⟩ = some (.int .i64 ((p : Int) + 4))) := fun W h => ⟨boxed_cell (i := 0) h rfl, boxed_cell (i := 1) h rfl⟩
  by_cases h8 : p + 4 < l.length
  · have HE : Hid (endR l p = some 8) := by
      show _ = _
      rw [HE2.out, if_pos h8]
    have e2 : decide ((p : Int) + 4 < l.length) = true := by simp; omega
    go_wp2_with (go_at_call 75; refine (HT.out ()).mono ?_; rintro e w1 ⟨rfl, hr1, hg1⟩; obtain ⟨c0, c1⟩ := HL.out _ hr1; have HG : Hid _ := hg1; clear hr1 hg1)
    go_quiet (fail)
    go_wp2
    exact ⟨rfl, gdrewR (gtrans (drew_grown w 1 _) HG.out) _, .inl ⟨_, HE.out, rfl⟩⟩
  · have HE : Hid (endR l p = none) := by
      show _ = _
      rw [HE2.out, if_neg h8]
    have e2 : decide ((p : Int) + 4 < l.length) = false := by simp; omega
    go_wp2_with (go_at_call 75; refine (HT.out ()).mono ?_; rintro e w1 ⟨rfl, hr1, hg1⟩; obtain ⟨c0, c1⟩ := HL.out _ hr1; have HG : Hid _ := hg1; clear hr1 hg1)
    go_quiet (fail)
    go_wp2
    go_end0
    exact ⟨gdrewR (gtrans (drew_grown w 1 _) HG.out) _, .inr ⟨HE.out, rfl⟩⟩
end Go.Proofs.Ytpopjmkipddpgaa
