/- strandlaw's keptRecords. -/
import Derived.Test.YtdjmhagclcfnfaaLOwn2
namespace Go.Proofs.Ytdjmhagclcfnfaa
open Go.RowKit Go.Shelf

theorem Marked.below {N : Nat} {W W' : World} {vo : Value} {m : Int} {n : Nat} (h : Marked N W vo m n) (hb : Below N W W') : Marked N W' vo m n := by
  obtain ⟨g, cap, ss, e, hg, hl, hc⟩ := h
  exact ⟨g, cap, ss, e, hg, hl, fun j hj => ⟨(hb.cell (p := ⟨g, j, none⟩) hg).trans (hc j hj).1, (hc j hj).2.below hb.block⟩⟩
theorem Old.slice {N : Nat} {W : World} {s : Value} {xs : List Rc} (h : Old N W s xs) : ∃ a cap, s = .slice a xs.length cap := by
  rcases h with ⟨rfl, a, cap, e⟩ | ⟨b, cap, e, _⟩
  · exact ⟨a, cap, e⟩
  · exact ⟨_, cap, e⟩

set_option maxRecDepth 100000 in
set_option maxHeartbeats 1000000 in
theorem keptRecords_any (vo : Value) (m : Int) (n N : Nat) (w : World) (h : Marked N w vo m n) (hn : n ≤ 1000) :
    Calls Try.prog 17 #[vo, .int .i64 m] w fun e w' => e = .returned (.bool true) ∧ w.grownBy w' none := by
  obtain ⟨g, cap, ss, rfl, hg, hl, hc⟩ := h
  have HC : Hid _ := hc
  clear hc
  go_enter Try.func17, Try.ntmps17
  go_wp2
  go_loop [5] (fun i => ∃ k : Nat, k ≤ 4 ∧ i = .int .i64 k) (fun i => 4 - (intOf i).toNat)
  case atStart => exact ⟨0, by omega, rfl⟩
  case round =>
    obtain ⟨k, hk, rfl⟩ := hrel
    by_cases hlt : k < 4
    · obtain ⟨q, hold⟩ := HC.out k (by omega)
      obtain ⟨a, c, hs⟩ := hold.slice
      rw [List.length_replicate] at hs
      rw [hs] at q hold
      have HO : Hid _ := hold
      clear hold hs
      go_wp2
      go_loop [6] (fun i => ∃ j : Nat, j ≤ n + k ∧ i = .int .i64 j) (fun i => n + k - (intOf i).toNat)
      case atStart => exact ⟨0, by omega, rfl⟩
      case round =>
        obtain ⟨j, hj, rfl⟩ := hrel
        by_cases hjt : j < n + k
        · obtain ⟨b, rfl, o0, o1, o2⟩ : ∃ b, a = some ⟨b, 0, none⟩ ∧ w.cell? ⟨b, j * 3, none⟩ = some (.bool false) ∧ w.cell? ⟨b, j * 3 + 1, none⟩ = some (.int .i64 m) ∧ w.cell? ⟨b, j * 3 + 2, none⟩ = some (.string ⟨#[]⟩) := by
            rcases HO.out with ⟨h0, _⟩ | ⟨b, cap', e, _, hcs⟩
            · have := congrArg List.length h0
              simp at this
              omega
            · simp only [Value.slice.injEq] at e
              obtain ⟨h0, h1, h2⟩ := hcs j (by simpa using hjt)
              simp only [List.getElem_replicate] at h0 h1 h2
              exact ⟨b, e.1, h0, h1, h2⟩
          go_wp2
          go_round
          case rel => exact ⟨j + 1, by omega, by go_num⟩
          case measure => simp [intOf]; omega
        · go_wp2
          go_round
          case rel => exact ⟨k + 1, by omega, by go_num⟩
          case measure => simp [intOf]; omega
    · go_wp2
      go_ret
      exact ⟨rfl, drew_grown w 0 none⟩
end Go.Proofs.Ytdjmhagclcfnfaa
