/- The law Writes. -/
import Derived.Test.YtdjmhagclcfnfaaPSer
import Derived.Deep.QuietTactic
import Derived.BigQuiet
namespace Go.Proofs.Ytdjmhagclcfnfaa
open Go.RowKit Go.Shelf

set_option maxRecDepth 100000 in
set_option maxHeartbeats 1000000 in
/-- sameRecords of two lists that hold the same. -/
theorem same_any (sv sv' : Value) (rs : List Rc) (w : World) (hR : Recs w.heap.size w sv rs) (hR' : Recs w.heap.size w sv' rs) (hlen : rs.length ≤ 4611686018427387904) :
    Calls Try.prog 20 #[sv, sv'] w fun e w' => e = .returned (.bool true) ∧ ∃ n, w' = w.drewN n := by
  obtain ⟨a, c, rfl⟩ := hR.slice
  obtain ⟨a', c', rfl⟩ := hR'.slice
  go_enter Try.func20, Try.ntmps20
  go_wp2
  go_loopw [5] (fun i wr => ∃ k : Nat, k ≤ rs.length ∧ i = .int .i64 k ∧ ∃ n, wr = w.drewN n) (fun i _ => rs.length - (intOf i).toNat)
  case atStart => exact ⟨0, Nat.zero_le _, rfl, 0, rfl⟩
  case round =>
    obtain ⟨k, hk, rfl, n, rfl⟩ := hrel
    by_cases hlt : k < rs.length
    · obtain ⟨b, off, ha, hb, q0, q1, q2⟩ := hR.at hlt
      obtain ⟨b', off', ha', hb', q0', q1', q2'⟩ := hR'.at hlt
      subst ha
      subst ha'
      generalize rs[k] = r at *
      go_wp2
      go_quiet (fail)
      go_wp2
      go_roundw
      case rel => exact ⟨k + 1, by omega, by go_num, _, rfl⟩
      case measure => simp [intOf]; omega
    · go_wp2
      go_ret
      exact ⟨rfl, n, rfl⟩
end Go.Proofs.Ytdjmhagclcfnfaa
