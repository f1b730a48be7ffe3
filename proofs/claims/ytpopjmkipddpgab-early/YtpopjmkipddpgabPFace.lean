/- The program's face: what is given up is recovered. -/
import Derived.Test.YtpopjmkipddpgabPParse
namespace Go.Proofs.Ytpopjmkipddpgab
open Go.RowKit Go.Shelf

theorem assert_errno (w : World) (v : Value) : (Instr.typeAssert (.iface 30 v) 20 30 true).run Try.prog w = .ok (.tuple #[v, .bool true]) w := by
  simp [Instr.typeAssert, run_underlying Try.underlying30, go_sem, Result.andThen]

set_option maxRecDepth 100000 in
set_option maxHeartbeats 400000 in
theorem reason_any (k : Int) (w : World) :
    Calls Try.prog 20 #[.iface 30 (.int .i64 k)] w fun e w' => e = .returned (.int .i64 k) ∧ w' = w := by
  have ha := assert_errno w (.int .i64 k)
  go_enter Try.func20, Try.ntmps20
  go_wp2
  go_ret
  exact ⟨rfl, rfl⟩

/-- How a reading ends, as Parse tells it. -/
def Told (l : List UInt8) (w : World) (e : Ending) (w' : World) : Prop :=
  w.grownBy w' none ∧
    ((∃ k, parseR l = .inl k ∧ e = .returned (.tuple #[.agg #[.int .i64 0, .int .i64 0, .int .i64 0, .int .i64 0, .slice none 0 0], .int .i64 k])) ∨
     (∃ f t b z rs v, parseR l = .inr (f, t, b, z, rs) ∧ e = .returned (.tuple #[.agg #[.int .i64 (f : Nat), .int .i64 (t : Nat), .int .i64 (b : Nat), .int .i64 (z : Nat), v], .int .i64 0]) ∧ OwnsR w.heap.size w' v rs))

end Go.Proofs.Ytpopjmkipddpgab
