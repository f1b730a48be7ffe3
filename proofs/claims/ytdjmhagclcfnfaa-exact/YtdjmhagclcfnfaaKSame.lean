/- strandkeep's sameStream. -/
import Derived.Test.YtdjmhagclcfnfaaPFace
import Derived.Test.YtdjmhagclcfnfaaLWrites
namespace Go.Proofs.Ytdjmhagclcfnfaa
open Go.RowKit Go.Shelf

/-- The two boxes in which sameStream holds its arguments. -/
theorem two_boxes (w : World) (A B : Array Value) (t : TypeId) : ((w.alloc (.cells A t)).alloc (.cells B t)).heap[w.heap.size]? = some (.cells A t (0, 0)) ∧ ((w.alloc (.cells A t)).alloc (.cells B t)).heap[w.heap.size + 1]? = some (.cells B t (0, 0)) ∧ Below w.heap.size w ((w.alloc (.cells A t)).alloc (.cells B t)) := by
  refine ⟨(Below.heap_alloc _ _ _ (by simp)).trans (World.alloc_heap_new _ _), ?_, ((Below.refl _ _).alloc (Nat.le_refl _) _).alloc (by simp) _⟩
  have h := World.alloc_heap_new (w.alloc (.cells A t)) (.cells B t)
  rwa [World.size_alloc] at h

set_option maxRecDepth 100000 in
set_option maxHeartbeats 2000000 in
theorem ksame_eq (f t b z : Int) (sv sv' : Value) (rs : List Rc) (w : World) (hR : Recs w.heap.size w sv rs) (hR' : Recs w.heap.size w sv' rs) (hlen : rs.length ≤ 1000000) :
    Calls Try.prog 43 #[.agg #[.int .i64 f, .int .i64 t, .int .i64 b, .int .i64 z, sv], .agg #[.int .i64 f, .int .i64 t, .int .i64 b, .int .i64 z, sv']] w fun e w' => e = .returned (.bool true) ∧ w.grownBy w' none := by
  obtain ⟨a, c, rfl⟩ := hR.slice
  obtain ⟨a', c', rfl⟩ := hR'.slice
  go_enter Try.func43, Try.ntmps43
  go_wp2
  obtain ⟨h1, h2, hB⟩ := two_boxes w #[.int .i64 f, .int .i64 t, .int .i64 b, .int .i64 z, .slice a rs.length c] #[.int .i64 f, .int .i64 t, .int .i64 b, .int .i64 z, .slice a' rs.length c'] 24
  replace hR := hR.moved hB
  replace hR' := hR'.moved hB
  generalize (w.alloc (.cells #[.int .i64 f, .int .i64 t, .int .i64 b, .int .i64 z, .slice a rs.length c] 24)).alloc (.cells #[.int .i64 f, .int .i64 t, .int .i64 b, .int .i64 z, .slice a' rs.length c'] 24) = W0 at *
  have x0 := boxed_cell (i := 0) (v := .int .i64 f) h1 rfl
  have x1 := boxed_cell (i := 1) (v := .int .i64 t) h1 rfl
  have x2 := boxed_cell (i := 2) (v := .int .i64 b) h1 rfl
  have x3 := boxed_cell (i := 3) (v := .int .i64 z) h1 rfl
  have x4 := boxed_cell (i := 4) (v := .slice a rs.length c) h1 rfl
  have y0 := boxed_cell (i := 0) (v := .int .i64 f) h2 rfl
  have y1 := boxed_cell (i := 1) (v := .int .i64 t) h2 rfl
  have y2 := boxed_cell (i := 2) (v := .int .i64 b) h2 rfl
  have y3 := boxed_cell (i := 3) (v := .int .i64 z) h2 rfl
  have y4 := boxed_cell (i := 4) (v := .slice a' rs.length c') h2 rfl
  have HB : Hid _ := hB
  clear h1 h2 hB
  go_loopw [5] (fun i wr => ∃ k : Nat, k ≤ rs.length ∧ i = .int .i64 k ∧ ∃ n, wr = W0.drewN n) (fun i _ => rs.length - (intOf i).toNat)
  case atStart => exact ⟨0, Nat.zero_le _, rfl, 0, rfl⟩
  case round =>
    obtain ⟨k, hk, rfl, n, rfl⟩ := hrel
    by_cases hlt : k < rs.length
    · obtain ⟨b1, off, ha, hb, q0, q1, q2⟩ := hR.at hlt
      obtain ⟨b', off', ha', hb', q0', q1', q2'⟩ := hR'.at hlt
      subst ha
      subst ha'
      generalize rs[k] = r at *
      go_wp2
      go_quiet (fail)
      go_wp2
      go_roundw
      case rel => exact ⟨k + 1, by omega, by go_num, _, rfl⟩
      case measure => simp [intOf]; omega
    · go_wp2
      go_ret
      exact ⟨rfl, gdrewR (gbelow HB.out) n⟩
end Go.Proofs.Ytdjmhagclcfnfaa
