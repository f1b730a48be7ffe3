/- The reference's Well. -/
import Derived.Test.YtdjmhagclcfnfaaRec
namespace Go.Proofs.Ytdjmhagclcfnfaa
open Go.RowKit

/-- A record, as data. -/
structure Rc where
  free : Bool
  block : Int
  data : ByteArray

def Rc.val (r : Rc) : Value := .agg #[.bool r.free, .int .i64 r.block, .string r.data]

/-- The slice value sv holds the records rs, in a block below B; or there are none (a nil one, or one that is empty, wherever it lies). -/
def Recs (B : Nat) (W : World) (sv : Value) (rs : List Rc) : Prop :=
  (rs = [] ∧ ∃ a cap, sv = .slice a 0 cap) ∨ ∃ b off cap, sv = .slice (some ⟨b, off, none⟩) rs.length cap ∧ b < B ∧
    ∀ j (h : j < rs.length), W.cell? ⟨b, off + j * 3, none⟩ = some (.bool rs[j].free) ∧ W.cell? ⟨b, off + j * 3 + 1, none⟩ = some (.int .i64 rs[j].block) ∧ W.cell? ⟨b, off + j * 3 + 2, none⟩ = some (.string rs[j].data)

theorem Recs.below {B B' : Nat} {W W' : World} {sv : Value} {rs : List Rc} (h : Recs B W sv rs) (hb : Below B' W W') (hB : B ≤ B') : Recs B W' sv rs := by
  rcases h with h | ⟨b, off, cap, e, hlt, hc⟩
  · exact .inl h
  · refine .inr ⟨b, off, cap, e, hlt, fun j hj => ?_⟩
    obtain ⟨h0, h1, h2⟩ := hc j hj
    exact ⟨(hb.cell (p := ⟨b, _, none⟩) (Nat.lt_of_lt_of_le hlt hB)).trans h0, (hb.cell (p := ⟨b, _, none⟩) (Nat.lt_of_lt_of_le hlt hB)).trans h1, (hb.cell (p := ⟨b, _, none⟩) (Nat.lt_of_lt_of_le hlt hB)).trans h2⟩

def wellHead (f t b z : Int) : Bool := decide (0 ≤ f ∧ f ≤ 2147483647 ∧ 1 ≤ t ∧ t ≤ 2147483647 ∧ f ≠ t ∧ 1 ≤ b ∧ b ≤ 100 ∧ 1 ≤ z ∧ z ≤ 64)
def recOk (b z last : Int) (r : Rc) : Bool := decide (last < r.block ∧ r.block < b ∧ (r.data.size : Int) = if r.free then 0 else z)
def recsOk (b z : Int) : Int → List Rc → Bool
  | _, [] => true
  | last, r :: rs => recOk b z last r && recsOk b z r.block rs
def lastOf (last : Int) : List Rc → Int
  | [] => last
  | r :: rs => lastOf r.block rs

theorem recsOk_append (b z : Int) : ∀ (l : List Rc) (last : Int) (m : List Rc), recsOk b z last (l ++ m) = (recsOk b z last l && recsOk b z (lastOf last l) m)
  | [], _, _ => by simp [recsOk, lastOf]
  | r :: l, last, m => by simp [recsOk, lastOf, recsOk_append b z l, Bool.and_assoc]
theorem lastOf_snoc : ∀ (l : List Rc) (last : Int) (r : Rc), lastOf last (l ++ [r]) = r.block
  | [], _, _ => rfl
  | _ :: l, _, r => lastOf_snoc l _ r

set_option maxRecDepth 100000 in
set_option maxHeartbeats 4000000 in
theorem well_bad (f t b z : Int) (a : Option Addr) (l c : Nat) (w : World) (h : wellHead f t b z = false) :
    Calls Try.prog 53 #[.agg #[.int .i64 f, .int .i64 t, .int .i64 b, .int .i64 z, .slice a l c]] w fun e w' => e = .returned (.bool false) ∧ Below w.heap.size w w' := by
  have H : Hid (¬ (0 ≤ f ∧ f ≤ 2147483647 ∧ 1 ≤ t ∧ t ≤ 2147483647 ∧ f ≠ t ∧ 1 ≤ b ∧ b ≤ 100 ∧ 1 ≤ z ∧ z ≤ 64)) := of_decide_eq_false h
  clear h
  have H' : (decide (f < 0) = true)
      ∨ (decide (f < 0) = false ∧ decide (2147483647 < f) = true)
      ∨ (decide (f < 0) = false ∧ decide (2147483647 < f) = false ∧ decide (t < 1) = true)
      ∨ (decide (f < 0) = false ∧ decide (2147483647 < f) = false ∧ decide (t < 1) = false ∧ decide (2147483647 < t) = true)
      ∨ (decide (f < 0) = false ∧ decide (2147483647 < f) = false ∧ decide (t < 1) = false ∧ decide (2147483647 < t) = false ∧ (f == t) = true)
      ∨ (decide (f < 0) = false ∧ decide (2147483647 < f) = false ∧ decide (t < 1) = false ∧ decide (2147483647 < t) = false ∧ (f == t) = false ∧ decide (b < 1) = true)
      ∨ (decide (f < 0) = false ∧ decide (2147483647 < f) = false ∧ decide (t < 1) = false ∧ decide (2147483647 < t) = false ∧ (f == t) = false ∧ decide (b < 1) = false ∧ decide (100 < b) = true)
      ∨ (decide (f < 0) = false ∧ decide (2147483647 < f) = false ∧ decide (t < 1) = false ∧ decide (2147483647 < t) = false ∧ (f == t) = false ∧ decide (b < 1) = false ∧ decide (100 < b) = false ∧ decide (z < 1) = true)
      ∨ (decide (f < 0) = false ∧ decide (2147483647 < f) = false ∧ decide (t < 1) = false ∧ decide (2147483647 < t) = false ∧ (f == t) = false ∧ decide (b < 1) = false ∧ decide (100 < b) = false ∧ decide (z < 1) = false ∧ decide (64 < z) = true) := by
    have := H.out
    simp only [beq_iff_eq, beq_eq_false_iff_ne, decide_eq_true_eq, decide_eq_false_iff_not]
    omega
  clear H
  rcases H' with h1 | ⟨h1, h2⟩ | ⟨h1, h2, h3⟩ | ⟨h1, h2, h3, h4⟩ | ⟨h1, h2, h3, h4, h5⟩ | ⟨h1, h2, h3, h4, h5, h6⟩ | ⟨h1, h2, h3, h4, h5, h6, h7⟩ | ⟨h1, h2, h3, h4, h5, h6, h7, h8⟩ | ⟨h1, h2, h3, h4, h5, h6, h7, h8, h9⟩
  all_goals
    go_enter Try.func53, Try.ntmps53
    go_wp2
    go_ret
    exact ⟨rfl, (Below.refl _ _).alloc (Nat.le_refl _) _⟩

end Go.Proofs.Ytdjmhagclcfnfaa
