/- The reference's Well. -/
import Derived.Test.YtdjmhagclcfnfabGreatRec
namespace Go.Proofs.YtdjmhagclcfnfabGreat
open Go.RowKit

/-- A record, as data. -/
structure Rc where
  free : Bool
  block : Int
  data : ByteArray

def Rc.val (r : Rc) : Value := .agg #[.bool r.free, .int .i64 r.block, .string r.data]

/-- The slice value sv holds the records rs, in a block below B; or there are none (a nil one, or one that is empty, wherever it lies). -/
def Recs (B : Nat) (W : World) (sv : Value) (rs : List Rc) : Prop :=
  (rs = [] ∧ ∃ a cap, sv = .slice a 0 cap) ∨ ∃ b off cap, sv = .slice (some ⟨b, off, none⟩) rs.length cap ∧ b < B ∧
    ∀ j (h : j < rs.length), W.cell? ⟨b, off + j * 3, none⟩ = some (.bool rs[j].free) ∧ W.cell? ⟨b, off + j * 3 + 1, none⟩ = some (.int .i64 rs[j].block) ∧ W.cell? ⟨b, off + j * 3 + 2, none⟩ = some (.string rs[j].data)

theorem Recs.below {B B' : Nat} {W W' : World} {sv : Value} {rs : List Rc} (h : Recs B W sv rs) (hb : Below B' W W') (hB : B ≤ B') : Recs B W' sv rs := by
  rcases h with h | ⟨b, off, cap, e, hlt, hc⟩
  · exact .inl h
  · refine .inr ⟨b, off, cap, e, hlt, fun j hj => ?_⟩
    obtain ⟨h0, h1, h2⟩ := hc j hj
    exact ⟨(hb.cell (p := ⟨b, _, none⟩) (Nat.lt_of_lt_of_le hlt hB)).trans h0, (hb.cell (p := ⟨b, _, none⟩) (Nat.lt_of_lt_of_le hlt hB)).trans h1, (hb.cell (p := ⟨b, _, none⟩) (Nat.lt_of_lt_of_le hlt hB)).trans h2⟩

def wellHead (f t b z : Int) : Bool := decide (0 ≤ f ∧ f ≤ 2147483647 ∧ 1 ≤ t ∧ t ≤ 2147483647 ∧ f ≠ t ∧ 1 ≤ b ∧ b ≤ 100 ∧ 1 ≤ z ∧ z ≤ 64)
def recOk (b z last : Int) (r : Rc) : Bool := decide (last < r.block ∧ r.block < b ∧ (r.data.size : Int) = if r.free then 0 else z)
def recsOk (b z : Int) : Int → List Rc → Bool
  | _, [] => true
  | last, r :: rs => recOk b z last r && recsOk b z r.block rs
def lastOf (last : Int) : List Rc → Int
  | [] => last
  | r :: rs => lastOf r.block rs

theorem recsOk_append (b z : Int) : ∀ (l : List Rc) (last : Int) (m : List Rc), recsOk b z last (l ++ m) = (recsOk b z last l && recsOk b z (lastOf last l) m)
  | [], _, _ => by simp [recsOk, lastOf]
  | r :: l, last, m => by simp [recsOk, lastOf, recsOk_append b z l, Bool.and_assoc]
theorem lastOf_snoc : ∀ (l : List Rc) (last : Int) (r : Rc), lastOf last (l ++ [r]) = r.block
  | [], _, _ => rfl
  | _ :: l, _, r => lastOf_snoc l _ r

end Go.Proofs.YtdjmhagclcfnfabGreat
