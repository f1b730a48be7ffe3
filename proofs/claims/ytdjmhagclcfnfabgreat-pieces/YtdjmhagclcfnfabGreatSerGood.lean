/- The reference's Serialize, of a stream that is well made. -/
import Derived.Test.YtdjmhagclcfnfabGreatSer
namespace Go.Proofs.YtdjmhagclcfnfabGreat
open Go.RowKit

theorem Recs.moved {W W' : World} {sv : Value} {rs : List Rc} (h : Recs W.heap.size W sv rs) (hb : Below W.heap.size W W') : Recs W'.heap.size W' sv rs := by
  rcases h.below hb (Nat.le_refl _) with e | ⟨b, off, cap, e, h1, h2⟩
  · exact .inl e
  · exact .inr ⟨b, off, cap, e, Nat.lt_of_lt_of_le h1 hb.size, h2⟩

theorem Recs.slice {B : Nat} {W : World} {sv : Value} {rs : List Rc} (h : Recs B W sv rs) : ∃ a cap, sv = .slice a rs.length cap := by
  rcases h with ⟨rfl, a, cap, e⟩ | ⟨b, off, cap, e, _⟩
  · exact ⟨a, cap, e⟩
  · exact ⟨_, _, e⟩
/-- The cells of one of the records. -/
theorem Recs.at {B : Nat} {W : World} {a : Option Addr} {l cap : Nat} {rs : List Rc} (h : Recs B W (.slice a l cap) rs) {k : Nat} (hk : k < rs.length) :
    ∃ b off, a = some ⟨b, off, none⟩ ∧ b < B ∧ W.cell? ⟨b, off + k * 3, none⟩ = some (.bool rs[k].free) ∧ W.cell? ⟨b, off + k * 3 + 1, none⟩ = some (.int .i64 rs[k].block) ∧ W.cell? ⟨b, off + k * 3 + 2, none⟩ = some (.string rs[k].data) := by
  rcases h with ⟨rfl, _⟩ | ⟨b, off, cap, e, hb, hc⟩
  · simp at hk
  · simp only [Value.slice.injEq] at e
    exact ⟨b, off, e.1, hb, hc k hk⟩
theorem recsB_take_length (b z : Int) (hz : z ≤ 64) (rs : List Rc) (last : Int) (h : recsOk b z last rs = true) (k : Nat) : (recsB (rs.take k)).length ≤ 67 * rs.length := by
  have h1 := recsOk_append b z (rs.take k) last (rs.drop k)
  rw [List.take_append_drop, h] at h1
  have h2 := recsB_length b z hz (rs.take k) last (by
    cases h3 : recsOk b z last (rs.take k) with
    | true => rfl
    | false => rw [h3] at h1; simp at h1)
  have h4 : (rs.take k).length ≤ rs.length := by simp [List.length_take]; omega
  omega
theorem headB_length (f t b z n : Nat) : (headB f t b z n).length = 14 := by simp [headB, lowB_length]

theorem bapp (a b : List UInt8) : (⟨a.toArray⟩ ++ ⟨b.toArray⟩ : ByteArray) = ⟨(a ++ b).toArray⟩ := by apply ByteArray.ext; simp

end Go.Proofs.YtdjmhagclcfnfabGreat
