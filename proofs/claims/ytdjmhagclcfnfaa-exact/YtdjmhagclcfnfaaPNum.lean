/- Bytes that a call owns. -/
import Derived.Test.YtdjmhagclcfnfaaPCheck
import Derived.Maps.AppendAt
namespace Go.Proofs.Ytdjmhagclcfnfaa
open Go.RowKit

theorem Try.infoU8 : (Try.prog.info? 5).map (fun i => (i.zero, i.size, i.bytes)) = some (some (.int .u8 0), 1, 1) := by kernel_rfl

/-- Bytes as cells. -/
def byteVals (l : List UInt8) : List Value := l.map fun b => Value.int .u8 (b.toNat : Int)

/-- The slice value v owns the bytes l, in blocks from B on. -/
def OwnsB (B : Nat) (w : World) (v : Value) (l : List UInt8) : Prop := w.ownsRow B 5 1 v l.length (byteVals l)

/-- What an append to v that gives v' has turned: v's own block alone; v' lies there, or in a new block. -/
structure Grew (w w' : World) (v v' : Value) : Prop where
  by_ : w.grownBy w' v.ownBlock
  at_ : v'.ownBlock = v.ownBlock ∨ ∃ g, w.heap.size ≤ g ∧ v'.ownBlock = some g
theorem Grew.refl (w : World) (v : Value) : Grew w w v v := ⟨⟨rfl, rfl, rfl, Nat.le_refl _, fun _ _ _ => rfl⟩, .inl rfl⟩
theorem Grew.trans {w w1 w2 : World} {v v1 v2 : Value} (h : Grew w w1 v v1) (k : Grew w1 w2 v1 v2) : Grew w w2 v v2 := by
  refine ⟨⟨k.by_.os.trans h.by_.os, k.by_.tape.trans h.by_.tape, k.by_.output.trans h.by_.output, Nat.le_trans h.by_.size k.by_.size, fun j hj hne => ?_⟩, ?_⟩
  · refine (k.by_.block j (Nat.lt_of_lt_of_le hj h.by_.size) ?_).trans (h.by_.block j hj hne)
    rcases h.at_ with e | ⟨g, hg, e⟩
    · rw [e]; exact hne
    · rw [e]; intro e2; simp only [Option.some.injEq] at e2; omega
  · rcases k.at_ with e | ⟨g, hg, e⟩
    · rw [e]; exact h.at_
    · exact .inr ⟨g, Nat.le_trans h.by_.size hg, e⟩
theorem Grew.of_alloc {w w2 : World} {o : Obj} {v v2 : Value} (hg : (w.alloc o).grownBy w2 v.ownBlock) (ha : v2.ownBlock = v.ownBlock ∨ v2.ownBlock = some (w.alloc o).heap.size) : Grew w w2 v v2 := by
  have h0 : Grew w (w.alloc o) v v := ⟨⟨rfl, rfl, rfl, by simp, fun j hj _ => Below.heap_alloc w o j hj⟩, .inl rfl⟩
  exact h0.trans ⟨hg, ha.elim .inl (fun e => .inr ⟨_, Nat.le_refl _, e⟩)⟩

theorem byteVals_append (a b : List UInt8) : byteVals (a ++ b) = byteVals a ++ byteVals b := by simp [byteVals]
theorem u8_cast (x : Nat) : ((UInt8.ofNat (x % 256)).toNat : Int) = (x : Int) % 256 := by
  simp

theorem Grew.below {w w' : World} {v v' : Value} {B : Nat} (h : Grew w w' v v') (hv : ∀ g, v.ownBlock = some g → B ≤ g) (hB : B ≤ w.heap.size) : Below B w w' :=
  ⟨h.by_.os, h.by_.tape, h.by_.output, h.by_.size, fun k hk => h.by_.block k (by omega) (fun e => by have := hv k e.symm; omega)⟩
theorem OwnsB.base {B : Nat} {w : World} {v : Value} {l : List UInt8} (h : OwnsB B w v l) : ∀ g, v.ownBlock = some g → B ≤ g := by
  intro g hg
  rcases h.2 with ⟨rfl, _⟩ | ⟨g', cap, cur, rfl, hb, _⟩
  · simp [Value.ownBlock] at hg
  · simp [Value.ownBlock] at hg; omega
end Go.Proofs.Ytdjmhagclcfnfaa
