/- The reference's records. -/
import Derived.Test.YtdjmhagclcfnfabGreatROne
import Derived.Test.YtdjmhagclcfnfabGreatParseM
namespace Go.Proofs.YtdjmhagclcfnfabGreat
open Go.RowKit Go.Shelf

theorem OwnsR.ne {B : Nat} {W : World} {v : Value} {rs : List Rc} (h : OwnsR B W v rs) {k : Nat} {cs : Array Value} {t : TypeId} {fr : Nat × Nat} (hk : W.heap[k]? = some (.cells cs t fr)) (ht : t ≠ 40) : some k ≠ v.ownBlock := by
  rcases h.2 with ⟨rfl, _⟩ | ⟨g, cap, cur, rfl, _, hgb, _⟩
  · simp [Value.ownBlock]
  · intro e
    obtain rfl : k = g := by simpa [Value.ownBlock] using e
    rw [hgb] at hk
    simp only [Option.some.injEq, Obj.cells.injEq] at hk
    exact ht hk.2.1.symm
theorem OwnsR.slice {B : Nat} {W : World} {v : Value} {rs : List Rc} (h : OwnsR B W v rs) : ∃ a ln cp, v = .slice a ln cp := by
  rcases h.2 with ⟨rfl, _⟩ | ⟨g, cap, cur, rfl, _⟩
  · exact ⟨_, _, _, rfl⟩
  · exact ⟨_, _, _, rfl⟩

theorem OwnsR.kept {B : Nat} {W W' : World} {v : Value} {rs : List Rc} (h : OwnsR B W v rs) (hg : W.grownBy W' none) : OwnsR B W' v rs := by
  refine World.ownsRow.kept h hg ?_
  rcases h.2 with ⟨rfl, _⟩ | ⟨g, cap, cur, rfl, _⟩
  · exact .inl rfl
  · exact .inr (by simp [Value.ownBlock])
theorem OwnsR.alloc {B : Nat} {W : World} {v : Value} {rs : List Rc} (h : OwnsR B W v rs) (o : Obj) : OwnsR B (W.alloc o) v rs := World.ownsRow.alloc h o
theorem OwnsR.grown {A W W' : World} {v : Value} {rs : List Rc} (h : OwnsR A.heap.size W v rs) (hg : A.grownBy W none) (hk : W.grownBy W' v.ownBlock) : A.grownBy W' none := by
  refine ⟨hk.os.trans hg.os, hk.tape.trans hg.tape, hk.output.trans hg.output, Nat.le_trans hg.size hk.size, fun j hj hne => (hk.block j (Nat.lt_of_lt_of_le hj hg.size) ?_).trans (hg.block j hj hne)⟩
  rcases h.2 with ⟨rfl, _⟩ | ⟨g, cap, cur, rfl, hbg, _⟩
  · simp [Value.ownBlock]
  · simp [Value.ownBlock]; omega
theorem OwnsR.lt {B : Nat} {W : World} {v : Value} {rs : List Rc} (h : OwnsR B W v rs) : some W.heap.size ≠ v.ownBlock := by
  rcases h.2 with ⟨rfl, _⟩ | ⟨g, cap, cur, rfl, hb, hg, _⟩
  · simp [Value.ownBlock]
  · have := (Array.getElem?_eq_some_iff.1 hg).1
    simp [Value.ownBlock]; omega
/-- What 'records' tells. -/
def RecsSaid (any : Bool) (b z n : Nat) (q : List UInt8) (w : World) (e : Ending) (w' : World) : Prop :=
  w.grownBy w' none ∧ ((∃ rs k, walkS (stepG any b z) n (-1) q = (rs, .inl k) ∧ e = .returned (.tuple #[.slice none 0 0, .string ⟨#[]⟩, .int .i64 k])) ∨
    (∃ rs q' v, walkS (stepG any b z) n (-1) q = (rs, .inr q') ∧ e = .returned (.tuple #[v, .string ⟨q'.toArray⟩, .int .i64 0]) ∧ OwnsR w.heap.size w' v rs))

theorem cells_new2 (W : World) (l : List Value) (t : TypeId) (k : Nat) (hk : k = W.heap.size) : ∀ (j : Nat) (u : Value), l[j]? = some u → (W.alloc (.cells l.toArray t)).cell? ((⟨k, 0, none⟩ : Addr).add j) = some u := by
  subst hk
  exact cells_new W l t
theorem stepG_len (any : Bool) (b z : Nat) (last : Int) (q q' : List UInt8) (r : Rc) (h : stepG any b z last q = .inr (r, q')) : q'.length ≤ q.length := by
  unfold stepG at h
  cases h1 : rdRec z q with
  | inl k => rw [h1] at h; cases h
  | inr x =>
    obtain ⟨r1, q1⟩ := x
    rw [h1] at h
    simp only [] at h
    split at h
    · simp only [Sum.inr.injEq, Prod.mk.injEq] at h
      obtain ⟨rfl, rfl⟩ := h
      obtain ⟨e1, _⟩ := rdRec_ok z q q1 r1 h1
      rw [e1, List.length_append]
      omega
    · cases h
theorem stepG_err (any : Bool) (b z : Nat) (last : Int) (q : List UInt8) (k : Int) (h : stepG any b z last q = .inl k) : 2 ≤ k ∧ k ≤ 8 := by
  unfold stepG at h
  cases h1 : rdRec z q with
  | inl k1 =>
    rw [h1] at h
    simp only [Sum.inl.injEq] at h
    rw [← h]
    exact rdRec_err z q k1 h1
  | inr x =>
    obtain ⟨r, q1⟩ := x
    rw [h1] at h
    simp only [] at h
    split at h
    · cases h
    · simp only [Sum.inl.injEq] at h
      omega

end Go.Proofs.YtdjmhagclcfnfabGreat
