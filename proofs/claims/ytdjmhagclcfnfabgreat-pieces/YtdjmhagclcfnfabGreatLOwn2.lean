/- strandlaw's ownRecords and keptRecords: the walks. -/
import Derived.Test.YtdjmhagclcfnfabGreatLOwn
namespace Go.Proofs.YtdjmhagclcfnfabGreat
open Go.RowKit Go.Shelf

theorem row_through {B B' : Nat} {W W' : World} {v vo : Value} {rs : List Rc} {k : Nat} {ss : List Value} {o : Obj} (h : OwnsR B W v rs) (ho : W.ownsRow B' 25 1 vo k ss) (hg : (W.alloc o).grownBy W' v.ownBlock) : W'.ownsRow B' 25 1 vo k ss :=
  World.ownsRow.kept (World.ownsRow.alloc ho o) hg (rows_ne (h.alloc o) (World.ownsRow.alloc ho o)).1

theorem Old.alloc {N : Nat} {W : World} {s : Value} {xs : List Rc} (h : Old N W s xs) (hN : N ≤ W.heap.size) (o : Obj) : Old N (W.alloc o) s xs := h.below fun k hk => Below.heap_alloc W o k (by omega)

/-- A round of ownRecords' second loop. -/
theorem own_round {w wr w3 w5 : World} {B n k : Nat} {m : Int} {vg v' out : Value} {r : Option Nat} {ss : List Value} {t1 t2 : Obj}
    (hsl : ss.length = k + 1) (HR : wr.ownsRow w.heap.size 25 1 out (k + 1) ss) (H0 : ∃ a0 l0 c0, ss[0]? = some (.slice a0 l0 c0)) (HO : OwnsR B wr vg (List.replicate (n + k) ⟨false, m, ⟨#[]⟩⟩))
    (HL : ∀ j (h : j < ss.length), Old wr.heap.size wr ss[j] (List.replicate (n + j) ⟨false, m, ⟨#[]⟩⟩)) (HG : w.grownBy wr r) (HA : vg.ownBlock = r ∨ ∀ x, vg.ownBlock = some x → w.heap.size ≤ x)
    (O3 : OwnsR B w3 v' (List.replicate (n + k) ⟨false, m, ⟨#[]⟩⟩ ++ [⟨false, m, ⟨#[]⟩⟩])) (G3 : (wr.alloc t1).grownBy w3 vg.ownBlock)
    (L3 : ∀ N sv xs, N ≤ (wr.alloc t1).heap.size → xs.length ≤ (List.replicate (n + k) (⟨false, m, ⟨#[]⟩⟩ : Rc)).length → Old N (wr.alloc t1) sv xs → Old N w3 sv xs)
    (A3 : v'.ownBlock = vg.ownBlock ∨ ∀ g, v'.ownBlock = some g → (wr.alloc t1).heap.size ≤ g)
    (hg5 : (w3.alloc t2).grownBy w5 out.ownBlock) :
    (ss ++ [v']).length = k + 1 + 1 ∧ (∃ a0 l0 c0, (ss ++ [v'])[0]? = some (.slice a0 l0 c0)) ∧ OwnsR B w5 v' (List.replicate (n + (k + 1)) ⟨false, m, ⟨#[]⟩⟩) ∧
      (∀ j (h : j < (ss ++ [v']).length), Old w5.heap.size w5 (ss ++ [v'])[j] (List.replicate (n + j) ⟨false, m, ⟨#[]⟩⟩)) ∧ w.grownBy w5 r ∧ (v'.ownBlock = r ∨ ∀ x, v'.ownBlock = some x → w.heap.size ≤ x) := by
  have R3 := row_through HO HR G3
  have erep : List.replicate (n + k) (⟨false, m, ⟨#[]⟩⟩ : Rc) ++ [⟨false, m, ⟨#[]⟩⟩] = List.replicate (n + (k + 1)) ⟨false, m, ⟨#[]⟩⟩ := by
    rw [← Nat.add_assoc, List.replicate_succ']
  have hs3 : wr.heap.size + 1 ≤ w3.heap.size := by have := G3.size; simpa using this
  have hs5 : w3.heap.size + 1 ≤ w5.heap.size := by have := hg5.size; simpa using this
  obtain ⟨a0, l0, c0, h00⟩ := H0
  obtain ⟨go, hgo, hc0, hge⟩ : ∃ go, out.ownBlock = some go ∧ (w3.alloc t2).cell? ⟨go, 0, none⟩ = some (.slice a0 l0 c0) ∧ w.heap.size ≤ go := by
    have R3a := World.ownsRow.alloc R3 t2
    rcases R3a.2 with ⟨_, h⟩ | ⟨go, cap, cur, e, hbg, _⟩
    · omega
    · have hgo : out.ownBlock = some go := by rw [e]; rfl
      have := R3a.cells hgo 0 _ h00
      rw [Addr.add_lit] at this
      exact ⟨go, hgo, this, hbg⟩
  refine ⟨by rw [List.length_append, hsl]; rfl, ⟨a0, l0, c0, by rw [List.getElem?_append_left (by omega)]; exact h00⟩, ?_, ?_, ?_, ?_⟩
  · rw [← erep]
    exact World.ownsRow.kept (OwnsR.alloc O3 t2) hg5 (rows_ne (OwnsR.alloc O3 t2) (World.ownsRow.alloc R3 t2)).2
  · intro j hj
    rw [List.length_append, hsl] at hj
    simp only [List.length_cons, List.length_nil, Nat.zero_add] at hj
    rw [hgo] at hg5
    by_cases hjk : j < k + 1
    · rw [List.getElem_append_left (by omega)]
      have h1 := (HL j (by omega)).alloc (Nat.le_refl _) t1
      have h2 := L3 wr.heap.size _ _ (by simp) (by simp; omega) h1
      have h3 := h2.alloc (by omega) t2
      exact (h3.other hg5 (by simp; omega) hc0).mono (by omega)
    · obtain rfl : j = k + 1 := by omega
      rw [List.getElem_append_right (by omega)]
      have h2 := O3.old
      rw [erep] at h2
      have h3 := h2.alloc (Nat.le_refl _) t2
      have h4 := (h3.other hg5 (by simp) hc0).mono (show w3.heap.size ≤ w5.heap.size by omega)
      simpa [hsl] using h4
  · have g1 := grow_own (gallocR HG t1) G3 HA
    exact grow_own (gallocR g1 t2) hg5 (.inr fun x e => by rw [hgo] at e; cases e; exact hge)
  · rcases A3 with e | h
    · rw [e]
      exact HA
    · refine .inr fun x e => ?_
      have := h x e
      have := HG.size
      simp at *
      omega

end Go.Proofs.YtdjmhagclcfnfabGreat
