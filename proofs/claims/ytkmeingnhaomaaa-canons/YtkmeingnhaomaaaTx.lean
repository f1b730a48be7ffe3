/- Lists of elements of one cell each (texts, numbers) that a call owns. -/
import Derived.Test.YtkmeingnhaomaaaLOwn
import Derived.Test.YtkmeingnhaomaaaLExact2
import Derived.Deep.RegionLaw
namespace Go.Proofs.Ytkmeingnhaomaaa
open Go.RowKit Go.Shelf

/-- v owns the elements xs, of type e, in a block from B on. -/
def Own1 (e : TypeId) (B : Nat) (w : World) (v : Value) (xs : List Value) : Prop := w.ownsRow B e 1 v xs.length xs
theorem own1_snoc {e : TypeId} {B : Nat} {W : World} {v x : Value} {pre : List Value} (h : W.ownsRow B e 1 v (pre.length + 1) (pre ++ [x])) : Own1 e B W v (pre ++ [x]) := by
  unfold Own1
  rw [List.length_append]
  exact h
theorem own1_nil (e : TypeId) (B : Nat) (W : World) : Own1 e B W (.slice none 0 0) [] := World.ownsRow_nil _ _ _ _
theorem Own1.slice {e : TypeId} {B : Nat} {W : World} {v : Value} {xs : List Value} (h : Own1 e B W v xs) : ∃ a cp, v = .slice a xs.length cp := by
  rcases h.2 with ⟨rfl, h0⟩ | ⟨g, cap, cur, rfl, _⟩
  · exact ⟨none, 0, by rw [h0]⟩
  · exact ⟨_, _, rfl⟩
theorem Own1.at {e : TypeId} {B : Nat} {W : World} {a : Option Addr} {l cp : Nat} {xs : List Value} (h : Own1 e B W (.slice a l cp) xs) {k : Nat} (hk : k < xs.length) :
    ∃ b, a = some ⟨b, 0, none⟩ ∧ B ≤ b ∧ W.cell? ⟨b, k, none⟩ = some xs[k] ∧ W.frozen? ⟨b, k, none⟩ = false := by
  rcases h.2 with ⟨e0, h0⟩ | ⟨g, cap, cur, e0, hb, hg, hc, _, hs, ht⟩
  · rw [h0] at hk
    exact absurd hk (by omega)
  · simp only [Value.slice.injEq] at e0
    rw [Nat.mul_one] at ht
    have h1 : cur[k]? = some xs[k] := by
      have : (cur.toList.take xs.length)[k]? = some xs[k] := by rw [ht]; exact List.getElem?_eq_getElem hk
      rw [List.getElem?_take_of_lt hk] at this
      simpa using this
    exact ⟨g, e0.1, hb, boxed_cell hg h1, boxed_frozen hg⟩
theorem Own1.kept {e : TypeId} {B : Nat} {W W' : World} {v : Value} {xs : List Value} (h : Own1 e B W v xs) (hg : W.grownBy W' none) : Own1 e B W' v xs := by
  refine World.ownsRow.kept h hg ?_
  rcases h.2 with ⟨rfl, _⟩ | ⟨g, cap, cur, rfl, _⟩
  · exact .inl rfl
  · exact .inr (by simp [Value.ownBlock])
theorem Own1.alloc {e : TypeId} {B : Nat} {W : World} {v : Value} {xs : List Value} (h : Own1 e B W v xs) (o : Obj) : Own1 e B (W.alloc o) v xs := World.ownsRow.alloc h o
theorem Own1.base {e : TypeId} {B B' : Nat} {W : World} {v : Value} {xs : List Value} (h : Own1 e B W v xs) (hb : B' ≤ B) : Own1 e B' W v xs := by
  refine ⟨h.1, ?_⟩
  rcases h.2 with h | ⟨g, cap, cur, e0, h1, h2⟩
  · exact .inl h
  · exact .inr ⟨g, cap, cur, e0, Nat.le_trans hb h1, h2⟩
theorem Own1.grown {e : TypeId} {A W W' : World} {v : Value} {xs : List Value} (h : Own1 e A.heap.size W v xs) (hg : A.grownBy W none) (hk : W.grownBy W' v.ownBlock) : A.grownBy W' none := by
  refine ⟨hk.os.trans hg.os, hk.tape.trans hg.tape, hk.output.trans hg.output, Nat.le_trans hg.size hk.size, fun j hj hne => (hk.block j (Nat.lt_of_lt_of_le hj hg.size) ?_).trans (hg.block j hj hne)⟩
  rcases h.2 with ⟨rfl, _⟩ | ⟨g, cap, cur, rfl, hbg, _⟩
  · simp [Value.ownBlock]
  · simp [Value.ownBlock]; omega
theorem Own1.ne {e : TypeId} {B : Nat} {W : World} {v : Value} {xs : List Value} (h : Own1 e B W v xs) {k : Nat} {cs : Array Value} {t : TypeId} {fr : Nat × Nat} (hk : W.heap[k]? = some (.cells cs t fr)) (ht : t ≠ e) : some k ≠ v.ownBlock := by
  rcases h.2 with ⟨rfl, _⟩ | ⟨g, cap, cur, rfl, _, hgb, _⟩
  · simp [Value.ownBlock]
  · intro e0
    obtain rfl : k = g := by simpa [Value.ownBlock] using e0
    rw [hgb] at hk
    simp only [Option.some.injEq, Obj.cells.injEq] at hk
    exact ht hk.2.1.symm
theorem Own1.lt {e : TypeId} {B : Nat} {W : World} {v : Value} {xs : List Value} (h : Own1 e B W v xs) : some W.heap.size ≠ v.ownBlock := by
  rcases h.2 with ⟨rfl, _⟩ | ⟨g, cap, cur, rfl, hb, hg, _⟩
  · simp [Value.ownBlock]
  · have := (Array.getElem?_eq_some_iff.1 hg).1
    simp [Value.ownBlock]; omega
/-- What one owns stays, where another's block is written that is of another type. -/
theorem Own1.beside {e : TypeId} {B : Nat} {W W' : World} {v : Value} {xs : List Value} (h : Own1 e B W v xs) {o : Option Nat} (hg : W.grownBy W' o) (hne : ∀ k cs fr, W.heap[k]? = some (.cells cs e fr) → some k ≠ o) : Own1 e B W' v xs := by
  refine World.ownsRow.kept h hg ?_
  rcases h.2 with ⟨rfl, _⟩ | ⟨g, cap, cur, rfl, _, hg2, _⟩
  · exact .inl rfl
  · refine .inr ?_
    have := hne g cur (0, 0) hg2
    simp only [Value.ownBlock]
    exact this
theorem Own1.own_ge {e : TypeId} {B : Nat} {W : World} {v : Value} {xs : List Value} (h : Own1 e B W v xs) : ∀ g, v.ownBlock = some g → B ≤ g := by
  intro g e0
  rcases h.2 with ⟨rfl, _⟩ | ⟨g', cap, cur, rfl, hb, _⟩
  · simp [Value.ownBlock] at e0
  · obtain rfl : g' = g := by simpa [Value.ownBlock] using e0
    exact hb

/-- 'append(l, r)' at a step of a region that draws its order. -/
theorem step_recT {w : World} {ops : Array Oper} {o : Oper} {a : Act} {K : Act → World → Prop} {Q : Exit → Act → World → Prop} {E : Prop} (hgd : o.guard = none) (sl x : Operand)
    (ho : o.op = .call { callee := .builtin .append, args := #[sl, x], argTypes := #[22, 22] })
    (B : Nat) (v : Value) (rs : List Rc) (r : Rc) (nb : Nat) (hs : a.eval sl = v) (hown : OwnsR B w v rs) (hx : a.eval x = .slice (some ⟨nb, 0, none⟩) 1 1)
    (hc : ∀ j u, [Value.bool r.free, .int .i64 r.block, .string r.data][j]? = some u → w.cell? (Addr.add ⟨nb, 0, none⟩ j) = some u) (hl : rs.length ≤ 2000) (hB : B ≤ w.heap.size)
    (h : ∀ v' w', OwnsR B w' v' (rs ++ [r]) → w.grownBy w' v.ownBlock → K (a.put o.dst v') w') :
    if Region.wanted o (yielded ops a.tmps) = true then Oper.wp Try.prog o a w K Q else E := by
  obtain ⟨i0, hi, hz0, hz1, hz2⟩ := info_parts Try.infoRec
  have hml : rs.length + 1 ≤ maxLen := Nat.le_trans (show rs.length + 1 ≤ 2001 by omega) (by decide)
  refine step_append_lies w hgd sl x 22 ho B 34 i0 _ 3 32 Try.underlying22 hi hz0 hz1 hz2 rfl (by decide) v rs.length (recVals rs) hs hown ⟨nb, 0, none⟩ 1 1 _ hx rfl hc (by simp [Value.oneCell']) (by decide) hml (by omega) hB w.heap.size rfl ?_
  intro g cap w1 ho1 hg _ _
  exact h _ w1 (ownsR_snoc ho1) hg

/-- .. where one block has been written besides. -/
theorem OwnsR.keptBut {B : Nat} {W W' : World} {v : Value} {rs : List Rc} {sb : Nat} (h : OwnsR B W v rs) (hg : W.grownBy W' (some sb)) (hsb : sb < B) : OwnsR B W' v rs := by
  refine World.ownsRow.kept h hg ?_
  rcases h.2 with ⟨rfl, _⟩ | ⟨g, cap, cur, rfl, hb, _⟩
  · exact .inl rfl
  · refine .inr ?_
    simp only [Value.ownBlock, ne_eq, Option.some.injEq]
    omega
theorem box_step {A wr w3 : World} {sb : Nat} {v0 v1 v2 v3 sv v' : Value} {rs rs' : List Rc} (hsb : sb < A.heap.size)
    (h1 : wr.heap[sb]? = some (.cells #[v0, v1, v2, v3, sv] 24 (0, 0))) (ho : OwnsR A.heap.size wr sv rs) (hw : A.grownBy wr (some sb))
    (hg : wr.grownBy w3 sv.ownBlock) (ho' : OwnsR A.heap.size w3 v' rs') :
    (w3.setCell ⟨sb, 4, none⟩ v').heap[sb]? = some (.cells #[v0, v1, v2, v3, v'] 24 (0, 0)) ∧ OwnsR A.heap.size (w3.setCell ⟨sb, 4, none⟩ v') v' rs' ∧ A.grownBy (w3.setCell ⟨sb, 4, none⟩ v') (some sb) := by
  have hn : ∀ k, k < A.heap.size → some k ≠ sv.ownBlock := fun k hk e => by have := ho.own_ge k e.symm; omega
  have l1 := (Array.getElem?_eq_some_iff.1 h1).1
  have b1 := (hg.block sb l1 (hn _ hsb)).trans h1
  refine ⟨block_set (i := 4) b1 v', ho'.set hsb, ?_⟩
  have g3 : A.grownBy w3 (some sb) := ⟨hg.os.trans hw.os, hg.tape.trans hw.tape, hg.output.trans hw.output, Nat.le_trans hw.size hg.size, fun j hj hne => (hg.block j (Nat.lt_of_lt_of_le hj hw.size) (hn _ hj)).trans (hw.block j hj hne)⟩
  exact ⟨g3.os, g3.tape, g3.output, by simpa using g3.size, fun j hj hne => (Below.heap_setCell _ _ _ _ (fun e => hne (congrArg some e))).trans (g3.block j hj hne)⟩

theorem Try.infoStr : (Try.prog.info? 9).map (fun i => (i.zero, i.size, i.bytes)) = some (some (.string ⟨#[]⟩), 1, 16) := by kernel_rfl
theorem Try.infoInt1 : (Try.prog.info? 3).map (fun i => (i.zero, i.size, i.bytes)) = some (some (.int .i64 0), 1, 8) := by kernel_rfl

theorem wpList_append_str (w : World) {ops : Array Oper} {rest : List Oper} {o : Oper} {a : Act} {Q : Exit → Act → World → Prop} (hgd : o.guard = none) (s x : Operand)
    (ho : o.op = .call { callee := .builtin .append, args := #[s, x], argTypes := #[52, 52] })
    (B : Nat) (v : Value) (xs : List Value) (hs : a.eval s = v) (hown : Own1 9 B w v xs) (ad : Addr) (q : ByteArray) (hx : a.eval x = .slice (some ad) 1 1)
    (hnews : ∀ j u, [Value.string q][j]? = some u → w.cell? (ad.add j) = some u) (hl : xs.length ≤ 2000) (hB : B ≤ w.heap.size)
    (h : ∀ v' w', Own1 9 B w' v' (xs ++ [.string q]) → w.grownBy w' v.ownBlock → wpList Try.prog ops Q rest (a.put o.dst v') w') : wpList Try.prog ops Q (o :: rest) a w := by
  obtain ⟨i0, hi, hz0, hz1, hz2⟩ := info_parts Try.infoStr
  have hml : xs.length + 1 ≤ maxLen := Nat.le_trans (show xs.length + 1 ≤ 2001 by omega) (by decide)
  refine wpList_append_own w hgd s x 52 ho B 9 i0 _ 1 16 Try.underlying52 hi hz0 hz1 hz2 rfl (by decide) _ _ _ hs hown ad 1 1 _ hx rfl hnews (by simp [Value.oneCell']) hml (by omega) hB ?_
  intro v' w' ho' hg' _
  exact h v' w' (own1_snoc ho') hg'

theorem wpList_append_int (w : World) {ops : Array Oper} {rest : List Oper} {o : Oper} {a : Act} {Q : Exit → Act → World → Prop} (hgd : o.guard = none) (s x : Operand)
    (ho : o.op = .call { callee := .builtin .append, args := #[s, x], argTypes := #[64, 64] })
    (B : Nat) (v : Value) (xs : List Value) (hs : a.eval s = v) (hown : Own1 3 B w v xs) (ad : Addr) (q : Int) (hx : a.eval x = .slice (some ad) 1 1)
    (hnews : ∀ j u, [Value.int .i64 q][j]? = some u → w.cell? (ad.add j) = some u) (hl : xs.length ≤ 2000) (hB : B ≤ w.heap.size)
    (h : ∀ v' w', Own1 3 B w' v' (xs ++ [.int .i64 q]) → w.grownBy w' v.ownBlock → wpList Try.prog ops Q rest (a.put o.dst v') w') : wpList Try.prog ops Q (o :: rest) a w := by
  obtain ⟨i0, hi, hz0, hz1, hz2⟩ := info_parts Try.infoInt1
  have hml : xs.length + 1 ≤ maxLen := Nat.le_trans (show xs.length + 1 ≤ 2001 by omega) (by decide)
  refine wpList_append_own w hgd s x 64 ho B 3 i0 _ 1 8 Try.underlying64 hi hz0 hz1 hz2 rfl (by decide) _ _ _ hs hown ad 1 1 _ hx rfl hnews (by simp [Value.oneCell']) hml (by omega) hB ?_
  intro v' w' ho' hg' _
  exact h v' w' (own1_snoc ho') hg'
end Go.Proofs.Ytkmeingnhaomaaa
