/- Tx, RCanon -/
import Derived.Deep.AppendLies
import Derived.Test.YtdjmhagclcfnfaaLOwn
import Derived.Test.YtdjmhagclcfnfaaLExact2
import Derived.Deep.RegionLaw
/- Lists of elements of one cell each (texts, numbers) that a call owns. -/
namespace Go.Proofs.Ytdjmhagclcfnfaa
open Go.RowKit Go.Shelf

/-- v owns the elements xs, of type e, in a block from B on. -/
def Own1 (e : TypeId) (B : Nat) (w : World) (v : Value) (xs : List Value) : Prop := w.ownsRow B e 1 v xs.length xs
theorem own1_snoc {e : TypeId} {B : Nat} {W : World} {v x : Value} {pre : List Value} (h : W.ownsRow B e 1 v (pre.length + 1) (pre ++ [x])) : Own1 e B W v (pre ++ [x]) := by
  unfold Own1
  rw [List.length_append]
  exact h
theorem own1_nil (e : TypeId) (B : Nat) (W : World) : Own1 e B W (.slice none 0 0) [] := World.ownsRow_nil _ _ _ _
theorem Own1.slice {e : TypeId} {B : Nat} {W : World} {v : Value} {xs : List Value} (h : Own1 e B W v xs) : ∃ a cp, v = .slice a xs.length cp := by
  rcases h.2 with ⟨rfl, h0⟩ | ⟨g, cap, cur, rfl, _⟩
  · exact ⟨none, 0, by rw [h0]⟩
  · exact ⟨_, _, rfl⟩
theorem Own1.at {e : TypeId} {B : Nat} {W : World} {a : Option Addr} {l cp : Nat} {xs : List Value} (h : Own1 e B W (.slice a l cp) xs) {k : Nat} (hk : k < xs.length) :
    ∃ b, a = some ⟨b, 0, none⟩ ∧ B ≤ b ∧ W.cell? ⟨b, k, none⟩ = some xs[k] ∧ W.frozen? ⟨b, k, none⟩ = false := by
  rcases h.2 with ⟨e0, h0⟩ | ⟨g, cap, cur, e0, hb, hg, hc, _, hs, ht⟩
  · rw [h0] at hk
    exact absurd hk (by omega)
  · simp only [Value.slice.injEq] at e0
    rw [Nat.mul_one] at ht
    have h1 : cur[k]? = some xs[k] := by
      have : (cur.toList.take xs.length)[k]? = some xs[k] := by rw [ht]; exact List.getElem?_eq_getElem hk
      rw [List.getElem?_take_of_lt hk] at this
      simpa using this
    exact ⟨g, e0.1, hb, boxed_cell hg h1, boxed_frozen hg⟩
theorem Own1.kept {e : TypeId} {B : Nat} {W W' : World} {v : Value} {xs : List Value} (h : Own1 e B W v xs) (hg : W.grownBy W' none) : Own1 e B W' v xs := by
  refine World.ownsRow.kept h hg ?_
  rcases h.2 with ⟨rfl, _⟩ | ⟨g, cap, cur, rfl, _⟩
  · exact .inl rfl
  · exact .inr (by simp [Value.ownBlock])
theorem Own1.alloc {e : TypeId} {B : Nat} {W : World} {v : Value} {xs : List Value} (h : Own1 e B W v xs) (o : Obj) : Own1 e B (W.alloc o) v xs := World.ownsRow.alloc h o
theorem Own1.base {e : TypeId} {B B' : Nat} {W : World} {v : Value} {xs : List Value} (h : Own1 e B W v xs) (hb : B' ≤ B) : Own1 e B' W v xs := by
  refine ⟨h.1, ?_⟩
  rcases h.2 with h | ⟨g, cap, cur, e0, h1, h2⟩
  · exact .inl h
  · exact .inr ⟨g, cap, cur, e0, Nat.le_trans hb h1, h2⟩
theorem Own1.grown {e : TypeId} {A W W' : World} {v : Value} {xs : List Value} (h : Own1 e A.heap.size W v xs) (hg : A.grownBy W none) (hk : W.grownBy W' v.ownBlock) : A.grownBy W' none := by
  refine ⟨hk.os.trans hg.os, hk.tape.trans hg.tape, hk.output.trans hg.output, Nat.le_trans hg.size hk.size, fun j hj hne => (hk.block j (Nat.lt_of_lt_of_le hj hg.size) ?_).trans (hg.block j hj hne)⟩
  rcases h.2 with ⟨rfl, _⟩ | ⟨g, cap, cur, rfl, hbg, _⟩
  · simp [Value.ownBlock]
  · simp [Value.ownBlock]; omega
theorem Own1.ne {e : TypeId} {B : Nat} {W : World} {v : Value} {xs : List Value} (h : Own1 e B W v xs) {k : Nat} {cs : Array Value} {t : TypeId} {fr : Nat × Nat} (hk : W.heap[k]? = some (.cells cs t fr)) (ht : t ≠ e) : some k ≠ v.ownBlock := by
  rcases h.2 with ⟨rfl, _⟩ | ⟨g, cap, cur, rfl, _, hgb, _⟩
  · simp [Value.ownBlock]
  · intro e0
    obtain rfl : k = g := by simpa [Value.ownBlock] using e0
    rw [hgb] at hk
    simp only [Option.some.injEq, Obj.cells.injEq] at hk
    exact ht hk.2.1.symm
theorem Own1.lt {e : TypeId} {B : Nat} {W : World} {v : Value} {xs : List Value} (h : Own1 e B W v xs) : some W.heap.size ≠ v.ownBlock := by
  rcases h.2 with ⟨rfl, _⟩ | ⟨g, cap, cur, rfl, hb, hg, _⟩
  · simp [Value.ownBlock]
  · have := (Array.getElem?_eq_some_iff.1 hg).1
    simp [Value.ownBlock]; omega
/-- What one owns stays, where another's block is written that is of another type. -/
theorem Own1.beside {e : TypeId} {B : Nat} {W W' : World} {v : Value} {xs : List Value} (h : Own1 e B W v xs) {o : Option Nat} (hg : W.grownBy W' o) (hne : ∀ k cs fr, W.heap[k]? = some (.cells cs e fr) → some k ≠ o) : Own1 e B W' v xs := by
  refine World.ownsRow.kept h hg ?_
  rcases h.2 with ⟨rfl, _⟩ | ⟨g, cap, cur, rfl, _, hg2, _⟩
  · exact .inl rfl
  · refine .inr ?_
    have := hne g cur (0, 0) hg2
    simp only [Value.ownBlock]
    exact this
theorem Own1.own_ge {e : TypeId} {B : Nat} {W : World} {v : Value} {xs : List Value} (h : Own1 e B W v xs) : ∀ g, v.ownBlock = some g → B ≤ g := by
  intro g e0
  rcases h.2 with ⟨rfl, _⟩ | ⟨g', cap, cur, rfl, hb, _⟩
  · simp [Value.ownBlock] at e0
  · obtain rfl : g' = g := by simpa [Value.ownBlock] using e0
    exact hb

/-- 'append(l, r)' at a step of a region that draws its order. -/
theorem step_recT {w : World} {ops : Array Oper} {o : Oper} {a : Act} {K : Act → World → Prop} {Q : Exit → Act → World → Prop} {E : Prop} (hgd : o.guard = none) (sl x : Operand)
    (ho : o.op = .call { callee := .builtin .append, args := #[sl, x], argTypes := #[22, 22] })
    (B : Nat) (v : Value) (rs : List Rc) (r : Rc) (nb : Nat) (hs : a.eval sl = v) (hown : OwnsR B w v rs) (hx : a.eval x = .slice (some ⟨nb, 0, none⟩) 1 1)
    (hc : ∀ j u, [Value.bool r.free, .int .i64 r.block, .string r.data][j]? = some u → w.cell? (Addr.add ⟨nb, 0, none⟩ j) = some u) (hl : rs.length ≤ 2000) (hB : B ≤ w.heap.size)
    (h : ∀ v' w', OwnsR B w' v' (rs ++ [r]) → w.grownBy w' v.ownBlock → K (a.put o.dst v') w') :
    if Region.wanted o (yielded ops a.tmps) = true then Oper.wp Try.prog o a w K Q else E := by
  obtain ⟨i0, hi, hz0, hz1, hz2⟩ := info_parts Try.infoRec
  have hml : rs.length + 1 ≤ maxLen := Nat.le_trans (show rs.length + 1 ≤ 2001 by omega) (by decide)
  refine step_append_lies w hgd sl x 22 ho B 34 i0 _ 3 32 Try.underlying22 hi hz0 hz1 hz2 rfl (by decide) v rs.length (recVals rs) hs hown ⟨nb, 0, none⟩ 1 1 _ hx rfl hc (by simp [Value.oneCell']) (by decide) hml (by omega) hB w.heap.size rfl ?_
  intro g cap w1 ho1 hg _ _
  exact h _ w1 (ownsR_snoc ho1) hg

/-- .. where one block has been written besides. -/
theorem OwnsR.keptBut {B : Nat} {W W' : World} {v : Value} {rs : List Rc} {sb : Nat} (h : OwnsR B W v rs) (hg : W.grownBy W' (some sb)) (hsb : sb < B) : OwnsR B W' v rs := by
  refine World.ownsRow.kept h hg ?_
  rcases h.2 with ⟨rfl, _⟩ | ⟨g, cap, cur, rfl, hb, _⟩
  · exact .inl rfl
  · refine .inr ?_
    simp only [Value.ownBlock, ne_eq, Option.some.injEq]
    omega
theorem box_step {A wr w3 : World} {sb : Nat} {v0 v1 v2 v3 sv v' : Value} {rs rs' : List Rc} (hsb : sb < A.heap.size)
    (h1 : wr.heap[sb]? = some (.cells #[v0, v1, v2, v3, sv] 24 (0, 0))) (ho : OwnsR A.heap.size wr sv rs) (hw : A.grownBy wr (some sb))
    (hg : wr.grownBy w3 sv.ownBlock) (ho' : OwnsR A.heap.size w3 v' rs') :
    (w3.setCell ⟨sb, 4, none⟩ v').heap[sb]? = some (.cells #[v0, v1, v2, v3, v'] 24 (0, 0)) ∧ OwnsR A.heap.size (w3.setCell ⟨sb, 4, none⟩ v') v' rs' ∧ A.grownBy (w3.setCell ⟨sb, 4, none⟩ v') (some sb) := by
  have hn : ∀ k, k < A.heap.size → some k ≠ sv.ownBlock := fun k hk e => by have := ho.own_ge k e.symm; omega
  have l1 := (Array.getElem?_eq_some_iff.1 h1).1
  have b1 := (hg.block sb l1 (hn _ hsb)).trans h1
  refine ⟨block_set (i := 4) b1 v', ho'.set hsb, ?_⟩
  have g3 : A.grownBy w3 (some sb) := ⟨hg.os.trans hw.os, hg.tape.trans hw.tape, hg.output.trans hw.output, Nat.le_trans hw.size hg.size, fun j hj hne => (hg.block j (Nat.lt_of_lt_of_le hj hw.size) (hn _ hj)).trans (hw.block j hj hne)⟩
  exact ⟨g3.os, g3.tape, g3.output, by simpa using g3.size, fun j hj hne => (Below.heap_setCell _ _ _ _ (fun e => hne (congrArg some e))).trans (g3.block j hj hne)⟩

theorem Try.infoInt1 : (Try.prog.info? 3).map (fun i => (i.zero, i.size, i.bytes)) = some (some (.int .i64 0), 1, 8) := by kernel_rfl

theorem wpList_append_str (w : World) {ops : Array Oper} {rest : List Oper} {o : Oper} {a : Act} {Q : Exit → Act → World → Prop} (hgd : o.guard = none) (s x : Operand)
    (ho : o.op = .call { callee := .builtin .append, args := #[s, x], argTypes := #[52, 52] })
    (B : Nat) (v : Value) (xs : List Value) (hs : a.eval s = v) (hown : Own1 9 B w v xs) (ad : Addr) (q : ByteArray) (hx : a.eval x = .slice (some ad) 1 1)
    (hnews : ∀ j u, [Value.string q][j]? = some u → w.cell? (ad.add j) = some u) (hl : xs.length ≤ 2000) (hB : B ≤ w.heap.size)
    (h : ∀ v' w', Own1 9 B w' v' (xs ++ [.string q]) → w.grownBy w' v.ownBlock → wpList Try.prog ops Q rest (a.put o.dst v') w') : wpList Try.prog ops Q (o :: rest) a w := by
  obtain ⟨i0, hi, hz0, hz1, hz2⟩ := info_parts Try.infoStr
  have hml : xs.length + 1 ≤ maxLen := Nat.le_trans (show xs.length + 1 ≤ 2001 by omega) (by decide)
  refine wpList_append_own w hgd s x 52 ho B 9 i0 _ 1 16 Try.underlying52 hi hz0 hz1 hz2 rfl (by decide) _ _ _ hs hown ad 1 1 _ hx rfl hnews (by simp [Value.oneCell']) hml (by omega) hB ?_
  intro v' w' ho' hg' _
  exact h v' w' (own1_snoc ho') hg'

theorem wpList_append_int (w : World) {ops : Array Oper} {rest : List Oper} {o : Oper} {a : Act} {Q : Exit → Act → World → Prop} (hgd : o.guard = none) (s x : Operand)
    (ho : o.op = .call { callee := .builtin .append, args := #[s, x], argTypes := #[64, 64] })
    (B : Nat) (v : Value) (xs : List Value) (hs : a.eval s = v) (hown : Own1 3 B w v xs) (ad : Addr) (q : Int) (hx : a.eval x = .slice (some ad) 1 1)
    (hnews : ∀ j u, [Value.int .i64 q][j]? = some u → w.cell? (ad.add j) = some u) (hl : xs.length ≤ 2000) (hB : B ≤ w.heap.size)
    (h : ∀ v' w', Own1 3 B w' v' (xs ++ [.int .i64 q]) → w.grownBy w' v.ownBlock → wpList Try.prog ops Q rest (a.put o.dst v') w') : wpList Try.prog ops Q (o :: rest) a w := by
  obtain ⟨i0, hi, hz0, hz1, hz2⟩ := info_parts Try.infoInt1
  have hml : xs.length + 1 ≤ maxLen := Nat.le_trans (show xs.length + 1 ≤ 2001 by omega) (by decide)
  refine wpList_append_own w hgd s x 64 ho B 3 i0 _ 1 8 Try.underlying64 hi hz0 hz1 hz2 rfl (by decide) _ _ _ hs hown ad 1 1 _ hx rfl hnews (by simp [Value.oneCell']) hml (by omega) hB ?_
  intro v' w' ho' hg' _
  exact h v' w' (own1_snoc ho') hg'
end Go.Proofs.Ytdjmhagclcfnfaa
/- The reference's Canon. -/
namespace Go.Proofs.Ytdjmhagclcfnfaa
open Go.RowKit Go.Shelf

/-- Of each block the last record. -/
def lastR (rs : List Rc) (i : Nat) : Option Rc := rs.reverse.find? (fun r => r.block == (i : Int))
def lastsR (rs : List Rc) (b : Nat) : List Rc := (List.range b).filterMap (lastR rs)
/-- What Canon answers, purely. -/
def canonR (l : List UInt8) : Int ⊕ (Nat × Nat × Nat × Nat × List Rc) :=
  match openG [83, 84, 82, 85] 18 400 l with
  | .inl k => .inl k
  | .inr (f, t, b, z, m) => match walkS (stepG true b z) m (-1) (l.drop 18) with
    | (_, .inl k) => .inl k
    | (rs, .inr q) => if q.length ≠ 0 then .inl 8 else .inr (f, t, b, z, lastsR rs b)
def ToldC (l : List UInt8) (w : World) (e : Ending) (w' : World) : Prop :=
  w.grownBy w' none ∧
    ((∃ k, canonR l = .inl k ∧ e = .returned (.tuple #[.string ⟨#[]⟩, .int .i64 k])) ∨
     (∃ f t b z rs, canonR l = .inr (f, t, b, z, rs) ∧ e = .returned (.tuple #[.string ⟨(serB f t b z rs).toArray⟩, .int .i64 0])))

theorem lastsR_succ (rs : List Rc) (b : Nat) : lastsR rs (b + 1) = lastsR rs b ++ (lastR rs b).toList := by
  unfold lastsR
  rw [List.range_succ, List.filterMap_append]
  cases h : lastR rs b with
  | none => simp [h]
  | some r => simp [h]
/-- Looking from the end. -/
theorem lastR_none (rs : List Rc) (b : Nat) (h : ∀ r ∈ rs, r.block ≠ b) : lastR rs b = none := by
  unfold lastR
  rw [List.find?_eq_none]
  intro r hr
  simpa using h r (by simpa using hr)
theorem lastR_some (rs : List Rc) (b k : Nat) (hk : k < rs.length) (h : ∀ r ∈ rs.drop (k + 1), r.block ≠ b) (he : rs[k].block = b) : lastR rs b = some rs[k] := by
  unfold lastR
  have hd : rs = rs.take k ++ rs[k] :: rs.drop (k + 1) := by rw [← List.drop_eq_getElem_cons hk, List.take_append_drop]
  have h2 : rs.reverse = (rs.drop (k + 1)).reverse ++ rs[k] :: (rs.take k).reverse := by
    conv => lhs; rw [hd]
    simp
  rw [h2, List.find?_append, List.find?_eq_none.2 (fun r hr => by simpa using h r (by simpa using hr)), Option.none_or, List.find?_cons_of_pos (by simp [he])]
theorem openG_err (M : List UInt8) (least most : Nat) (l : List UInt8) (k : Int) (h : openG M least most l = .inl k) : 2 ≤ k ∧ k ≤ 8 := by
  unfold openG at h
  repeat' split at h
  all_goals simp only [Sum.inl.injEq, reduceCtorEq] at h
  all_goals omega

theorem walkS_err (any : Bool) (b z : Nat) : ∀ (n : Nat) (last : Int) (q : List UInt8) (rs : List Rc) (k : Int), walkS (stepG any b z) n last q = (rs, .inl k) → 2 ≤ k ∧ k ≤ 8
  | 0, last, q, rs, k, h => by simp [walkS] at h
  | n + 1, last, q, rs, k, h => by
    rw [walkS] at h
    cases hs : stepG any b z last q with
    | inl k' =>
      rw [hs] at h
      simp only [Prod.mk.injEq, Sum.inl.injEq] at h
      obtain ⟨-, rfl⟩ := h
      exact stepG_err any b z last q k' hs
    | inr x =>
      obtain ⟨r, q'⟩ := x
      rw [hs] at h
      simp only [Prod.mk.injEq] at h
      cases h2 : walkS (stepG any b z) n r.block q' with
      | mk rs2 y =>
        rw [h2] at h
        obtain ⟨-, rfl⟩ := h
        exact walkS_err any b z n _ _ _ _ h2
theorem walkS_length (any : Bool) (b z : Nat) : ∀ (n : Nat) (last : Int) (q : List UInt8) (rs : List Rc) (q' : List UInt8), walkS (stepG any b z) n last q = (rs, .inr q') → rs.length = n
  | 0, last, q, rs, q', h => by simp [walkS] at h; simp [h.1]
  | n + 1, last, q, rs, q', h => by
    rw [walkS] at h
    cases hs : stepG any b z last q with
    | inl k' =>
      rw [hs] at h
      simp at h
    | inr x =>
      obtain ⟨r, q1⟩ := x
      rw [hs] at h
      simp only [Prod.mk.injEq] at h
      cases h2 : walkS (stepG any b z) n r.block q1 with
      | mk rs2 y =>
        rw [h2] at h
        obtain ⟨rfl, rfl⟩ := h
        rw [List.length_cons, walkS_length any b z n _ _ _ _ h2]
/-- What is read is right, of any order. -/
def OkRec (b z : Nat) (r : Rc) : Prop := 0 ≤ r.block ∧ r.block < b ∧ (r.data.size : Int) = if r.free then 0 else (z : Int)
theorem walkS_okRec (any : Bool) (b z : Nat) : ∀ (n : Nat) (last : Int) (q : List UInt8) (rs : List Rc) (y : Int ⊕ List UInt8), walkS (stepG any b z) n last q = (rs, y) → ∀ r ∈ rs, OkRec b z r
  | 0, last, q, rs, y, h => by simp [walkS] at h; simp [h.1]
  | n + 1, last, q, rs, y, h => by
    rw [walkS] at h
    cases hs : stepG any b z last q with
    | inl k' =>
      rw [hs] at h
      simp only [Prod.mk.injEq] at h
      obtain ⟨rfl, -⟩ := h
      intro r hr
      cases hr
    | inr x =>
      obtain ⟨r0, q1⟩ := x
      rw [hs] at h
      simp only [Prod.mk.injEq] at h
      cases h2 : walkS (stepG any b z) n r0.block q1 with
      | mk rs2 y2 =>
        rw [h2] at h
        obtain ⟨rfl, -⟩ := h
        intro r hr
        rcases List.mem_cons.1 hr with rfl | hr
        · unfold stepG at hs
          cases h3 : rdRec z q with
          | inl k => rw [h3] at hs; cases hs
          | inr x =>
            obtain ⟨r1, q2⟩ := x
            rw [h3] at hs
            simp only [] at hs
            split at hs
            · rename_i hc
              simp only [Sum.inr.injEq, Prod.mk.injEq] at hs
              obtain ⟨rfl, rfl⟩ := hs
              have h4 := rdRec_ok z q _ _ h3
              exact ⟨h4.2.2.1, hc.1, h4.2.1⟩
            · cases hs
        · exact walkS_okRec any b z n _ _ _ _ h2 r hr
theorem lastsR_ok (b z : Nat) (rs : List Rc) (h : ∀ r ∈ rs, OkRec b z r) : ∀ k, k ≤ b → recsOk b z (-1) (lastsR rs k) = true ∧ lastOf (-1) (lastsR rs k) < k
  | 0, _ => ⟨rfl, by simp [lastsR, lastOf]⟩
  | k + 1, hk => by
    obtain ⟨h1, h2⟩ := lastsR_ok b z rs h k (by omega)
    rw [lastsR_succ]
    cases hl : lastR rs k with
    | none =>
      simp only [Option.toList_none, List.append_nil]
      exact ⟨h1, by omega⟩
    | some r =>
      have hm : r ∈ rs := by simpa using List.mem_of_find?_eq_some hl
      have hb : r.block = (k : Int) := by simpa using List.find?_some hl
      obtain ⟨-, h4, h5⟩ := h r hm
      simp only [Option.toList_some]
      rw [recsOk_append, h1, Bool.true_and, lastOf_snoc]
      refine ⟨?_, by omega⟩
      simp only [recsOk, Bool.and_true]
      exact decide_eq_true ⟨by omega, h4, h5⟩
/-- .. in one shape. -/
theorem recsG_shape {any : Bool} {b z n : Nat} {q : List UInt8} {w w' : World} {e : Ending} (h : RecsSaid any b z n q w e w') :
    ∃ a ln cp s k, e = .returned (.tuple #[.slice a ln cp, .string s, .int .i64 k]) ∧ w.grownBy w' none ∧
      ((∃ rs, walkS (stepG any b z) n (-1) q = (rs, .inl k) ∧ 2 ≤ k) ∨ (∃ rs q', walkS (stepG any b z) n (-1) q = (rs, .inr q') ∧ s = ⟨q'.toArray⟩ ∧ k = 0 ∧ OwnsR w.heap.size w' (.slice a ln cp) rs)) := by
  obtain ⟨hg, (⟨rs, k, hw, rfl⟩ | ⟨rs, q', v, hw, rfl, ho⟩)⟩ := h
  · exact ⟨none, 0, 0, _, k, rfl, hg, .inl ⟨rs, hw, (walkS_err any b z n (-1) q rs k hw).1⟩⟩
  · obtain ⟨a, ln, cp, rfl⟩ := ho.slice
    exact ⟨a, ln, cp, _, 0, rfl, hg, .inr ⟨rs, q', hw, rfl, rfl, ho⟩⟩

theorem grow_but {w W W' : World} {sb : Nat} (hsb : w.heap.size ≤ sb) (h : w.grownBy W none) (hk : W.grownBy W' (some sb)) : w.grownBy W' none :=
  grow_own h hk (.inr fun x e => by simp only [Option.some.injEq] at e; omega)

set_option maxRecDepth 100000 in
set_option maxHeartbeats 4000000 in
theorem rcanon (l : List UInt8) (w : World) (hl : l.length ≤ 4611686018427387904) :
    Calls Try.prog 38 #[.string ⟨l.toArray⟩] w (ToldC l w) := by
  have HO : Hid (∀ W, _) := fun W => ropens l [83, 84, 82, 85] 18 400 W (by omega) hl
  have t18 := tail_eq l 18
  go_enter Try.func38, Try.ntmps38
  go_wp2_with fail
  refine (HO.out _).mono ?_
  rintro e w1 ⟨hg1, hcase⟩
  have G1 : Hid (w.grownBy w1 none) := hg1
  clear hg1
  rcases hcase with ⟨k, hk, rfl⟩ | ⟨f, t, b, z, m, hk, rfl, h18, hw, hm⟩
  · have hke := openG_err _ _ _ l k hk
    have e1 : (k != 0) = true := by simp; omega
    have HP : Hid (canonR l = .inl k) := by
      show _ = _
      unfold canonR
      rw [hk]
    clear hk hke
    go_wp2
    go_ret2
    exact ⟨gallocR G1.out _, .inl ⟨k, HP.out, rfl⟩⟩
  have HK : Hid _ := hk
  have HWH : Hid _ := hw
  replace hm : m ≤ 400 := by simpa using hm
  obtain ⟨h1, h2, h3, h4, h5, h6, h7, h8, h9⟩ : (0 : Int) ≤ f ∧ (f : Int) ≤ 2147483647 ∧ (1 : Int) ≤ t ∧ (t : Int) ≤ 2147483647 ∧ (f : Int) ≠ t ∧ (1 : Int) ≤ b ∧ (b : Int) ≤ 100 ∧ (1 : Int) ≤ z ∧ (z : Int) ≤ 64 := of_decide_eq_true hw
  have HR : Hid (∀ W, _) := fun W => rrecords (l.drop 18) b z m f t true W (by omega) (by omega) (by simp; omega)
  clear hk hw h1 h2 h3 h4 h5 h6 h8
  have h18' : (18 : Int) ≤ (l.length : Int) := by omega
  go_wp2_with fail
  obtain ⟨W2, hW2⟩ : ∃ W2, W2 = w1.alloc (.cells #[.int .i64 f, .int .i64 t, .int .i64 b, .int .i64 z, .slice none 0 0] 24) := ⟨_, rfl⟩
  have hx2 : W2.heap[w1.heap.size]? = some (.cells #[.int .i64 f, .int .i64 t, .int .i64 b, .int .i64 z, .slice none 0 0] 24 (0, 0)) := by rw [hW2]; exact World.alloc_heap_new _ _
  have hg2 : w1.grownBy W2 none := by rw [hW2]; exact galloc _ _ _
  have hs2 : W2.heap.size = w1.heap.size + 1 := by rw [hW2]; simp
  rw [← hW2]
  clear hW2
  obtain ⟨x0, x1, x2, x3, x4, -, -, -, -, -⟩ := box5 hx2
  have X2 : Hid _ := hx2
  have G2 : Hid _ := hg2
  clear hx2 hg2
  go_region_held3 (fun w' => w'.cell? ⟨w1.heap.size, 0, none⟩ = some (.int .i64 f) ∧ w'.cell? ⟨w1.heap.size, 1, none⟩ = some (.int .i64 t) ∧ w'.cell? ⟨w1.heap.size, 2, none⟩ = some (.int .i64 b) ∧ w'.cell? ⟨w1.heap.size, 3, none⟩ = some (.int .i64 z) ∧ w'.cell? ⟨w1.heap.size, 4, none⟩ = some (.slice none 0 0) ∧ W2.grownBy w' none)
    (first | exact ⟨x0, x1, x2, x3, x4, drew_grown _ _ _⟩ | exact keep5g (by assumption) (by omega) G3.out)
    (first | (go_at_call 46; refine (HR.out _).mono ?_; rintro e w3 h3; obtain ⟨a, ln, cp, sr, ke, rfl, hg3, hcase⟩ := recsG_shape h3; have G3 : Hid _ := hg3; clear h3 hg3))
  rename_i hS3
  have hg3 := hS3.2.2.2.2.2
  obtain ⟨hx3, hltx3⟩ := box_kept X2.out hg3
  have GW3 : Hid (w.grownBy w3 none) := gtrans (gtrans G1.out G2.out) hg3
  have X3 : Hid _ := hx3
  clear hS3 x0 x1 x2 x3 x4
  rcases hcase with ⟨rs, hwk, hke⟩ | ⟨rs, q', hwk, rfl, rfl, hown⟩
  · have e1 : (ke != 0) = true := by simp; omega
    have HP : Hid (canonR l = .inl ke) := by
      show _ = _
      unfold canonR
      rw [HK.out]
      simp only []
      rw [hwk]
    clear hwk hke hx3 hg3
    go_wp2
    go_ret2
    exact ⟨GW3.out, .inl ⟨ke, HP.out, rfl⟩⟩
  have HCN : Hid (canonR l = if q'.length ≠ 0 then .inl 8 else .inr (f, t, b, z, lastsR rs b)) := by
    show _ = _
    unfold canonR
    rw [HK.out]
    simp only []
    rw [hwk]
  have hrl := walkS_length true b z m (-1) _ rs q' hwk
  subst hrl
  have HOK : Hid (recsOk b z (-1) (lastsR rs b) = true) := (lastsR_ok b z rs (walkS_okRec true b z _ (-1) _ rs _ hwk) b (Nat.le_refl _)).1
  by_cases hq : q'.length ≠ 0
  · have HP : Hid (canonR l = .inl 8) := by
      show _ = _
      rw [HCN.out, if_pos hq]
    have e1 : q'.isEmpty = false := isEmpty_false (by omega)
    clear hwk hx3 hg3 hown HCN
    go_wp2
    go_ret2
    exact ⟨GW3.out, .inl ⟨8, HP.out, rfl⟩⟩
  have HP : Hid (canonR l = .inr (f, t, b, z, lastsR rs b)) := by
    show _ = _
    rw [HCN.out, if_neg hq]
  obtain rfl : q' = [] := List.eq_nil_of_length_eq_zero (by omega)
  have O3 : Hid (OwnsR W2.heap.size w3 (.slice a ln cp) rs) := hown
  obtain rfl : ln = rs.length := by
    obtain ⟨a', cp', e⟩ := hown.recs.slice
    simp only [Value.slice.injEq] at e
    exact e.2.1
  have hsb : w1.heap.size < w3.heap.size := hltx3
  have G13 : Hid (w.heap.size ≤ w1.heap.size) := G1.out.size
  clear hwk hx3 hg3 hown HCN hq HK G1 G2 X2 HO HR
  go_wp2
  go_loopw [9] (fun bI wr => ∃ (k : Nat) (sv : Value), k ≤ b ∧ bI = .int .i64 k ∧ wr.heap[w1.heap.size]? = some (.cells #[.int .i64 f, .int .i64 t, .int .i64 b, .int .i64 z, sv] 24 (0, 0)) ∧ OwnsR w3.heap.size wr sv (lastsR rs k) ∧ (lastsR rs k).length ≤ k ∧ w3.grownBy wr (some w1.heap.size)) (fun bI _ => b - (intOf bI).toNat)
  case atStart => exact ⟨0, _, Nat.zero_le _, rfl, X3.out, World.ownsRow_nil _ _ _ _, Nat.le_refl _, drew_grown _ 0 _⟩
  case round =>
    obtain ⟨k, sv, hk, rfl, hb1, ho, hll, hG⟩ := hrel
    obtain ⟨sa, sl, sc, rfl⟩ := ho.slice
    obtain ⟨c0, c1, c2, c3, c4, f0, f1, f2, f3, f4⟩ := box5 hb1
    by_cases hlt : k < b
    · have B1 : Hid _ := hb1
      have HO1 : Hid (OwnsR w3.heap.size wr (.slice sa sl sc) (lastsR rs k)) := ho
      have HG1 : Hid _ := hG
      have R1 : Hid (Recs wr.heap.size wr (.slice a rs.length cp) rs) := (OwnsR.keptBut O3.out hG (by omega)).recs
      have hsw : w1.heap.size < wr.heap.size := (Array.getElem?_eq_some_iff.1 hb1).1
      clear hb1 ho hG
      go_wp2
      go_loopw [10] (fun i wq => ∃ j : Nat, j ≤ rs.length ∧ i = .int .i64 ((j : Int) - 1) ∧ (∀ r ∈ rs.drop j, r.block ≠ k) ∧ wq = wr) (fun i _ => (intOf i + 1).toNat)
      case atStart => exact ⟨rs.length, Nat.le_refl _, rfl, by simp, rfl⟩
      case round =>
        obtain ⟨j, hj, rfl, hall, rfl⟩ := hrel
        cases j with
        | zero =>
          have HN : Hid (lastsR rs (k + 1) = lastsR rs k) := by
            show _ = _
            rw [lastsR_succ, lastR_none rs k (by simpa using hall)]
            simp
          clear hall
          go_wp2
          refine ⟨⟨k + 1, _, by omega, by go_num, B1.out, ?_, ?_, HG1.out⟩, by simp [intOf]; omega⟩
          · rw [HN.out]
            exact HO1.out
          · rw [HN.out]
            omega
        | succ j =>
          rw [show ((j + 1 : Nat) : Int) - 1 = (j : Int) from by omega]
          obtain ⟨bb, off, ha, hbb, q0, q1, q2⟩ := R1.out.at (k := j) (by omega)
          subst ha
          have HN : Hid (rs[j].block = k → lastsR rs (k + 1) = lastsR rs k ++ [rs[j]]) := fun he => by
            rw [lastsR_succ, lastR_some rs k j (by omega) hall he]
            rfl
          have HA : Hid (rs[j].block ≠ k → ∀ r ∈ rs.drop j, r.block ≠ k) := fun he r hr => by
            rw [List.drop_eq_getElem_cons (by omega)] at hr
            rcases List.mem_cons.1 hr with rfl | hr
            · exact he
            · exact hall r hr
          clear hall
          generalize rs[j] = r at *
          have hjl : (j : Int) < (rs.length : Int) := by omega
          by_cases he : r.block = k
          · have HN2 : Hid _ := HN.out he
            have e1 : (r.block == (k : Int)) = true := by simpa using he
            clear HN HA he
            have HO2 : Hid (∀ o, OwnsR w3.heap.size (World.alloc wr.drew o) (.slice sa sl sc) (lastsR rs k)) := fun o => OwnsR.alloc (OwnsR.kept (W := wr) (W' := wr.drew) HO1.out ⟨rfl, rfl, rfl, Nat.le_refl _, fun _ _ _ => rfl⟩) o
            have HC2 : Hid (∀ j u, [Value.bool r.free, .int .i64 r.block, .string r.data][j]? = some u → (World.alloc wr.drew (.cells #[.bool r.free, .int .i64 r.block, .string r.data] 34)).cell? (Addr.add ⟨wr.heap.size, 0, none⟩ j) = some u) := cells_new2 wr.drew [.bool r.free, .int .i64 r.block, .string r.data] 34 _ rfl
            have hr2 : (lastsR rs k).length ≤ 2000 := by omega
            have HB2 : Hid (∀ o, w3.heap.size ≤ (World.alloc wr.drew o).heap.size) := fun o => by
              have := HG1.out.size
              simp
              omega
            have HM : Hid (∀ o W', (World.alloc wr.drew o).grownBy W' (Value.slice sa sl sc).ownBlock → wr.grownBy W' (Value.slice sa sl sc).ownBlock ∧ W'.cell? ⟨w1.heap.size, 4, none⟩ = some (.slice sa sl sc) ∧ W'.frozen? ⟨w1.heap.size, 4, none⟩ = false) := fun o W' hW' => by
              have hg' : wr.grownBy W' (Value.slice sa sl sc).ownBlock := ⟨hW'.os, hW'.tape, hW'.output, Nat.le_trans (by simp) hW'.size, fun q hq hne => (hW'.block q (by simp; omega) hne).trans (Below.heap_alloc _ _ _ hq)⟩
              have hne : some w1.heap.size ≠ (Value.slice sa sl sc).ownBlock := fun e => by have := HO1.out.own_ge _ e.symm; omega
              have hb := (hg'.block w1.heap.size hsw hne).trans B1.out
              obtain ⟨-, -, -, -, d4, -, -, -, -, z4⟩ := box5 hb
              exact ⟨hg', d4, z4⟩
            go_wp2_with fail
            go_region_law (first | (refine step_recT ?_ (.tmp 57) (.tmp 62) ?_ w3.heap.size (.slice sa sl sc) (lastsR rs k) r wr.heap.size ?_ ?_ ?_ ?_ ?_ ?_ ?_; rfl; rfl; rfl; exact HO2.out _; rfl; exact HC2.out; exact hr2; exact HB2.out _; intro v' w5 hO5 hg5; obtain ⟨a5, l5, c5, rfl⟩ := hO5.slice; have O5 : Hid _ := hO5; obtain ⟨hg6, e4, y4⟩ := HM.out _ _ hg5; have G5 : Hid _ := hg6; clear hO5 hg5 hg6))
            all_goals
              go_wp2
              obtain ⟨p1, p2, p3⟩ := box_step hsb B1.out HO1.out HG1.out G5.out O5.out
              refine ⟨⟨k + 1, _, by omega, by go_num, p1, ?_, ?_, p3⟩, by simp [intOf]; omega⟩
              · rw [HN2.out]
                exact p2
              · rw [HN2.out, List.length_append]
                simp only [List.length_singleton]
                omega
          · have HA2 : Hid _ := HA.out he
            have e1 : (r.block == (k : Int)) = false := by simpa using he
            clear HN HA
            go_wp2
            exact ⟨⟨j, by omega, rfl, HA2.out, trivial⟩, by simp [intOf]⟩
    · obtain rfl : k = b := by omega
      have HO1 : Hid (OwnsR w3.heap.size wr (.slice sa sl sc) (lastsR rs k)) := ho
      have HG1 : Hid _ := hG
      have HSE : Hid (∀ u : Unit, _) := fun _ => ser_good f t k z (.slice sa sl sc) (lastsR rs k) wr ho.recs HWH.out HOK.out
      have hsw : w1.heap.size < wr.heap.size := (Array.getElem?_eq_some_iff.1 hb1).1
      clear hb1 ho hG
      go_wp2_with fail
      refine (HSE.out ()).mono ?_
      rintro e w7 ⟨rfl, hb7⟩
      go_wp2
      go_ret2
      have hg7 : w3.grownBy w7 (some w1.heap.size) := gtrans HG1.out (gbelow hb7)
      exact ⟨grow_but G13.out GW3.out hg7, .inr ⟨f, t, k, z, _, HP.out, rfl⟩⟩
end Go.Proofs.Ytdjmhagclcfnfaa
