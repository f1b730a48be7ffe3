/- LExact2, Tx, RCanon, RChunk, RJoinM -/
import Derived.Test.YtdjmhagclcfnfaaLExact
import Derived.Test.YtdjmhagclcfnfaaSplitMToLWrites3
import Derived.OpenShut
import Derived.ShutString
import Derived.Deep.AppendLies
import Derived.Test.YtdjmhagclcfnfaaLOwn
import Derived.Deep.RegionLaw
import Derived.Test.YtdjmhagclcfnfaaRWrite
import Derived.Laws.AppendOwnNone
/- The statement on Exact. -/
namespace Go.Proofs.Ytdjmhagclcfnfaa
open Go.ChangeShapes Go.WideShapes Go.ChangeAt Go.RowKit
open Go.ChangeMaps (open_string shut_string)

theorem below_of_grown {A B : World} (h : A.grownBy B none) : Below A.heap.size A B := ⟨h.os, h.tape, h.output, h.size, fun k hk => h.block k hk (by simp)⟩

set_option maxRecDepth 100000 in
theorem exact_lifted (os : Os) (started : os.Started) (H : Type) (enc : TypeId × Value → H) :
    ReturnsInHanded {} Try.checked os 11 .any (Rows.exactSpec.pre6 enc Try.prog Try.f11 Rows.exactRow.domain false) (Rows.exactSpec.post enc Try.prog Try.f11 false true false false) := by
  refine returnsInHanded_of_change_sized (C := Try.checked) Try.own started (by kernel_rfl) Try.func11
    (ChangeSpec.witness6 (enc := enc) (C := Try.checked) false ⟨#[], #[.string ByteArray.empty], []⟩ 8 (by kernel_rfl) (by kernel_rfl) (by kernel_rfl) (by kernel_rfl)) ?_
  intro W base args ds gs before hval0 hW _ hsz0 _
  have hsz : (DataW.weightsEach Try.prog (Try.f11.params.toList ++ Rows.exactSpec.plain.varTypes Try.prog) (ds ++ gs)).all (· ≤ reachBytes) = true := hsz0
  clear hsz0
  have hval : ∀ (j : Nat) t v, Try.f11.params[j]? = some t → args[j]? = some v → Value.okWide Try.prog W .any base t v := hval0
  have hW' := hW
  obtain ⟨p, q, hA0, hV, rfl, _, _⟩ := hW
  have hA : DataW.TrodAll enc Try.prog W 0 (fun _ => true) true Try.f11.params.toList args.toList ds p := hA0
  rw [Try.params11] at hA hval hsz
  obtain ⟨v0, vs0, d0, ds0, p0, q0, hargs, rfl, rfl, h0, r0⟩ := trodAll_cons hA
  obtain ⟨rfl, rfl, rfl⟩ := trodAll_nil r0
  obtain rfl : args = #[v0] := by cases args; simp_all
  obtain ⟨rfl, rfl⟩ := trodVars_none hV
  obtain ⟨a0, rfl, rfl, rfl, w0⟩ := open_string Try.underlying9 (hval 0 9 v0 rfl rfl) h0
  clear hA0 hval0
  simp only [List.append_nil] at hW'
  have hlen : a0.data.toList.length ≤ 4611686018427387904 := by
    have h4 := DataW.weights_mem_each (H := H) (P := Try.prog) (j := 0) (ts := [9] ++ Rows.exactSpec.plain.varTypes Try.prog) (ds := [.lit (.string a0.data.toList)] ++ []) rfl rfl a0.data.toList.length (by simp [DataW.weights])
    have h5 := of_decide_eq_true (List.all_eq_true.1 hsz _ h4)
    simp only [reachBytes] at h5
    omega
  have hwalk := exact_walk a0.data.toList W hlen
  rw [show (⟨a0.data.toList.toArray⟩ : ByteArray) = a0 from rfl] at hwalk
  refine hwalk.mono fun e W' ⟨he, hg⟩ => ?_
  subst he
  have hb := below_of_grown hg
  refine ⟨_, rfl, _, _, _, [], [], [], hW', ?_, ?_, rfl, hb.frame _, fun h => by cases h⟩
  · exact trodAll_cons_mk (shut_bool Try.underlying4 _) trodAll_mk0
  · exact trodAll_cons_mk (shut_string Try.underlying9 w0) trodAll_mk0

theorem exact_holds : Rows.ExactSaid :=
  OpenClaim.holds_of_wide 11 Try.f11 rfl rfl rfl rfl rfl rfl rfl ⟨rfl, rfl, rfl, rfl, rfl⟩ rfl rfl rfl rfl rfl (by kernel_rfl) Try.func11 (by kernel_rfl)
    (of_decide_eq_true (by kernel_rfl)) (by unfold Func.isWrapper; first | (rw [if_pos (by decide +kernel)]; kernel_rfl) | (rw [if_neg (by decide +kernel)]; exact ⟨rfl, rfl⟩))
    (fun os started H enc _ => exact_lifted os started H enc)
end Go.Proofs.Ytdjmhagclcfnfaa
/- Lists of elements of one cell each (texts, numbers) that a call owns. -/
namespace Go.Proofs.Ytdjmhagclcfnfaa
open Go.RowKit Go.Shelf

/-- v owns the elements xs, of type e, in a block from B on. -/
def Own1 (e : TypeId) (B : Nat) (w : World) (v : Value) (xs : List Value) : Prop := w.ownsRow B e 1 v xs.length xs
theorem own1_snoc {e : TypeId} {B : Nat} {W : World} {v x : Value} {pre : List Value} (h : W.ownsRow B e 1 v (pre.length + 1) (pre ++ [x])) : Own1 e B W v (pre ++ [x]) := by
  unfold Own1
  rw [List.length_append]
  exact h
theorem own1_nil (e : TypeId) (B : Nat) (W : World) : Own1 e B W (.slice none 0 0) [] := World.ownsRow_nil _ _ _ _
theorem Own1.slice {e : TypeId} {B : Nat} {W : World} {v : Value} {xs : List Value} (h : Own1 e B W v xs) : ∃ a cp, v = .slice a xs.length cp := by
  rcases h.2 with ⟨rfl, h0⟩ | ⟨g, cap, cur, rfl, _⟩
  · exact ⟨none, 0, by rw [h0]⟩
  · exact ⟨_, _, rfl⟩
theorem Own1.at {e : TypeId} {B : Nat} {W : World} {a : Option Addr} {l cp : Nat} {xs : List Value} (h : Own1 e B W (.slice a l cp) xs) {k : Nat} (hk : k < xs.length) :
    ∃ b, a = some ⟨b, 0, none⟩ ∧ B ≤ b ∧ W.cell? ⟨b, k, none⟩ = some xs[k] ∧ W.frozen? ⟨b, k, none⟩ = false := by
  rcases h.2 with ⟨e0, h0⟩ | ⟨g, cap, cur, e0, hb, hg, hc, _, hs, ht⟩
  · rw [h0] at hk
    exact absurd hk (by omega)
  · simp only [Value.slice.injEq] at e0
    rw [Nat.mul_one] at ht
    have h1 : cur[k]? = some xs[k] := by
      have : (cur.toList.take xs.length)[k]? = some xs[k] := by rw [ht]; exact List.getElem?_eq_getElem hk
      rw [List.getElem?_take_of_lt hk] at this
      simpa using this
    exact ⟨g, e0.1, hb, boxed_cell hg h1, boxed_frozen hg⟩
theorem Own1.kept {e : TypeId} {B : Nat} {W W' : World} {v : Value} {xs : List Value} (h : Own1 e B W v xs) (hg : W.grownBy W' none) : Own1 e B W' v xs := by
  refine World.ownsRow.kept h hg ?_
  rcases h.2 with ⟨rfl, _⟩ | ⟨g, cap, cur, rfl, _⟩
  · exact .inl rfl
  · exact .inr (by simp [Value.ownBlock])
theorem Own1.alloc {e : TypeId} {B : Nat} {W : World} {v : Value} {xs : List Value} (h : Own1 e B W v xs) (o : Obj) : Own1 e B (W.alloc o) v xs := World.ownsRow.alloc h o
theorem Own1.base {e : TypeId} {B B' : Nat} {W : World} {v : Value} {xs : List Value} (h : Own1 e B W v xs) (hb : B' ≤ B) : Own1 e B' W v xs := by
  refine ⟨h.1, ?_⟩
  rcases h.2 with h | ⟨g, cap, cur, e0, h1, h2⟩
  · exact .inl h
  · exact .inr ⟨g, cap, cur, e0, Nat.le_trans hb h1, h2⟩
theorem Own1.grown {e : TypeId} {A W W' : World} {v : Value} {xs : List Value} (h : Own1 e A.heap.size W v xs) (hg : A.grownBy W none) (hk : W.grownBy W' v.ownBlock) : A.grownBy W' none := by
  refine ⟨hk.os.trans hg.os, hk.tape.trans hg.tape, hk.output.trans hg.output, Nat.le_trans hg.size hk.size, fun j hj hne => (hk.block j (Nat.lt_of_lt_of_le hj hg.size) ?_).trans (hg.block j hj hne)⟩
  rcases h.2 with ⟨rfl, _⟩ | ⟨g, cap, cur, rfl, hbg, _⟩
  · simp [Value.ownBlock]
  · simp [Value.ownBlock]; omega
theorem Own1.ne {e : TypeId} {B : Nat} {W : World} {v : Value} {xs : List Value} (h : Own1 e B W v xs) {k : Nat} {cs : Array Value} {t : TypeId} {fr : Nat × Nat} (hk : W.heap[k]? = some (.cells cs t fr)) (ht : t ≠ e) : some k ≠ v.ownBlock := by
  rcases h.2 with ⟨rfl, _⟩ | ⟨g, cap, cur, rfl, _, hgb, _⟩
  · simp [Value.ownBlock]
  · intro e0
    obtain rfl : k = g := by simpa [Value.ownBlock] using e0
    rw [hgb] at hk
    simp only [Option.some.injEq, Obj.cells.injEq] at hk
    exact ht hk.2.1.symm
theorem Own1.lt {e : TypeId} {B : Nat} {W : World} {v : Value} {xs : List Value} (h : Own1 e B W v xs) : some W.heap.size ≠ v.ownBlock := by
  rcases h.2 with ⟨rfl, _⟩ | ⟨g, cap, cur, rfl, hb, hg, _⟩
  · simp [Value.ownBlock]
  · have := (Array.getElem?_eq_some_iff.1 hg).1
    simp [Value.ownBlock]; omega
/-- What one owns stays, where another's block is written that is of another type. -/
theorem Own1.beside {e : TypeId} {B : Nat} {W W' : World} {v : Value} {xs : List Value} (h : Own1 e B W v xs) {o : Option Nat} (hg : W.grownBy W' o) (hne : ∀ k cs fr, W.heap[k]? = some (.cells cs e fr) → some k ≠ o) : Own1 e B W' v xs := by
  refine World.ownsRow.kept h hg ?_
  rcases h.2 with ⟨rfl, _⟩ | ⟨g, cap, cur, rfl, _, hg2, _⟩
  · exact .inl rfl
  · refine .inr ?_
    have := hne g cur (0, 0) hg2
    simp only [Value.ownBlock]
    exact this
theorem Own1.own_ge {e : TypeId} {B : Nat} {W : World} {v : Value} {xs : List Value} (h : Own1 e B W v xs) : ∀ g, v.ownBlock = some g → B ≤ g := by
  intro g e0
  rcases h.2 with ⟨rfl, _⟩ | ⟨g', cap, cur, rfl, hb, _⟩
  · simp [Value.ownBlock] at e0
  · obtain rfl : g' = g := by simpa [Value.ownBlock] using e0
    exact hb

/-- 'append(l, r)' at a step of a region that draws its order. -/
theorem step_recT {w : World} {ops : Array Oper} {o : Oper} {a : Act} {K : Act → World → Prop} {Q : Exit → Act → World → Prop} {E : Prop} (hgd : o.guard = none) (sl x : Operand)
    (ho : o.op = .call { callee := .builtin .append, args := #[sl, x], argTypes := #[22, 22] })
    (B : Nat) (v : Value) (rs : List Rc) (r : Rc) (nb : Nat) (hs : a.eval sl = v) (hown : OwnsR B w v rs) (hx : a.eval x = .slice (some ⟨nb, 0, none⟩) 1 1)
    (hc : ∀ j u, [Value.bool r.free, .int .i64 r.block, .string r.data][j]? = some u → w.cell? (Addr.add ⟨nb, 0, none⟩ j) = some u) (hl : rs.length ≤ 2000) (hB : B ≤ w.heap.size)
    (h : ∀ v' w', OwnsR B w' v' (rs ++ [r]) → w.grownBy w' v.ownBlock → K (a.put o.dst v') w') :
    if Region.wanted o (yielded ops a.tmps) = true then Oper.wp Try.prog o a w K Q else E := by
  obtain ⟨i0, hi, hz0, hz1, hz2⟩ := info_parts Try.infoRec
  have hml : rs.length + 1 ≤ maxLen := Nat.le_trans (show rs.length + 1 ≤ 2001 by omega) (by decide)
  refine step_append_lies w hgd sl x 22 ho B 34 i0 _ 3 32 Try.underlying22 hi hz0 hz1 hz2 rfl (by decide) v rs.length (recVals rs) hs hown ⟨nb, 0, none⟩ 1 1 _ hx rfl hc (by simp [Value.oneCell']) (by decide) hml (by omega) hB w.heap.size rfl ?_
  intro g cap w1 ho1 hg _ _
  exact h _ w1 (ownsR_snoc ho1) hg

/-- .. where one block has been written besides. -/
theorem OwnsR.keptBut {B : Nat} {W W' : World} {v : Value} {rs : List Rc} {sb : Nat} (h : OwnsR B W v rs) (hg : W.grownBy W' (some sb)) (hsb : sb < B) : OwnsR B W' v rs := by
  refine World.ownsRow.kept h hg ?_
  rcases h.2 with ⟨rfl, _⟩ | ⟨g, cap, cur, rfl, hb, _⟩
  · exact .inl rfl
  · refine .inr ?_
    simp only [Value.ownBlock, ne_eq, Option.some.injEq]
    omega
theorem box_step {A wr w3 : World} {sb : Nat} {v0 v1 v2 v3 sv v' : Value} {rs rs' : List Rc} (hsb : sb < A.heap.size)
    (h1 : wr.heap[sb]? = some (.cells #[v0, v1, v2, v3, sv] 24 (0, 0))) (ho : OwnsR A.heap.size wr sv rs) (hw : A.grownBy wr (some sb))
    (hg : wr.grownBy w3 sv.ownBlock) (ho' : OwnsR A.heap.size w3 v' rs') :
    (w3.setCell ⟨sb, 4, none⟩ v').heap[sb]? = some (.cells #[v0, v1, v2, v3, v'] 24 (0, 0)) ∧ OwnsR A.heap.size (w3.setCell ⟨sb, 4, none⟩ v') v' rs' ∧ A.grownBy (w3.setCell ⟨sb, 4, none⟩ v') (some sb) := by
  have hn : ∀ k, k < A.heap.size → some k ≠ sv.ownBlock := fun k hk e => by have := ho.own_ge k e.symm; omega
  have l1 := (Array.getElem?_eq_some_iff.1 h1).1
  have b1 := (hg.block sb l1 (hn _ hsb)).trans h1
  refine ⟨block_set (i := 4) b1 v', ho'.set hsb, ?_⟩
  have g3 : A.grownBy w3 (some sb) := ⟨hg.os.trans hw.os, hg.tape.trans hw.tape, hg.output.trans hw.output, Nat.le_trans hw.size hg.size, fun j hj hne => (hg.block j (Nat.lt_of_lt_of_le hj hw.size) (hn _ hj)).trans (hw.block j hj hne)⟩
  exact ⟨g3.os, g3.tape, g3.output, by simpa using g3.size, fun j hj hne => (Below.heap_setCell _ _ _ _ (fun e => hne (congrArg some e))).trans (g3.block j hj hne)⟩

theorem Try.infoInt1 : (Try.prog.info? 3).map (fun i => (i.zero, i.size, i.bytes)) = some (some (.int .i64 0), 1, 8) := by kernel_rfl

theorem wpList_append_str (w : World) {ops : Array Oper} {rest : List Oper} {o : Oper} {a : Act} {Q : Exit → Act → World → Prop} (hgd : o.guard = none) (s x : Operand)
    (ho : o.op = .call { callee := .builtin .append, args := #[s, x], argTypes := #[52, 52] })
    (B : Nat) (v : Value) (xs : List Value) (hs : a.eval s = v) (hown : Own1 9 B w v xs) (ad : Addr) (q : ByteArray) (hx : a.eval x = .slice (some ad) 1 1)
    (hnews : ∀ j u, [Value.string q][j]? = some u → w.cell? (ad.add j) = some u) (hl : xs.length ≤ 2000) (hB : B ≤ w.heap.size)
    (h : ∀ v' w', Own1 9 B w' v' (xs ++ [.string q]) → w.grownBy w' v.ownBlock → wpList Try.prog ops Q rest (a.put o.dst v') w') : wpList Try.prog ops Q (o :: rest) a w := by
  obtain ⟨i0, hi, hz0, hz1, hz2⟩ := info_parts Try.infoStr
  have hml : xs.length + 1 ≤ maxLen := Nat.le_trans (show xs.length + 1 ≤ 2001 by omega) (by decide)
  refine wpList_append_own w hgd s x 52 ho B 9 i0 _ 1 16 Try.underlying52 hi hz0 hz1 hz2 rfl (by decide) _ _ _ hs hown ad 1 1 _ hx rfl hnews (by simp [Value.oneCell']) hml (by omega) hB ?_
  intro v' w' ho' hg' _
  exact h v' w' (own1_snoc ho') hg'

theorem wpList_append_int (w : World) {ops : Array Oper} {rest : List Oper} {o : Oper} {a : Act} {Q : Exit → Act → World → Prop} (hgd : o.guard = none) (s x : Operand)
    (ho : o.op = .call { callee := .builtin .append, args := #[s, x], argTypes := #[64, 64] })
    (B : Nat) (v : Value) (xs : List Value) (hs : a.eval s = v) (hown : Own1 3 B w v xs) (ad : Addr) (q : Int) (hx : a.eval x = .slice (some ad) 1 1)
    (hnews : ∀ j u, [Value.int .i64 q][j]? = some u → w.cell? (ad.add j) = some u) (hl : xs.length ≤ 2000) (hB : B ≤ w.heap.size)
    (h : ∀ v' w', Own1 3 B w' v' (xs ++ [.int .i64 q]) → w.grownBy w' v.ownBlock → wpList Try.prog ops Q rest (a.put o.dst v') w') : wpList Try.prog ops Q (o :: rest) a w := by
  obtain ⟨i0, hi, hz0, hz1, hz2⟩ := info_parts Try.infoInt1
  have hml : xs.length + 1 ≤ maxLen := Nat.le_trans (show xs.length + 1 ≤ 2001 by omega) (by decide)
  refine wpList_append_own w hgd s x 64 ho B 3 i0 _ 1 8 Try.underlying64 hi hz0 hz1 hz2 rfl (by decide) _ _ _ hs hown ad 1 1 _ hx rfl hnews (by simp [Value.oneCell']) hml (by omega) hB ?_
  intro v' w' ho' hg' _
  exact h v' w' (own1_snoc ho') hg'
end Go.Proofs.Ytdjmhagclcfnfaa
/- The reference's Canon. -/
namespace Go.Proofs.Ytdjmhagclcfnfaa
open Go.RowKit Go.Shelf

/-- Of each block the last record. -/
def lastR (rs : List Rc) (i : Nat) : Option Rc := rs.reverse.find? (fun r => r.block == (i : Int))
def lastsR (rs : List Rc) (b : Nat) : List Rc := (List.range b).filterMap (lastR rs)
/-- What Canon answers, purely. -/
def canonR (l : List UInt8) : Int ⊕ (Nat × Nat × Nat × Nat × List Rc) :=
  match openG [83, 84, 82, 85] 18 400 l with
  | .inl k => .inl k
  | .inr (f, t, b, z, m) => match walkS (stepG true b z) m (-1) (l.drop 18) with
    | (_, .inl k) => .inl k
    | (rs, .inr q) => if q.length ≠ 0 then .inl 8 else .inr (f, t, b, z, lastsR rs b)
def ToldC (l : List UInt8) (w : World) (e : Ending) (w' : World) : Prop :=
  w.grownBy w' none ∧
    ((∃ k, canonR l = .inl k ∧ e = .returned (.tuple #[.string ⟨#[]⟩, .int .i64 k])) ∨
     (∃ f t b z rs, canonR l = .inr (f, t, b, z, rs) ∧ e = .returned (.tuple #[.string ⟨(serB f t b z rs).toArray⟩, .int .i64 0])))

theorem lastsR_succ (rs : List Rc) (b : Nat) : lastsR rs (b + 1) = lastsR rs b ++ (lastR rs b).toList := by
  unfold lastsR
  rw [List.range_succ, List.filterMap_append]
  cases h : lastR rs b with
  | none => simp [h]
  | some r => simp [h]
/-- Looking from the end. -/
theorem lastR_none (rs : List Rc) (b : Nat) (h : ∀ r ∈ rs, r.block ≠ b) : lastR rs b = none := by
  unfold lastR
  rw [List.find?_eq_none]
  intro r hr
  simpa using h r (by simpa using hr)
theorem lastR_some (rs : List Rc) (b k : Nat) (hk : k < rs.length) (h : ∀ r ∈ rs.drop (k + 1), r.block ≠ b) (he : rs[k].block = b) : lastR rs b = some rs[k] := by
  unfold lastR
  have hd : rs = rs.take k ++ rs[k] :: rs.drop (k + 1) := by rw [← List.drop_eq_getElem_cons hk, List.take_append_drop]
  have h2 : rs.reverse = (rs.drop (k + 1)).reverse ++ rs[k] :: (rs.take k).reverse := by
    conv => lhs; rw [hd]
    simp
  rw [h2, List.find?_append, List.find?_eq_none.2 (fun r hr => by simpa using h r (by simpa using hr)), Option.none_or, List.find?_cons_of_pos (by simp [he])]
theorem openG_err (M : List UInt8) (least most : Nat) (l : List UInt8) (k : Int) (h : openG M least most l = .inl k) : 2 ≤ k ∧ k ≤ 8 := by
  unfold openG at h
  repeat' split at h
  all_goals simp only [Sum.inl.injEq, reduceCtorEq] at h
  all_goals omega

theorem walkS_err (any : Bool) (b z : Nat) : ∀ (n : Nat) (last : Int) (q : List UInt8) (rs : List Rc) (k : Int), walkS (stepG any b z) n last q = (rs, .inl k) → 2 ≤ k ∧ k ≤ 8
  | 0, last, q, rs, k, h => by simp [walkS] at h
  | n + 1, last, q, rs, k, h => by
    rw [walkS] at h
    cases hs : stepG any b z last q with
    | inl k' =>
      rw [hs] at h
      simp only [Prod.mk.injEq, Sum.inl.injEq] at h
      obtain ⟨-, rfl⟩ := h
      exact stepG_err any b z last q k' hs
    | inr x =>
      obtain ⟨r, q'⟩ := x
      rw [hs] at h
      simp only [Prod.mk.injEq] at h
      cases h2 : walkS (stepG any b z) n r.block q' with
      | mk rs2 y =>
        rw [h2] at h
        obtain ⟨-, rfl⟩ := h
        exact walkS_err any b z n _ _ _ _ h2
theorem walkS_length (any : Bool) (b z : Nat) : ∀ (n : Nat) (last : Int) (q : List UInt8) (rs : List Rc) (q' : List UInt8), walkS (stepG any b z) n last q = (rs, .inr q') → rs.length = n
  | 0, last, q, rs, q', h => by simp [walkS] at h; simp [h.1]
  | n + 1, last, q, rs, q', h => by
    rw [walkS] at h
    cases hs : stepG any b z last q with
    | inl k' =>
      rw [hs] at h
      simp at h
    | inr x =>
      obtain ⟨r, q1⟩ := x
      rw [hs] at h
      simp only [Prod.mk.injEq] at h
      cases h2 : walkS (stepG any b z) n r.block q1 with
      | mk rs2 y =>
        rw [h2] at h
        obtain ⟨rfl, rfl⟩ := h
        rw [List.length_cons, walkS_length any b z n _ _ _ _ h2]
/-- What is read is right, of any order. -/
def OkRec (b z : Nat) (r : Rc) : Prop := 0 ≤ r.block ∧ r.block < b ∧ (r.data.size : Int) = if r.free then 0 else (z : Int)
theorem walkS_okRec (any : Bool) (b z : Nat) : ∀ (n : Nat) (last : Int) (q : List UInt8) (rs : List Rc) (y : Int ⊕ List UInt8), walkS (stepG any b z) n last q = (rs, y) → ∀ r ∈ rs, OkRec b z r
  | 0, last, q, rs, y, h => by simp [walkS] at h; simp [h.1]
  | n + 1, last, q, rs, y, h => by
    rw [walkS] at h
    cases hs : stepG any b z last q with
    | inl k' =>
      rw [hs] at h
      simp only [Prod.mk.injEq] at h
      obtain ⟨rfl, -⟩ := h
      intro r hr
      cases hr
    | inr x =>
      obtain ⟨r0, q1⟩ := x
      rw [hs] at h
      simp only [Prod.mk.injEq] at h
      cases h2 : walkS (stepG any b z) n r0.block q1 with
      | mk rs2 y2 =>
        rw [h2] at h
        obtain ⟨rfl, -⟩ := h
        intro r hr
        rcases List.mem_cons.1 hr with rfl | hr
        · unfold stepG at hs
          cases h3 : rdRec z q with
          | inl k => rw [h3] at hs; cases hs
          | inr x =>
            obtain ⟨r1, q2⟩ := x
            rw [h3] at hs
            simp only [] at hs
            split at hs
            · rename_i hc
              simp only [Sum.inr.injEq, Prod.mk.injEq] at hs
              obtain ⟨rfl, rfl⟩ := hs
              have h4 := rdRec_ok z q _ _ h3
              exact ⟨h4.2.2.1, hc.1, h4.2.1⟩
            · cases hs
        · exact walkS_okRec any b z n _ _ _ _ h2 r hr
theorem lastsR_ok (b z : Nat) (rs : List Rc) (h : ∀ r ∈ rs, OkRec b z r) : ∀ k, k ≤ b → recsOk b z (-1) (lastsR rs k) = true ∧ lastOf (-1) (lastsR rs k) < k
  | 0, _ => ⟨rfl, by simp [lastsR, lastOf]⟩
  | k + 1, hk => by
    obtain ⟨h1, h2⟩ := lastsR_ok b z rs h k (by omega)
    rw [lastsR_succ]
    cases hl : lastR rs k with
    | none =>
      simp only [Option.toList_none, List.append_nil]
      exact ⟨h1, by omega⟩
    | some r =>
      have hm : r ∈ rs := by simpa using List.mem_of_find?_eq_some hl
      have hb : r.block = (k : Int) := by simpa using List.find?_some hl
      obtain ⟨-, h4, h5⟩ := h r hm
      simp only [Option.toList_some]
      rw [recsOk_append, h1, Bool.true_and, lastOf_snoc]
      refine ⟨?_, by omega⟩
      simp only [recsOk, Bool.and_true]
      exact decide_eq_true ⟨by omega, h4, h5⟩
/-- .. in one shape. -/
theorem recsG_shape {any : Bool} {b z n : Nat} {q : List UInt8} {w w' : World} {e : Ending} (h : RecsSaid any b z n q w e w') :
    ∃ a ln cp s k, e = .returned (.tuple #[.slice a ln cp, .string s, .int .i64 k]) ∧ w.grownBy w' none ∧
      ((∃ rs, walkS (stepG any b z) n (-1) q = (rs, .inl k) ∧ 2 ≤ k) ∨ (∃ rs q', walkS (stepG any b z) n (-1) q = (rs, .inr q') ∧ s = ⟨q'.toArray⟩ ∧ k = 0 ∧ OwnsR w.heap.size w' (.slice a ln cp) rs)) := by
  obtain ⟨hg, (⟨rs, k, hw, rfl⟩ | ⟨rs, q', v, hw, rfl, ho⟩)⟩ := h
  · exact ⟨none, 0, 0, _, k, rfl, hg, .inl ⟨rs, hw, (walkS_err any b z n (-1) q rs k hw).1⟩⟩
  · obtain ⟨a, ln, cp, rfl⟩ := ho.slice
    exact ⟨a, ln, cp, _, 0, rfl, hg, .inr ⟨rs, q', hw, rfl, rfl, ho⟩⟩

theorem grow_but {w W W' : World} {sb : Nat} (hsb : w.heap.size ≤ sb) (h : w.grownBy W none) (hk : W.grownBy W' (some sb)) : w.grownBy W' none :=
  grow_own h hk (.inr fun x e => by simp only [Option.some.injEq] at e; omega)

set_option maxRecDepth 100000 in
set_option maxHeartbeats 4000000 in
theorem rcanon (l : List UInt8) (w : World) (hl : l.length ≤ 4611686018427387904) :
    Calls Try.prog 38 #[.string ⟨l.toArray⟩] w (ToldC l w) := by
  have HO : Hid (∀ W, _) := fun W => ropens l [83, 84, 82, 85] 18 400 W (by omega) hl
  have t18 := tail_eq l 18
  go_enter Try.func38, Try.ntmps38
  go_wp2_with fail
  refine (HO.out _).mono ?_
  rintro e w1 ⟨hg1, hcase⟩
  have G1 : Hid (w.grownBy w1 none) := hg1
  clear hg1
  rcases hcase with ⟨k, hk, rfl⟩ | ⟨f, t, b, z, m, hk, rfl, h18, hw, hm⟩
  · have hke := openG_err _ _ _ l k hk
    have e1 : (k != 0) = true := by simp; omega
    have HP : Hid (canonR l = .inl k) := by
      show _ = _
      unfold canonR
      rw [hk]
    clear hk hke
    go_wp2
    go_ret2
    exact ⟨gallocR G1.out _, .inl ⟨k, HP.out, rfl⟩⟩
  have HK : Hid _ := hk
  have HWH : Hid _ := hw
  replace hm : m ≤ 400 := by simpa using hm
  obtain ⟨h1, h2, h3, h4, h5, h6, h7, h8, h9⟩ : (0 : Int) ≤ f ∧ (f : Int) ≤ 2147483647 ∧ (1 : Int) ≤ t ∧ (t : Int) ≤ 2147483647 ∧ (f : Int) ≠ t ∧ (1 : Int) ≤ b ∧ (b : Int) ≤ 100 ∧ (1 : Int) ≤ z ∧ (z : Int) ≤ 64 := of_decide_eq_true hw
  have HR : Hid (∀ W, _) := fun W => rrecords (l.drop 18) b z m f t true W (by omega) (by omega) (by simp; omega)
  clear hk hw h1 h2 h3 h4 h5 h6 h8
  have h18' : (18 : Int) ≤ (l.length : Int) := by omega
  go_wp2_with fail
  obtain ⟨W2, hW2⟩ : ∃ W2, W2 = w1.alloc (.cells #[.int .i64 f, .int .i64 t, .int .i64 b, .int .i64 z, .slice none 0 0] 24) := ⟨_, rfl⟩
  have hx2 : W2.heap[w1.heap.size]? = some (.cells #[.int .i64 f, .int .i64 t, .int .i64 b, .int .i64 z, .slice none 0 0] 24 (0, 0)) := by rw [hW2]; exact World.alloc_heap_new _ _
  have hg2 : w1.grownBy W2 none := by rw [hW2]; exact galloc _ _ _
  have hs2 : W2.heap.size = w1.heap.size + 1 := by rw [hW2]; simp
  rw [← hW2]
  clear hW2
  obtain ⟨x0, x1, x2, x3, x4, -, -, -, -, -⟩ := box5 hx2
  have X2 : Hid _ := hx2
  have G2 : Hid _ := hg2
  clear hx2 hg2
  go_region_held3 (fun w' => w'.cell? ⟨w1.heap.size, 0, none⟩ = some (.int .i64 f) ∧ w'.cell? ⟨w1.heap.size, 1, none⟩ = some (.int .i64 t) ∧ w'.cell? ⟨w1.heap.size, 2, none⟩ = some (.int .i64 b) ∧ w'.cell? ⟨w1.heap.size, 3, none⟩ = some (.int .i64 z) ∧ w'.cell? ⟨w1.heap.size, 4, none⟩ = some (.slice none 0 0) ∧ W2.grownBy w' none)
    (first | exact ⟨x0, x1, x2, x3, x4, drew_grown _ _ _⟩ | exact keep5g (by assumption) (by omega) G3.out)
    (first | (go_at_call 46; refine (HR.out _).mono ?_; rintro e w3 h3; obtain ⟨a, ln, cp, sr, ke, rfl, hg3, hcase⟩ := recsG_shape h3; have G3 : Hid _ := hg3; clear h3 hg3))
  rename_i hS3
  have hg3 := hS3.2.2.2.2.2
  obtain ⟨hx3, hltx3⟩ := box_kept X2.out hg3
  have GW3 : Hid (w.grownBy w3 none) := gtrans (gtrans G1.out G2.out) hg3
  have X3 : Hid _ := hx3
  clear hS3 x0 x1 x2 x3 x4
  rcases hcase with ⟨rs, hwk, hke⟩ | ⟨rs, q', hwk, rfl, rfl, hown⟩
  · have e1 : (ke != 0) = true := by simp; omega
    have HP : Hid (canonR l = .inl ke) := by
      show _ = _
      unfold canonR
      rw [HK.out]
      simp only []
      rw [hwk]
    clear hwk hke hx3 hg3
    go_wp2
    go_ret2
    exact ⟨GW3.out, .inl ⟨ke, HP.out, rfl⟩⟩
  have HCN : Hid (canonR l = if q'.length ≠ 0 then .inl 8 else .inr (f, t, b, z, lastsR rs b)) := by
    show _ = _
    unfold canonR
    rw [HK.out]
    simp only []
    rw [hwk]
  have hrl := walkS_length true b z m (-1) _ rs q' hwk
  subst hrl
  have HOK : Hid (recsOk b z (-1) (lastsR rs b) = true) := (lastsR_ok b z rs (walkS_okRec true b z _ (-1) _ rs _ hwk) b (Nat.le_refl _)).1
  by_cases hq : q'.length ≠ 0
  · have HP : Hid (canonR l = .inl 8) := by
      show _ = _
      rw [HCN.out, if_pos hq]
    have e1 : q'.isEmpty = false := isEmpty_false (by omega)
    clear hwk hx3 hg3 hown HCN
    go_wp2
    go_ret2
    exact ⟨GW3.out, .inl ⟨8, HP.out, rfl⟩⟩
  have HP : Hid (canonR l = .inr (f, t, b, z, lastsR rs b)) := by
    show _ = _
    rw [HCN.out, if_neg hq]
  obtain rfl : q' = [] := List.eq_nil_of_length_eq_zero (by omega)
  have O3 : Hid (OwnsR W2.heap.size w3 (.slice a ln cp) rs) := hown
  obtain rfl : ln = rs.length := by
    obtain ⟨a', cp', e⟩ := hown.recs.slice
    simp only [Value.slice.injEq] at e
    exact e.2.1
  have hsb : w1.heap.size < w3.heap.size := hltx3
  have G13 : Hid (w.heap.size ≤ w1.heap.size) := G1.out.size
  clear hwk hx3 hg3 hown HCN hq HK G1 G2 X2 HO HR
  go_wp2
  go_loopw [9] (fun bI wr => ∃ (k : Nat) (sv : Value), k ≤ b ∧ bI = .int .i64 k ∧ wr.heap[w1.heap.size]? = some (.cells #[.int .i64 f, .int .i64 t, .int .i64 b, .int .i64 z, sv] 24 (0, 0)) ∧ OwnsR w3.heap.size wr sv (lastsR rs k) ∧ (lastsR rs k).length ≤ k ∧ w3.grownBy wr (some w1.heap.size)) (fun bI _ => b - (intOf bI).toNat)
  case atStart => exact ⟨0, _, Nat.zero_le _, rfl, X3.out, World.ownsRow_nil _ _ _ _, Nat.le_refl _, drew_grown _ 0 _⟩
  case round =>
    obtain ⟨k, sv, hk, rfl, hb1, ho, hll, hG⟩ := hrel
    obtain ⟨sa, sl, sc, rfl⟩ := ho.slice
    obtain ⟨c0, c1, c2, c3, c4, f0, f1, f2, f3, f4⟩ := box5 hb1
    by_cases hlt : k < b
    · have B1 : Hid _ := hb1
      have HO1 : Hid (OwnsR w3.heap.size wr (.slice sa sl sc) (lastsR rs k)) := ho
      have HG1 : Hid _ := hG
      have R1 : Hid (Recs wr.heap.size wr (.slice a rs.length cp) rs) := (OwnsR.keptBut O3.out hG (by omega)).recs
      have hsw : w1.heap.size < wr.heap.size := (Array.getElem?_eq_some_iff.1 hb1).1
      clear hb1 ho hG
      go_wp2
      go_loopw [10] (fun i wq => ∃ j : Nat, j ≤ rs.length ∧ i = .int .i64 ((j : Int) - 1) ∧ (∀ r ∈ rs.drop j, r.block ≠ k) ∧ wq = wr) (fun i _ => (intOf i + 1).toNat)
      case atStart => exact ⟨rs.length, Nat.le_refl _, rfl, by simp, rfl⟩
      case round =>
        obtain ⟨j, hj, rfl, hall, rfl⟩ := hrel
        cases j with
        | zero =>
          have HN : Hid (lastsR rs (k + 1) = lastsR rs k) := by
            show _ = _
            rw [lastsR_succ, lastR_none rs k (by simpa using hall)]
            simp
          clear hall
          go_wp2
          refine ⟨⟨k + 1, _, by omega, by go_num, B1.out, ?_, ?_, HG1.out⟩, by simp [intOf]; omega⟩
          · rw [HN.out]
            exact HO1.out
          · rw [HN.out]
            omega
        | succ j =>
          rw [show ((j + 1 : Nat) : Int) - 1 = (j : Int) from by omega]
          obtain ⟨bb, off, ha, hbb, q0, q1, q2⟩ := R1.out.at (k := j) (by omega)
          subst ha
          have HN : Hid (rs[j].block = k → lastsR rs (k + 1) = lastsR rs k ++ [rs[j]]) := fun he => by
            rw [lastsR_succ, lastR_some rs k j (by omega) hall he]
            rfl
          have HA : Hid (rs[j].block ≠ k → ∀ r ∈ rs.drop j, r.block ≠ k) := fun he r hr => by
            rw [List.drop_eq_getElem_cons (by omega)] at hr
            rcases List.mem_cons.1 hr with rfl | hr
            · exact he
            · exact hall r hr
          clear hall
          generalize rs[j] = r at *
          have hjl : (j : Int) < (rs.length : Int) := by omega
          by_cases he : r.block = k
          · have HN2 : Hid _ := HN.out he
            have e1 : (r.block == (k : Int)) = true := by simpa using he
            clear HN HA he
            have HO2 : Hid (∀ o, OwnsR w3.heap.size (World.alloc wr.drew o) (.slice sa sl sc) (lastsR rs k)) := fun o => OwnsR.alloc (OwnsR.kept (W := wr) (W' := wr.drew) HO1.out ⟨rfl, rfl, rfl, Nat.le_refl _, fun _ _ _ => rfl⟩) o
            have HC2 : Hid (∀ j u, [Value.bool r.free, .int .i64 r.block, .string r.data][j]? = some u → (World.alloc wr.drew (.cells #[.bool r.free, .int .i64 r.block, .string r.data] 34)).cell? (Addr.add ⟨wr.heap.size, 0, none⟩ j) = some u) := cells_new2 wr.drew [.bool r.free, .int .i64 r.block, .string r.data] 34 _ rfl
            have hr2 : (lastsR rs k).length ≤ 2000 := by omega
            have HB2 : Hid (∀ o, w3.heap.size ≤ (World.alloc wr.drew o).heap.size) := fun o => by
              have := HG1.out.size
              simp
              omega
            have HM : Hid (∀ o W', (World.alloc wr.drew o).grownBy W' (Value.slice sa sl sc).ownBlock → wr.grownBy W' (Value.slice sa sl sc).ownBlock ∧ W'.cell? ⟨w1.heap.size, 4, none⟩ = some (.slice sa sl sc) ∧ W'.frozen? ⟨w1.heap.size, 4, none⟩ = false) := fun o W' hW' => by
              have hg' : wr.grownBy W' (Value.slice sa sl sc).ownBlock := ⟨hW'.os, hW'.tape, hW'.output, Nat.le_trans (by simp) hW'.size, fun q hq hne => (hW'.block q (by simp; omega) hne).trans (Below.heap_alloc _ _ _ hq)⟩
              have hne : some w1.heap.size ≠ (Value.slice sa sl sc).ownBlock := fun e => by have := HO1.out.own_ge _ e.symm; omega
              have hb := (hg'.block w1.heap.size hsw hne).trans B1.out
              obtain ⟨-, -, -, -, d4, -, -, -, -, z4⟩ := box5 hb
              exact ⟨hg', d4, z4⟩
            go_wp2_with fail
            go_region_law (first | (refine step_recT ?_ (.tmp 57) (.tmp 62) ?_ w3.heap.size (.slice sa sl sc) (lastsR rs k) r wr.heap.size ?_ ?_ ?_ ?_ ?_ ?_ ?_; rfl; rfl; rfl; exact HO2.out _; rfl; exact HC2.out; exact hr2; exact HB2.out _; intro v' w5 hO5 hg5; obtain ⟨a5, l5, c5, rfl⟩ := hO5.slice; have O5 : Hid _ := hO5; obtain ⟨hg6, e4, y4⟩ := HM.out _ _ hg5; have G5 : Hid _ := hg6; clear hO5 hg5 hg6))
            all_goals
              go_wp2
              obtain ⟨p1, p2, p3⟩ := box_step hsb B1.out HO1.out HG1.out G5.out O5.out
              refine ⟨⟨k + 1, _, by omega, by go_num, p1, ?_, ?_, p3⟩, by simp [intOf]; omega⟩
              · rw [HN2.out]
                exact p2
              · rw [HN2.out, List.length_append]
                simp only [List.length_singleton]
                omega
          · have HA2 : Hid _ := HA.out he
            have e1 : (r.block == (k : Int)) = false := by simpa using he
            clear HN HA
            go_wp2
            exact ⟨⟨j, by omega, rfl, HA2.out, trivial⟩, by simp [intOf]⟩
    · obtain rfl : k = b := by omega
      have HO1 : Hid (OwnsR w3.heap.size wr (.slice sa sl sc) (lastsR rs k)) := ho
      have HG1 : Hid _ := hG
      have HSE : Hid (∀ u : Unit, _) := fun _ => ser_good f t k z (.slice sa sl sc) (lastsR rs k) wr ho.recs HWH.out HOK.out
      have hsw : w1.heap.size < wr.heap.size := (Array.getElem?_eq_some_iff.1 hb1).1
      clear hb1 ho hG
      go_wp2_with fail
      refine (HSE.out ()).mono ?_
      rintro e w7 ⟨rfl, hb7⟩
      go_wp2
      go_ret2
      have hg7 : w3.grownBy w7 (some w1.heap.size) := gtrans HG1.out (gbelow hb7)
      exact ⟨grow_but G13.out GW3.out hg7, .inr ⟨f, t, k, z, _, HP.out, rfl⟩⟩
end Go.Proofs.Ytdjmhagclcfnfaa
/- The reference's chunk. -/
namespace Go.Proofs.Ytdjmhagclcfnfaa
open Go.RowKit Go.Shelf

/-- What a chunk's text says. -/
structure Ck where
  f : Nat
  t : Nat
  b : Nat
  z : Nat
  all : Nat
  nu : Nat
  many : Nat
  rs : List Rc
def chunkR (l : List UInt8) : Int ⊕ Ck :=
  match openG [83, 84, 82, 67] 24 0 l with
  | .inl k => .inl k
  | .inr (f, t, b, z, all) =>
    if num ((l.drop 20).take 2) ≤ num ((l.drop 18).take 2) ∨ all < num ((l.drop 22).take 2) then .inl 4 else
    match walkR b z (num ((l.drop 22).take 2)) (-1) (l.drop 24) with
    | (_, .inl k) => .inl k
    | (rs, .inr q) => match endR l (l.length - q.length) with
      | some k => .inl k
      | none => .inr ⟨f, t, b, z, all, num ((l.drop 18).take 2), num ((l.drop 20).take 2), rs⟩
/-- The value of a chunk. -/
def ckV (c : Ck) (v : Value) : Value := .agg #[.int .i64 c.f, .int .i64 c.t, .int .i64 c.b, .int .i64 c.z, v, .int .i64 c.all, .int .i64 c.nu, .int .i64 c.many]
def ToldK (l : List UInt8) (w : World) (e : Ending) (w' : World) : Prop :=
  w.grownBy w' none ∧
    ((∃ k, chunkR l = .inl k ∧ e = .returned (.tuple #[ckV ⟨0, 0, 0, 0, 0, 0, 0, []⟩ (.slice none 0 0), .int .i64 k])) ∨
     (∃ c v, chunkR l = .inr c ∧ e = .returned (.tuple #[ckV c v, .int .i64 0]) ∧ OwnsR w.heap.size w' v c.rs))

theorem num2_lt (l : List UInt8) (p : Nat) : num ((l.drop p).take 2) < 65536 := by
  have h := num_lt ((l.drop p).take 2)
  have h2 : ((l.drop p).take 2).length ≤ 2 := by simp; omega
  have h3 : 256 ^ ((l.drop p).take 2).length ≤ 256 ^ 2 := Nat.pow_le_pow_right (by decide) h2
  omega

theorem box8z {W : World} {k : Nat} {t : TypeId} {cs : Array Value} (h : W.heap[k]? = some (.cells cs t (0, 0))) : ∀ i, W.frozen? ⟨k, i, none⟩ = false := fun _ => boxed_frozen h

theorem gfresh8 {w W : World} {k : Nat} (h : w.grownBy W none) (hk : w.heap.size ≤ k) (v0 v1 v2 v3 v4 v5 v6 v7 : Value) : w.grownBy ((((((((W.setCell ⟨k, 0, none⟩ v0).setCell ⟨k, 1, none⟩ v1).setCell ⟨k, 2, none⟩ v2).setCell ⟨k, 3, none⟩ v3).setCell ⟨k, 4, none⟩ v4).setCell ⟨k, 5, none⟩ v5).setCell ⟨k, 6, none⟩ v6).setCell ⟨k, 7, none⟩ v7) none :=
  gfresh (gfresh (gfresh (gfresh (gfresh (gfresh (gfresh (gfresh h hk) hk) hk) hk) hk) hk) hk) hk
theorem OwnsR.set8 {B : Nat} {W : World} {v : Value} {rs : List Rc} (h : OwnsR B W v rs) {k : Nat} (hk : k < B) (v0 v1 v2 v3 v4 v5 v6 v7 : Value) : OwnsR B ((((((((W.setCell ⟨k, 0, none⟩ v0).setCell ⟨k, 1, none⟩ v1).setCell ⟨k, 2, none⟩ v2).setCell ⟨k, 3, none⟩ v3).setCell ⟨k, 4, none⟩ v4).setCell ⟨k, 5, none⟩ v5).setCell ⟨k, 6, none⟩ v6).setCell ⟨k, 7, none⟩ v7) v rs :=
  (((((((h.set hk).set hk).set hk).set hk).set hk).set hk).set hk).set hk

set_option maxRecDepth 100000 in
set_option maxHeartbeats 4000000 in
theorem rchunk (l : List UInt8) (w : World) (hl : l.length ≤ 4611686018427387904) :
    Calls Try.prog 73 #[.string ⟨l.toArray⟩] w (ToldK l w) := by
  have HO : Hid (∀ W, _) := fun W => ropens l [83, 84, 82, 67] 24 0 W (by omega) hl
  have t24 := tail_eq l 24
  go_enter Try.func73, Try.ntmps73
  go_wp2_with fail
  refine (HO.out _).mono ?_
  rintro e w1 ⟨hg1, hcase⟩
  obtain ⟨hb1, hlt1⟩ := box_kept (World.alloc_heap_new w (.cells #[.int .i64 0, .int .i64 0, .int .i64 0, .int .i64 0, .slice none 0 0, .int .i64 0, .int .i64 0, .int .i64 0] 96)) hg1
  have B1 : Hid _ := hb1
  have G1 : Hid (w.grownBy w1 none) := gtrans (galloc _ _ _) hg1
  obtain ⟨c0, c1, c2, c3, c4, c5, c6, c7⟩ := box8 hb1
  have z0 := box8z hb1
  clear hg1 hb1
  rcases hcase with ⟨k, hk, rfl⟩ | ⟨f, t, b, z, m, hk, rfl, h24, hw, hm⟩
  · have hke := openG_err _ _ _ l k hk
    have e1 : (k != 0) = true := by simp; omega
    have HP : Hid (chunkR l = .inl k) := by
      show _ = _
      unfold chunkR
      rw [hk]
    clear hk hke
    go_wp2
    refine bodyPost_ret (v := .tuple #[.agg #[.int .i64 0, .int .i64 0, .int .i64 0, .int .i64 0, .slice none 0 0, .int .i64 0, .int .i64 0, .int .i64 0], .int .i64 k]) (by simp [results, Try.results73, go_sem, c0, c1, c2, c3, c4, c5, c6, c7, hlt1]) rfl ?_
    exact ⟨gallocR (gfresh8 G1.out (Nat.le_refl _) _ _ _ _ _ _ _ _) _, .inl ⟨k, HP.out, rfl⟩⟩
  have HK : Hid _ := hk
  replace hm : m ≤ b := by simpa using hm
  obtain ⟨h1, h2, h3, h4, h5, h6, h7, h8, h9⟩ : (0 : Int) ≤ f ∧ (f : Int) ≤ 2147483647 ∧ (1 : Int) ≤ t ∧ (t : Int) ≤ 2147483647 ∧ (f : Int) ≠ t ∧ (1 : Int) ≤ b ∧ (b : Int) ≤ 100 ∧ (1 : Int) ≤ z ∧ (z : Int) ≤ 64 := of_decide_eq_true hw
  have N18 : Hid (∀ W, _) := fun W => rnum_at _ _ 2 W (tail_data l 18) (by simp; omega) (by omega) (by simp; omega)
  have N20 : Hid (∀ W, _) := fun W => rnum_at _ _ 2 W (tail_data l 20) (by simp; omega) (by omega) (by simp; omega)
  have N22 : Hid (∀ W, _) := fun W => rnum_at _ _ 2 W (tail_data l 22) (by simp; omega) (by omega) (by simp; omega)
  have n18 := num2_lt l 18
  have n20 := num2_lt l 20
  have n22 := num2_lt l 22
  have HCK : Hid (chunkR l = if num ((l.drop 20).take 2) ≤ num ((l.drop 18).take 2) ∨ m < num ((l.drop 22).take 2) then .inl 4 else
    match walkR b z (num ((l.drop 22).take 2)) (-1) (l.drop 24) with
    | (_, .inl k) => .inl k
    | (rs, .inr q) => match endR l (l.length - q.length) with
      | some k => .inl k
      | none => .inr ⟨f, t, b, z, m, num ((l.drop 18).take 2), num ((l.drop 20).take 2), rs⟩) := by
    show _ = _
    unfold chunkR
    rw [HK.out]
  generalize num ((l.drop 18).take 2) = nu at *
  generalize num ((l.drop 20).take 2) = many at *
  generalize num ((l.drop 22).take 2) = here at *
  clear hk hw h1 h2 h3 h4 h5 h6 h8 HK HO
  have h24' : (24 : Int) ≤ (l.length : Int) := by omega
  have h18' : (18 : Int) ≤ (l.length : Int) := by omega
  have h20' : (20 : Int) ≤ (l.length : Int) := by omega
  have h22' : (22 : Int) ≤ (l.length : Int) := by omega
  go_wp2_with fail
  refine (N18.out _).mono ?_
  rintro e wx ⟨rfl, rfl⟩
  go_wp2_with fail
  refine (N20.out _).mono ?_
  rintro e wx ⟨rfl, rfl⟩
  go_wp2_with fail
  refine (N22.out _).mono ?_
  rintro e wx ⟨rfl, rfl⟩
  by_cases hc1 : many ≤ nu
  · have d1 : decide (many ≤ nu) = true := by simpa using hc1
    have HP : Hid (chunkR l = .inl 4) := by
      show _ = _
      rw [HCK.out, if_pos (.inl hc1)]
    clear HCK N18 N20 N22
    go_wp2
    refine bodyPost_ret (v := .tuple #[.agg #[.int .i64 0, .int .i64 0, .int .i64 0, .int .i64 0, .slice none 0 0, .int .i64 0, .int .i64 0, .int .i64 0], .int .i64 4]) (by simp [results, Try.results73, go_sem, c0, c1, c2, c3, c4, c5, c6, c7, hlt1]) rfl ?_
    exact ⟨gallocR (gallocR (gfresh8 G1.out (Nat.le_refl _) _ _ _ _ _ _ _ _) _) _, .inl ⟨4, HP.out, rfl⟩⟩
  by_cases hc2 : m < here
  · have d1 : decide (many ≤ nu) = false := by simpa using hc1
    have d2 : decide (m < here) = true := by simpa using hc2
    have HP : Hid (chunkR l = .inl 4) := by
      show _ = _
      rw [HCK.out, if_pos (.inr hc2)]
    clear HCK N18 N20 N22
    go_wp2
    refine bodyPost_ret (v := .tuple #[.agg #[.int .i64 0, .int .i64 0, .int .i64 0, .int .i64 0, .slice none 0 0, .int .i64 0, .int .i64 0, .int .i64 0], .int .i64 4]) (by simp [results, Try.results73, go_sem, c0, c1, c2, c3, c4, c5, c6, c7, hlt1]) rfl ?_
    exact ⟨gallocR (gallocR (gfresh8 G1.out (Nat.le_refl _) _ _ _ _ _ _ _ _) _) _, .inl ⟨4, HP.out, rfl⟩⟩
  have d1 : decide (many ≤ nu) = false := by simpa using hc1
  have d2 : decide (m < here) = false := by simpa using hc2
  rw [if_neg (by omega)] at HCK
  have HR : Hid (∀ W, _) := fun W => rrecords (l.drop 24) b z here f t false W (by omega) (by omega) (by simp; omega)
  clear N18 N20 N22
  go_wp2_with fail
  obtain ⟨W2, hW2⟩ : ∃ W2, W2 = (w1.alloc (.cells #[.int .i64 f, .int .i64 t, .int .i64 b, .int .i64 z, .slice none 0 0] 24)).alloc (.cells #[.int .i64 f, .int .i64 t, .int .i64 b, .int .i64 z, .slice none 0 0, .int .i64 m, .int .i64 nu, .int .i64 many] 96) := ⟨_, rfl⟩
  have hx2 : W2.heap[w1.heap.size]? = some (.cells #[.int .i64 f, .int .i64 t, .int .i64 b, .int .i64 z, .slice none 0 0] 24 (0, 0)) := by
    rw [hW2]
    exact (Below.heap_alloc _ _ _ (by simp)).trans (World.alloc_heap_new _ _)
  have hy2 : W2.heap[w1.heap.size + 1]? = some (.cells #[.int .i64 f, .int .i64 t, .int .i64 b, .int .i64 z, .slice none 0 0, .int .i64 m, .int .i64 nu, .int .i64 many] 96 (0, 0)) := by
    rw [hW2, show w1.heap.size + 1 = (w1.alloc (.cells #[.int .i64 f, .int .i64 t, .int .i64 b, .int .i64 z, .slice none 0 0] 24)).heap.size from by simp]
    exact World.alloc_heap_new _ _
  have hg2 : w1.grownBy W2 none := by rw [hW2]; exact gallocR (galloc _ _ _) _
  have hs2 : W2.heap.size = w1.heap.size + 2 := by rw [hW2]; simp
  rw [← hW2]
  clear hW2 c0 c1 c2 c3 c4 c5 c6 c7 z0
  obtain ⟨x0, x1, x2, x3, x4, -, -, -, -, -⟩ := box5 hx2
  have Y2 : Hid _ := hy2
  have G2 : Hid _ := hg2
  clear hx2 hy2 hg2
  go_region_held3 (fun w' => w'.cell? ⟨w1.heap.size, 0, none⟩ = some (.int .i64 f) ∧ w'.cell? ⟨w1.heap.size, 1, none⟩ = some (.int .i64 t) ∧ w'.cell? ⟨w1.heap.size, 2, none⟩ = some (.int .i64 b) ∧ w'.cell? ⟨w1.heap.size, 3, none⟩ = some (.int .i64 z) ∧ w'.cell? ⟨w1.heap.size, 4, none⟩ = some (.slice none 0 0) ∧ W2.grownBy w' none)
    (first | exact ⟨x0, x1, x2, x3, x4, drew_grown _ _ _⟩ | exact keep5g (by assumption) (by omega) G3.out)
    (first | (go_at_call 46; refine (HR.out _).mono ?_; rintro e w3 h3; obtain ⟨a, ln, cp, sr, ke, rfl, hg3, hcase⟩ := recs_shape h3; have G3 : Hid _ := hg3; clear h3 hg3))
  rename_i hS3
  have hg3 := hS3.2.2.2.2.2
  obtain ⟨hb3, hlt3⟩ := box_kept (box_kept B1.out G2.out).1 hg3
  obtain ⟨hy3, hlty3⟩ := box_kept Y2.out hg3
  have GW3 : Hid (w.grownBy w3 none) := gtrans (gtrans G1.out G2.out) hg3
  have B3 : Hid _ := hb3
  have Y3 : Hid _ := hy3
  clear hS3 x0 x1 x2 x3 x4
  rcases hcase with ⟨rs, hwk, hke⟩ | ⟨rs, q', hwk, rfl, rfl, hown⟩
  · have e1 : (ke != 0) = true := by simp; omega
    have HP : Hid (chunkR l = .inl ke) := by
      show _ = _
      rw [HCK.out, hwk]
    obtain ⟨c0, c1, c2, c3, c4, c5, c6, c7⟩ := box8 hb3
    have z0 := box8z hb3
    clear hwk hke hb3 hy3 hg3 HCK
    go_wp2
    refine bodyPost_ret (v := .tuple #[.agg #[.int .i64 0, .int .i64 0, .int .i64 0, .int .i64 0, .slice none 0 0, .int .i64 0, .int .i64 0, .int .i64 0], .int .i64 ke]) (by simp [results, Try.results73, go_sem, c0, c1, c2, c3, c4, c5, c6, c7]) rfl ?_
    exact ⟨gfresh8 GW3.out (Nat.le_refl _) _ _ _ _ _ _ _ _, .inl ⟨ke, HP.out, rfl⟩⟩
  obtain ⟨hrest, hpos, hql⟩ := rest_at l 24 b z here rs q' (by omega) h24 hwk
  have HE : Hid (∀ W, _) := fun W => rends l (l.length - q'.length) W (by omega) hl (by omega)
  rw [hrest] at HE
  rw [hwk] at HCK
  simp only [] at HCK
  have HOW : Hid (OwnsR (w1.heap.size + 2) w3 (.slice a ln cp) rs) := hown.base (by show _ ≤ W2.heap.size; omega)
  obtain ⟨c0, c1, c2, c3, c4, c5, c6, c7⟩ := box8 hy3
  have z0 := box8z hy3
  clear hwk hown hrest hpos hql hb3 hg3 hy3
  go_wp2_with fail
  have hne : w.heap.size ≠ w1.heap.size + 1 := by omega
  obtain ⟨W4, hW4⟩ : ∃ W4, W4 = w3.setCell ⟨w1.heap.size + 1, 4, none⟩ (.slice a ln cp) := ⟨_, rfl⟩
  have B4 : Hid (W4.heap[w.heap.size]? = some (.cells #[.int .i64 0, .int .i64 0, .int .i64 0, .int .i64 0, .slice none 0 0, .int .i64 0, .int .i64 0, .int .i64 0] 96 (0, 0))) := by
    show _ = _
    rw [hW4]
    exact (Below.heap_setCell _ _ _ _ hne).trans B3.out
  have Y4 : Hid (W4.heap[w1.heap.size + 1]? = some (.cells #[.int .i64 f, .int .i64 t, .int .i64 b, .int .i64 z, .slice a ln cp, .int .i64 m, .int .i64 nu, .int .i64 many] 96 (0, 0))) := by
    show _ = _
    rw [hW4]
    exact block_set (i := 4) Y3.out _
  have O4 : Hid (OwnsR (w1.heap.size + 2) W4 (.slice a ln cp) rs) := by
    show OwnsR _ _ _ _
    rw [hW4]
    exact HOW.out.set (by omega)
  have GW4 : Hid (w.grownBy W4 none) := by
    show World.grownBy _ _ _
    rw [hW4]
    exact gfresh GW3.out (by omega)
  rw [← hW4]
  clear hW4 c0 c1 c2 c3 c4 c5 c6 c7 z0
  refine (HE.out _).mono ?_
  rintro e w5 ⟨rfl, hg5⟩
  obtain ⟨hb5, hlt5⟩ := box_kept B4.out hg5
  obtain ⟨hy5, hlty5⟩ := box_kept Y4.out hg5
  have GW5 : Hid (w.grownBy w5 none) := gtrans GW4.out hg5
  have O5 : Hid (OwnsR (w1.heap.size + 2) w5 (.slice a ln cp) rs) := OwnsR.kept O4.out hg5
  obtain ⟨c0, c1, c2, c3, c4, c5, c6, c7⟩ := box8 hb5
  have z0 := box8z hb5
  obtain ⟨y0, y1, y2, y3, y4, y5, y6, y7⟩ := box8 hy5
  clear hg5 hb5 hy5 B1 B3 B4 Y2 Y3 Y4 O4 G1 G2 GW3 GW4 HOW HR HE
  cases he : endR l (l.length - q'.length) with
  | some k =>
    have hke := endR_err l _ k he
    have e1 : (k != 0) = true := by simp; omega
    have HP : Hid (chunkR l = .inl k) := by
      show _ = _
      rw [HCK.out, he]
    simp only [Option.getD_some]
    clear he hke HCK
    go_wp2
    refine bodyPost_ret (v := .tuple #[.agg #[.int .i64 0, .int .i64 0, .int .i64 0, .int .i64 0, .slice none 0 0, .int .i64 0, .int .i64 0, .int .i64 0], .int .i64 k]) (by simp [results, Try.results73, go_sem, c0, c1, c2, c3, c4, c5, c6, c7]) rfl ?_
    exact ⟨gfresh8 GW5.out (Nat.le_refl _) _ _ _ _ _ _ _ _, .inl ⟨k, HP.out, rfl⟩⟩
  | none =>
    have HP : Hid (chunkR l = .inr ⟨f, t, b, z, m, nu, many, rs⟩) := by
      show _ = _
      rw [HCK.out, he]
    simp only [Option.getD_none]
    clear he HCK
    go_wp2
    refine bodyPost_ret (v := .tuple #[.agg #[.int .i64 f, .int .i64 t, .int .i64 b, .int .i64 z, .slice a ln cp, .int .i64 m, .int .i64 nu, .int .i64 many], .int .i64 0]) (by simp [results, Try.results73, go_sem, c0, c1, c2, c3, c4, c5, c6, c7]) rfl ?_
    exact ⟨gfresh8 GW5.out (Nat.le_refl _) _ _ _ _ _ _ _ _, .inr ⟨_, _, HP.out, rfl, (O5.out.set8 (by omega) _ _ _ _ _ _ _ _).base (by omega)⟩⟩
end Go.Proofs.Ytdjmhagclcfnfaa
/- The reference's Join. -/
namespace Go.Proofs.Ytdjmhagclcfnfaa
open Go.RowKit Go.Shelf

/-- A list of texts that is handed in. -/
def Txs (B : Nat) (W : World) (sv : Value) (ts : List (List UInt8)) : Prop :=
  (ts = [] ∧ ∃ a cap, sv = .slice a 0 cap) ∨ ∃ b off cap, sv = .slice (some ⟨b, off, none⟩) ts.length cap ∧ b < B ∧ ∀ j (h : j < ts.length), W.cell? ⟨b, off + j, none⟩ = some (.string ⟨ts[j].toArray⟩)
theorem Txs.moved {W W' : World} {sv : Value} {ts : List (List UInt8)} (h : Txs W.heap.size W sv ts) (hb : Below W.heap.size W W') : Txs W'.heap.size W' sv ts := by
  rcases h with h | ⟨b, off, cap, e, hlt, hc⟩
  · exact .inl h
  · exact .inr ⟨b, off, cap, e, Nat.lt_of_lt_of_le hlt hb.size, fun j hj => (hb.cell (p := ⟨b, _, none⟩) hlt).trans (hc j hj)⟩
theorem Txs.slice {B : Nat} {W : World} {sv : Value} {ts : List (List UInt8)} (h : Txs B W sv ts) : ∃ a cap, sv = .slice a ts.length cap := by
  rcases h with ⟨rfl, a, cap, e⟩ | ⟨b, off, cap, e, _⟩
  · exact ⟨a, cap, e⟩
  · exact ⟨_, cap, e⟩
theorem Txs.at {B : Nat} {W : World} {a : Option Addr} {l cap : Nat} {ts : List (List UInt8)} (h : Txs B W (.slice a l cap) ts) {k : Nat} (hk : k < ts.length) :
    ∃ b off, a = some ⟨b, off, none⟩ ∧ b < B ∧ W.cell? ⟨b, off + k, none⟩ = some (.string ⟨ts[k].toArray⟩) := by
  rcases h with ⟨rfl, _⟩ | ⟨b, off, cap', e, hlt, hc⟩
  · simp at hk
  · simp only [Value.slice.injEq] at e
    exact ⟨b, off, e.1, hlt, hc k hk⟩

/-- The chunks of texts. -/
def chunksOf : List (List UInt8) → Int ⊕ List Ck
  | [] => .inr []
  | t :: ts => match chunkR t with
    | .inl k => .inl k
    | .inr c => match chunksOf ts with
      | .inl k => .inl k
      | .inr cs => .inr (c :: cs)
theorem chunksOf_ok : ∀ (xs : List (List UInt8)) (cs : List Ck) (t : List UInt8) (c : Ck), chunksOf xs = .inr cs → chunkR t = .inr c → chunksOf (xs ++ [t]) = .inr (cs ++ [c])
  | [], cs, t, c, h, hc => by
    simp only [chunksOf, Sum.inr.injEq] at h
    subst h
    simp [chunksOf, hc]
  | x :: xs, cs, t, c, h, hc => by
    rw [List.cons_append, chunksOf]
    rw [chunksOf] at h
    cases hx : chunkR x with
    | inl k => rw [hx] at h; cases h
    | inr c0 =>
      rw [hx] at h
      simp only [] at h
      cases h2 : chunksOf xs with
      | inl k => rw [h2] at h; cases h
      | inr cs0 =>
        rw [h2] at h
        simp only [Sum.inr.injEq] at h
        subst h
        simp only [chunksOf_ok xs cs0 t c h2 hc, List.cons_append]
theorem chunksOf_bad : ∀ (xs : List (List UInt8)) (cs : List Ck) (t : List UInt8) (ys : List (List UInt8)) (k : Int), chunksOf xs = .inr cs → chunkR t = .inl k → chunksOf (xs ++ t :: ys) = .inl k
  | [], cs, t, ys, k, h, hc => by simp [chunksOf, hc]
  | x :: xs, cs, t, ys, k, h, hc => by
    rw [List.cons_append, chunksOf]
    rw [chunksOf] at h
    cases hx : chunkR x with
    | inl k => rw [hx] at h; cases h
    | inr c0 =>
      rw [hx] at h
      simp only [] at h
      cases h2 : chunksOf xs with
      | inl k => rw [h2] at h; cases h
      | inr cs0 => simp only [chunksOf_bad xs cs0 t ys k h2 hc]
theorem chunksOf_length : ∀ (xs : List (List UInt8)) (cs : List Ck), chunksOf xs = .inr cs → cs.length = xs.length
  | [], cs, h => by
    simp only [chunksOf, Sum.inr.injEq] at h
    subst h
    rfl
  | x :: xs, cs, h => by
    rw [chunksOf] at h
    cases hx : chunkR x with
    | inl k => rw [hx] at h; cases h
    | inr c0 =>
      rw [hx] at h
      simp only [] at h
      cases h2 : chunksOf xs with
      | inl k => rw [h2] at h; cases h
      | inr cs0 =>
        rw [h2] at h
        simp only [Sum.inr.injEq] at h
        subst h
        simp [chunksOf_length xs cs0 h2]
theorem chunkR_err (l : List UInt8) (k : Int) (h : chunkR l = .inl k) : 2 ≤ k ∧ k ≤ 8 := by
  unfold chunkR at h
  split at h
  · rename_i k' ho
    simp only [Sum.inl.injEq] at h
    rw [← h]
    exact openG_err _ _ _ l k' ho
  · rename_i f t b z all ho
    split at h
    · simp only [Sum.inl.injEq] at h
      omega
    · split at h
      · rename_i k' hw
        simp only [Sum.inl.injEq] at h
        rw [← h]
        exact walk_err b z _ (-1) _ hw
      · split at h
        · rename_i k' he
          simp only [Sum.inl.injEq] at h
          rw [← h]
          exact endR_err l _ k' he
        · cases h

/-- What Join answers, purely. -/
def sameHead (a c : Ck) : Bool := decide (c.f = a.f ∧ c.t = a.t ∧ c.b = a.b ∧ c.z = a.z ∧ c.all = a.all ∧ c.many = a.many)
def gathered (cs : List Ck) (n : Nat) : List Rc := (cs.filter (fun c => c.nu == n)).flatMap Ck.rs
def gatherAll (cs : List Ck) (n : Nat) : List Rc := (List.range n).flatMap (gathered cs)
def joinOk (a : Ck) (cs : List Ck) : Bool :=
  decide (cs.length = a.many) && cs.all (sameHead a) && (List.range a.many).all (fun n => decide ((cs.filter (fun c => c.nu == n)).length = 1)) && (recsOk a.b a.z (-1) (gatherAll cs a.many) && decide ((gatherAll cs a.many).length = a.all))
theorem joinOk_iff (a : Ck) (cs : List Ck) : joinOk a cs = true ↔ cs.length = a.many ∧ (∀ c ∈ cs, sameHead a c = true) ∧ (∀ n, n < a.many → (cs.filter (fun c => c.nu == n)).length = 1) ∧ recsOk a.b a.z (-1) (gatherAll cs a.many) = true ∧ (gatherAll cs a.many).length = a.all := by
  simp only [joinOk, Bool.and_eq_true, decide_eq_true_eq, List.all_eq_true, List.mem_range, and_assoc]
def joinC : Int ⊕ List Ck → Int ⊕ (Nat × Nat × Nat × Nat × List Rc)
  | .inl k => .inl k
  | .inr [] => .inl 1
  | .inr (a :: cs) => if joinOk a (a :: cs) = true then .inr (a.f, a.t, a.b, a.z, gatherAll (a :: cs) a.many) else .inl 13
def joinR (ts : List (List UInt8)) : Int ⊕ (Nat × Nat × Nat × Nat × List Rc) := if ts.length < 1 ∨ 100 < ts.length then .inl 1 else joinC (chunksOf ts)
def ToldJ (ts : List (List UInt8)) (w : World) (e : Ending) (w' : World) : Prop :=
  w.grownBy w' none ∧
    ((∃ k, joinR ts = .inl k ∧ e = .returned (.tuple #[.string ⟨#[]⟩, .int .i64 k])) ∨
     (∃ f t b z rs, joinR ts = .inr (f, t, b, z, rs) ∧ e = .returned (.tuple #[.string ⟨(serB f t b z rs).toArray⟩, .int .i64 0])))

/-- Chunks in a row that a call owns. -/
def ckCells (p : Ck × Value) : List Value := [.int .i64 p.1.f, .int .i64 p.1.t, .int .i64 p.1.b, .int .i64 p.1.z, p.2, .int .i64 p.1.all, .int .i64 p.1.nu, .int .i64 p.1.many]
def OwnsK (B : Nat) (w : World) (v : Value) (ps : List (Ck × Value)) : Prop := w.ownsRow B 96 8 v ps.length (ps.flatMap ckCells)
theorem ckCells_length (ps : List (Ck × Value)) : (ps.flatMap ckCells).length = ps.length * 8 := by
  induction ps with
  | nil => rfl
  | cons p ps ih => rw [List.flatMap_cons, List.length_append, ih, List.length_cons]; simp [ckCells]; omega
theorem ckCells_at : ∀ (ps : List (Ck × Value)) (k : Nat) (h : k < ps.length) (j : Nat) (_ : j < 8), (ps.flatMap ckCells)[k * 8 + j]? = (ckCells ps[k])[j]?
  | p :: ps, 0, _, j, hj => by
    rw [List.flatMap_cons, List.getElem?_append_left (by simp [ckCells]; omega)]
    simp
  | p :: ps, k + 1, h, j, hj => by
    rw [List.flatMap_cons, List.getElem?_append_right (by simp [ckCells]; omega)]
    rw [show (k + 1) * 8 + j - (ckCells p).length = k * 8 + j from by simp [ckCells]; omega]
    rw [ckCells_at ps k (by simpa using h) j hj]
    rfl
theorem ownsK_snoc {B : Nat} {W : World} {v : Value} {ps : List (Ck × Value)} {p : Ck × Value} (h : W.ownsRow B 96 8 v (ps.length + 1) (ps.flatMap ckCells ++ ckCells p)) : OwnsK B W v (ps ++ [p]) := by
  unfold OwnsK
  rw [List.flatMap_append, List.length_append]
  simpa using h
theorem OwnsK.slice {B : Nat} {W : World} {v : Value} {ps : List (Ck × Value)} (h : OwnsK B W v ps) : ∃ a cp, v = .slice a ps.length cp := by
  rcases h.2 with ⟨rfl, h0⟩ | ⟨g, cap, cur, rfl, _⟩
  · exact ⟨none, 0, by rw [h0]⟩
  · exact ⟨_, _, rfl⟩
theorem OwnsK.at {B : Nat} {W : World} {a : Option Addr} {l cp : Nat} {ps : List (Ck × Value)} (h : OwnsK B W (.slice a l cp) ps) {k : Nat} (hk : k < ps.length) :
    ∃ g, a = some ⟨g, 0, none⟩ ∧ B ≤ g ∧ g < W.heap.size ∧ ∀ j (_ : j < 8), W.cell? ⟨g, k * 8 + j, none⟩ = (ckCells ps[k])[j]? := by
  rcases h.2 with ⟨e0, h0⟩ | ⟨g, cap, cur, e0, hb, hg, hc, _, hs, ht⟩
  · rw [h0] at hk
    exact absurd hk (by omega)
  · simp only [Value.slice.injEq] at e0
    refine ⟨g, e0.1, hb, (Array.getElem?_eq_some_iff.1 hg).1, fun j hj => ?_⟩
    have h1 := ckCells_at ps k hk j hj
    rw [← ht, List.getElem?_take_of_lt (by omega)] at h1
    have hl : j < (ckCells ps[k]).length := by simp [ckCells]; omega
    rw [← h1]
    rw [List.getElem?_eq_getElem hl] at h1
    rw [boxed_cell hg (by simpa using h1)]
    exact h1.symm
theorem OwnsK.kept {B : Nat} {W W' : World} {v : Value} {ps : List (Ck × Value)} (h : OwnsK B W v ps) (hg : W.grownBy W' none) : OwnsK B W' v ps := by
  refine World.ownsRow.kept h hg ?_
  rcases h.2 with ⟨rfl, _⟩ | ⟨g, cap, cur, rfl, _⟩
  · exact .inl rfl
  · exact .inr (by simp [Value.ownBlock])
theorem OwnsK.alloc {B : Nat} {W : World} {v : Value} {ps : List (Ck × Value)} (h : OwnsK B W v ps) (o : Obj) : OwnsK B (W.alloc o) v ps := World.ownsRow.alloc h o
theorem OwnsK.own_ge {B : Nat} {W : World} {v : Value} {ps : List (Ck × Value)} (h : OwnsK B W v ps) : ∀ g, v.ownBlock = some g → B ≤ g := by
  intro g e0
  rcases h.2 with ⟨rfl, _⟩ | ⟨g', cap, cur, rfl, hb, _⟩
  · simp [Value.ownBlock] at e0
  · obtain rfl : g' = g := by simpa [Value.ownBlock] using e0
    exact hb
theorem OwnsK.ne {B : Nat} {W : World} {v : Value} {ps : List (Ck × Value)} (h : OwnsK B W v ps) {k : Nat} {cs : Array Value} {t : TypeId} {fr : Nat × Nat} (hk : W.heap[k]? = some (.cells cs t fr)) (ht : t ≠ 96) : some k ≠ v.ownBlock := by
  rcases h.2 with ⟨rfl, _⟩ | ⟨g, cap, cur, rfl, _, hgb, _⟩
  · simp [Value.ownBlock]
  · intro e0
    obtain rfl : k = g := by simpa [Value.ownBlock] using e0
    rw [hgb] at hk
    simp only [Option.some.injEq, Obj.cells.injEq] at hk
    exact ht hk.2.1.symm
theorem OwnsK.beside {B : Nat} {W W' : World} {v : Value} {ps : List (Ck × Value)} (h : OwnsK B W v ps) {o : Option Nat} (hg : W.grownBy W' o) (hne : ∀ k cs fr, W.heap[k]? = some (.cells cs 96 fr) → some k ≠ o) : OwnsK B W' v ps := by
  refine World.ownsRow.kept h hg ?_
  rcases h.2 with ⟨rfl, _⟩ | ⟨g, cap, cur, rfl, _, hg2, _⟩
  · exact .inl rfl
  · exact .inr (hne g cur (0, 0) hg2)
theorem OwnsR.beside {B : Nat} {W W' : World} {v : Value} {rs : List Rc} (h : OwnsR B W v rs) {o : Option Nat} (hg : W.grownBy W' o) (hne : ∀ k cs fr, W.heap[k]? = some (.cells cs 34 fr) → some k ≠ o) : OwnsR B W' v rs := by
  refine World.ownsRow.kept h hg ?_
  rcases h.2 with ⟨rfl, _⟩ | ⟨g, cap, cur, rfl, _, hg2, _⟩
  · exact .inl rfl
  · exact .inr (hne g cur (0, 0) hg2)
theorem Try.infoCk : (Try.prog.info? 96).map (fun i => (i.zero, i.size, i.bytes)) = some (some (.agg #[.int .i64 0, .int .i64 0, .int .i64 0, .int .i64 0, .slice none 0 0, .int .i64 0, .int .i64 0, .int .i64 0]), 8, 80) := by kernel_rfl
theorem wpList_append_ck (w : World) {ops : Array Oper} {rest : List Oper} {o : Oper} {a : Act} {Q : Exit → Act → World → Prop} (hgd : o.guard = none) (s x : Operand)
    (ho : o.op = .call { callee := .builtin .append, args := #[s, x], argTypes := #[112, 112] })
    (B : Nat) (v : Value) (ps : List (Ck × Value)) (hs : a.eval s = v) (hown : OwnsK B w v ps) (ad : Addr) (p : Ck × Value) (hp : ∃ b l c, p.2 = .slice b l c) (hx : a.eval x = .slice (some ad) 1 1)
    (hnews : ∀ j u, (ckCells p)[j]? = some u → w.cell? (ad.add j) = some u) (hl : ps.length ≤ 2000) (hB : B ≤ w.heap.size)
    (h : ∀ v' w', OwnsK B w' v' (ps ++ [p]) → w.grownBy w' v.ownBlock → wpList Try.prog ops Q rest (a.put o.dst v') w') : wpList Try.prog ops Q (o :: rest) a w := by
  obtain ⟨i0, hi, hz0, hz1, hz2⟩ := info_parts Try.infoCk
  obtain ⟨b, l, c, hp⟩ := hp
  have hml : ps.length + 1 ≤ maxLen := Nat.le_trans (show ps.length + 1 ≤ 2001 by omega) (by decide)
  refine wpList_append_own w hgd s x 112 ho B 96 i0 _ 8 80 Try.underlying112 hi hz0 hz1 hz2 rfl (by decide) _ _ _ hs hown ad 1 1 _ hx rfl hnews (by simp [ckCells, Value.oneCell', hp]) hml (by omega) hB ?_
  intro v' w' ho' hg' _
  exact h v' w' (ownsK_snoc ho') hg'

theorem recVals_append (xs ys : List Rc) : recVals (xs ++ ys) = recVals xs ++ recVals ys := by simp [recVals]
theorem recVals_one (rs : List Rc) : ∀ u ∈ recVals rs, u.oneCell' = true := by
  intro u hu
  simp only [recVals, List.mem_flatMap] at hu
  obtain ⟨r, _, hr⟩ := hu
  simp at hr
  rcases hr with rfl | rfl | rfl <;> rfl
theorem wpList_append_recs (w : World) {ops : Array Oper} {rest : List Oper} {o : Oper} {a : Act} {Q : Exit → Act → World → Prop} (hgd : o.guard = none) (s x : Operand)
    (ho : o.op = .call { callee := .builtin .append, args := #[s, x], argTypes := #[22, 22] })
    (B : Nat) (v : Value) (rs : List Rc) (B' : Nat) (xv : Value) (ys : List Rc) (hs : a.eval s = v) (hown : OwnsR B w v rs) (hx : a.eval x = xv) (hys : OwnsR B' w xv ys) (hl : rs.length + ys.length ≤ 200000) (hB : B ≤ w.heap.size)
    (h : ∀ v' w', OwnsR B w' v' (rs ++ ys) → w.grownBy w' v.ownBlock → wpList Try.prog ops Q rest (a.put o.dst v') w') : wpList Try.prog ops Q (o :: rest) a w := by
  obtain ⟨i0, hi, hz0, hz1, hz2⟩ := info_parts Try.infoRec
  have hys' : w.ownsRow B' 34 3 xv ys.length (recVals ys) := hys
  rcases hys'.2 with ⟨rfl, h0⟩ | ⟨g, cap, cur, rfl, _⟩
  · obtain rfl : ys = [] := List.eq_nil_of_length_eq_zero h0
    refine wpList_append_own_none hgd s x 22 ho B 34 i0 3 Try.underlying22 hi v rs.length (recVals rs) hs hown hx ?_
    exact h v w (by rw [List.append_nil]; exact hown) ⟨rfl, rfl, rfl, Nat.le_refl _, fun _ _ _ => rfl⟩
  · have hml : rs.length + ys.length ≤ maxLen := Nat.le_trans hl (by decide)
    refine wpList_append_own w hgd s x 22 ho B 34 i0 _ 3 32 Try.underlying22 hi hz0 hz1 hz2 rfl (by decide) _ _ _ hs hown ⟨g, 0, none⟩ ys.length cap (recVals ys) hx hys'.1 (fun j u hj => hys'.cells (g := g) rfl j u hj) (recVals_one ys) hml (by omega) hB ?_
    intro v' w' ho' hg' _
    refine h v' w' ?_ hg'
    unfold OwnsR
    rw [recVals_append, List.length_append]
    exact ho'
/-- What is known of a chunk that was read. -/
structure CkOk (c : Ck) : Prop where
  head : wellHead c.f c.t c.b c.z = true
  all : c.all ≤ 100
  many : c.many ≤ 65535
  nu : c.nu ≤ 65535
  len : c.rs.length ≤ 100
  recs : recsOk c.b c.z (-1) c.rs = true
theorem openG_ok (M : List UInt8) (least : Nat) (l : List UInt8) (f t b z m : Nat) (h : openG M least 0 l = .inr (f, t, b, z, m)) : wellHead f t b z = true ∧ m ≤ b := by
  unfold openG at h
  rw [if_pos (rfl : (0 : Nat) = 0)] at h
  split at h
  · cases h
  split at h
  · cases h
  split at h
  · rename_i hc
    simp only [Sum.inr.injEq] at h
    rw [h] at hc
    simpa using hc
  · cases h
theorem chunkR_ok (l : List UInt8) (c : Ck) (h : chunkR l = .inr c) : CkOk c := by
  unfold chunkR at h
  split at h
  · cases h
  · rename_i f t b z all ho
    obtain ⟨hw, hm⟩ := openG_ok _ _ l f t b z all ho
    obtain ⟨h1, h2, h3, h4, h5, h6, h7, h8, h9⟩ : (0 : Int) ≤ f ∧ (f : Int) ≤ 2147483647 ∧ (1 : Int) ≤ t ∧ (t : Int) ≤ 2147483647 ∧ (f : Int) ≠ t ∧ (1 : Int) ≤ b ∧ (b : Int) ≤ 100 ∧ (1 : Int) ≤ z ∧ (z : Int) ≤ 64 := of_decide_eq_true hw
    split at h
    · cases h
    · rename_i hc
      split at h
      · cases h
      · rename_i rs q hwk
        split at h
        · cases h
        · simp only [Sum.inr.injEq] at h
          subst h
          have n18 := num2_lt l 18
          have n20 := num2_lt l 20
          obtain ⟨_, e2⟩ := walk_bytes b z _ (-1) _ hwk
          have hln := recsOk_length b z rs e2 (by omega)
          exact ⟨hw, by show all ≤ 100; omega, by show num _ ≤ 65535; omega, by show num _ ≤ 65535; omega, by show rs.length ≤ 100; omega, e2⟩
theorem chunksOf_mem : ∀ (xs : List (List UInt8)) (cs : List Ck), chunksOf xs = .inr cs → ∀ c ∈ cs, CkOk c
  | [], cs, h, c, hc => by
    simp only [chunksOf, Sum.inr.injEq] at h
    subst h
    cases hc
  | x :: xs, cs, h, c, hc => by
    rw [chunksOf] at h
    cases hx : chunkR x with
    | inl k => rw [hx] at h; cases h
    | inr c0 =>
      rw [hx] at h
      simp only [] at h
      cases h2 : chunksOf xs with
      | inl k => rw [h2] at h; cases h
      | inr cs0 =>
        rw [h2] at h
        simp only [Sum.inr.injEq] at h
        subst h
        rcases List.mem_cons.1 hc with rfl | hc
        · exact chunkR_ok x _ hx
        · exact chunksOf_mem xs cs0 h2 c hc
theorem gathered_length (n : Nat) : ∀ (cs : List Ck), (∀ c ∈ cs, CkOk c) → (gathered cs n).length ≤ 100 * (cs.filter (fun c => c.nu == n)).length
  | [], _ => by simp [gathered]
  | c :: cs, h => by
    have ih := gathered_length n cs (fun c hc => h c (by simp [hc]))
    have hc := (h c (by simp)).len
    unfold gathered at *
    by_cases e : (c.nu == n) = true
    · rw [List.filter_cons_of_pos (by simpa using e), List.flatMap_cons, List.length_append, List.length_cons]
      omega
    · rw [List.filter_cons_of_neg (by simpa using e)]
      exact ih
theorem gatherAll_succ (cs : List Ck) (n : Nat) : gatherAll cs (n + 1) = gatherAll cs n ++ gathered cs n := by
  unfold gatherAll
  rw [List.range_succ, List.flatMap_append]
  simp
theorem gathered_take (cs : List Ck) (n j : Nat) (h : j < cs.length) : gathered (cs.take (j + 1)) n = gathered (cs.take j) n ++ (if cs[j].nu == n then cs[j].rs else []) ∧ ((cs.take (j + 1)).filter (fun c => c.nu == n)).length = ((cs.take j).filter (fun c => c.nu == n)).length + (if cs[j].nu == n then 1 else 0) := by
  rw [List.take_succ_eq_append_getElem h]
  unfold gathered
  rw [List.filter_append, List.flatMap_append, List.length_append]
  by_cases e : (cs[j].nu == n) = true
  · rw [List.filter_cons_of_pos (by simpa using e), if_pos e, if_pos e]
    simp
  · rw [List.filter_cons_of_neg (by simpa using e), if_neg e, if_neg e]
    simp

end Go.Proofs.Ytdjmhagclcfnfaa
