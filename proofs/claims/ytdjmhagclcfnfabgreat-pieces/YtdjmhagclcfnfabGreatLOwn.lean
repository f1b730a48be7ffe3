/- Lists that are written into and behind: strandlaw's ownRecords and keptRecords. -/
import Derived.Test.YtdjmhagclcfnfabGreatRParse2
import Derived.Test.YtdjmhagclcfnfabGreatLExact
import Derived.ArgAppend
import Derived.Deep.DeepAppendRoom
namespace Go.Proofs.YtdjmhagclcfnfabGreat
open Go.RowKit Go.Shelf

/-- A list that lies from the front of a block below N. -/
def Old (N : Nat) (W : World) (s : Value) (xs : List Rc) : Prop :=
  (xs = [] ∧ ∃ a cap, s = .slice a 0 cap) ∨ ∃ b cap, s = .slice (some ⟨b, 0, none⟩) xs.length cap ∧ b < N ∧
    ∀ j (h : j < xs.length), W.cell? ⟨b, j * 3, none⟩ = some (.bool xs[j].free) ∧ W.cell? ⟨b, j * 3 + 1, none⟩ = some (.int .i64 xs[j].block) ∧ W.cell? ⟨b, j * 3 + 2, none⟩ = some (.string xs[j].data)

theorem OwnsR.row {B : Nat} {W : World} {g n cap : Nat} {rs : List Rc} (h : OwnsR B W (.slice (some ⟨g, 0, none⟩) n cap) rs) (j : Nat) (hj : j < rs.length) :
    W.cell? ⟨g, j * 3, none⟩ = some (.bool rs[j].free) ∧ W.cell? ⟨g, j * 3 + 1, none⟩ = some (.int .i64 rs[j].block) ∧ W.cell? ⟨g, j * 3 + 2, none⟩ = some (.string rs[j].data) := by
  have h0 : W.ownsRow B 40 3 (.slice (some ⟨g, 0, none⟩) n cap) rs.length (recVals rs) := h
  obtain ⟨e0, e1, e2⟩ := recVals_at rs j hj
  obtain ⟨rfl⟩ : n = rs.length := by
    rcases h0.2 with ⟨e, _⟩ | ⟨g', cap', cur, e, _⟩
    · cases e
    · cases e; rfl
  have c0 := h0.cells (g := g) rfl _ _ e0
  have c1 := h0.cells (g := g) rfl _ _ e1
  have c2 := h0.cells (g := g) rfl _ _ e2
  simp only [Addr.add_lit, Nat.zero_add] at c0 c1 c2 ⊢
  exact ⟨c0, c1, c2⟩
theorem OwnsR.old {B : Nat} {W : World} {v : Value} {rs : List Rc} (h : OwnsR B W v rs) : Old W.heap.size W v rs := by
  have h0 : W.ownsRow B 40 3 v rs.length (recVals rs) := h
  rcases h0.2 with ⟨rfl, hn⟩ | ⟨g, cap, cur, rfl, _, hg, _⟩
  · exact .inl ⟨List.eq_nil_of_length_eq_zero hn, none, 0, rfl⟩
  · exact .inr ⟨g, cap, rfl, (Array.getElem?_eq_some_iff.1 hg).1, h.row⟩
theorem Old.recs {N : Nat} {W : World} {v : Value} {rs : List Rc} (h : Old N W v rs) : Recs N W v rs := by
  rcases h with h | ⟨b, cap, e, hb, hc⟩
  · exact .inl h
  · refine .inr ⟨b, 0, cap, e, hb, fun j hj => ?_⟩
    have := hc j hj
    simpa only [Nat.zero_add] using this
theorem Old.mono {N N' : Nat} {W : World} {v : Value} {rs : List Rc} (h : Old N W v rs) (hN : N ≤ N') : Old N' W v rs := by
  rcases h with h | ⟨b, cap, e, hb, hc⟩
  · exact .inl h
  · exact .inr ⟨b, cap, e, Nat.lt_of_lt_of_le hb hN, hc⟩
theorem Old.below {N : Nat} {W W' : World} {v : Value} {rs : List Rc} (h : Old N W v rs) (hb : ∀ k, k < N → W'.heap[k]? = W.heap[k]?) : Old N W' v rs := by
  rcases h with h | ⟨b, cap, e, hlt, hc⟩
  · exact .inl h
  · refine .inr ⟨b, cap, e, hlt, fun j hj => ?_⟩
    obtain ⟨h0, h1, h2⟩ := hc j hj
    have hk := hb b hlt
    exact ⟨(World.cell?_of_block hk).trans h0, (World.cell?_of_block hk).trans h1, (World.cell?_of_block hk).trans h2⟩
/-- An append with room leaves the lists that lie in the row ahead of it. -/
theorem Old.room {B N : Nat} {W W' : World} {s : Value} {xs rs : List Rc} {r : Rc} {g n n' cap cap' : Nat} (h : Old N W s xs) (ho : OwnsR B W (.slice (some ⟨g, 0, none⟩) n cap) rs) (ho' : OwnsR B W' (.slice (some ⟨g, 0, none⟩) n' cap') (rs ++ [r])) (hg : W.grownBy W' (some g)) (hN : N ≤ W.heap.size) (hl : xs.length ≤ rs.length) : Old N W' s xs := by
  rcases h with h | ⟨b, c, e, hlt, hc⟩
  · exact .inl h
  · refine .inr ⟨b, c, e, hlt, fun j hj => ?_⟩
    obtain ⟨h0, h1, h2⟩ := hc j hj
    by_cases hbg : b = g
    · subst hbg
      obtain ⟨o0, o1, o2⟩ := ho.row j (by omega)
      obtain ⟨p0, p1, p2⟩ := ho'.row j (by rw [List.length_append]; omega)
      rw [List.getElem_append_left (by omega)] at p0 p1 p2
      rw [h0] at o0
      rw [h1] at o1
      rw [h2] at o2
      exact ⟨p0.trans o0.symm, p1.trans o1.symm, p2.trans o2.symm⟩
    · have hk := hg.block b (Nat.lt_of_lt_of_le hlt hN) (by simpa using hbg)
      exact ⟨(World.cell?_of_block hk).trans h0, (World.cell?_of_block hk).trans h1, (World.cell?_of_block hk).trans h2⟩

theorem OwnsR.own_ge {B : Nat} {W : World} {v : Value} {rs : List Rc} (h : OwnsR B W v rs) : ∀ g, v.ownBlock = some g → B ≤ g := by
  intro g e
  rcases h.2 with ⟨rfl, _⟩ | ⟨g', cap, cur, rfl, hb, _⟩
  · simp [Value.ownBlock] at e
  · obtain rfl : g' = g := by simpa [Value.ownBlock] using e
    exact hb
/-- A list of records is not the list of lists. -/
theorem Old.other {N : Nat} {W W' : World} {s : Value} {xs : List Rc} {go : Nat} {a : Option Addr} {l c : Nat} (h : Old N W s xs) (hg : W.grownBy W' (some go)) (hN : N ≤ W.heap.size) (hc : W.cell? ⟨go, 0, none⟩ = some (.slice a l c)) : Old N W' s xs := by
  rcases h with h | ⟨b, cap, e, hlt, hcs⟩
  · exact .inl h
  · refine .inr ⟨b, cap, e, hlt, fun j hj => ?_⟩
    obtain ⟨h0, h1, h2⟩ := hcs j hj
    have hne : b ≠ go := by
      rintro rfl
      have := (hcs 0 (by omega)).1
      rw [Nat.zero_mul, hc] at this
      cases this
    have hk := hg.block b (Nat.lt_of_lt_of_le hlt hN) (by simpa using hne)
    exact ⟨(World.cell?_of_block hk).trans h0, (World.cell?_of_block hk).trans h1, (World.cell?_of_block hk).trans h2⟩
/-- **'g = append(g, r)': the lists ahead stay.** -/
theorem wpList_append_rec (w : World) {ops : Array Oper} {rest : List Oper} {o : Oper} {a : Act} {Q : Exit → Act → World → Prop} (hgd : o.guard = none) (s x : Operand)
    (ho : o.op = .call { callee := .builtin .append, args := #[s, x], argTypes := #[25, 25] })
    (B : Nat) (v : Value) (rs : List Rc) (hs : a.eval s = v) (hown : OwnsR B w v rs) (ad : Addr) (r : Rc) (hx : a.eval x = .slice (some ad) 1 1)
    (hnews : ∀ j u, [Value.bool r.free, .int .i64 r.block, .string r.data][j]? = some u → w.cell? (ad.add j) = some u) (hl : rs.length ≤ 2000) (hB : B ≤ w.heap.size)
    (h : ∀ v' w', OwnsR B w' v' (rs ++ [r]) → w.grownBy w' v.ownBlock → (∀ N sv xs, N ≤ w.heap.size → xs.length ≤ rs.length → Old N w sv xs → Old N w' sv xs) → (v'.ownBlock = v.ownBlock ∨ ∀ g, v'.ownBlock = some g → w.heap.size ≤ g) → wpList Tryz.prog ops Q rest (a.put o.dst v') w') : wpList Tryz.prog ops Q (o :: rest) a w := by
  obtain ⟨i0, hi, hz0, hz1, hz2⟩ := info_parts Tryz.infoRec
  have hml : rs.length + 1 ≤ maxLen := Nat.le_trans (show rs.length + 1 ≤ 2001 by omega) (by decide)
  have h0 : w.ownsRow B 40 3 v rs.length (recVals rs) := hown
  have h1c : ∀ u ∈ [Value.bool r.free, .int .i64 r.block, .string r.data], u.oneCell' = true := by simp [Value.oneCell']
  rcases h0.2 with ⟨rfl, hn⟩ | ⟨g, cap, cur, rfl, _⟩
  · obtain rfl : rs = [] := List.eq_nil_of_length_eq_zero hn
    refine wpList_append_own w hgd s x 25 ho w.heap.size 40 i0 _ 3 32 Tryz.underlying25 hi hz0 hz1 hz2 rfl (by decide) _ _ _ hs (World.ownsRow_nil _ _ _ _) ad 1 1 _ hx rfl hnews h1c hml (by omega) (Nat.le_refl _) ?_
    intro v' w' ho' hg' _
    have hO : OwnsR w.heap.size w' v' ([] ++ [r]) := ownsR_snoc (pre := []) ho'
    exact h v' w' (hO.base hB) hg' (fun N sv xs hN _ hold => hold.below (fun k hk => hg'.block k (by omega) (by simp [Value.ownBlock]))) (.inr hO.own_ge)
  · by_cases hroom : rs.length + 1 ≤ cap
    · refine wpList_append_own_spare w hgd s x 25 ho B 40 i0 3 Tryz.underlying25 hi hz1 g rs.length cap _ hs h0 ad 1 1 _ hx rfl hnews h1c hroom ?_
      intro w' ho' hg'
      exact h _ w' (ownsR_snoc ho') hg' (fun N sv xs hN hxl hold => hold.room hown (ownsR_snoc ho') hg' hN hxl) (.inl rfl)
    · refine wpList_append_grows w hgd s x 25 ho 40 i0 _ 3 32 Tryz.underlying25 hi hz0 hz1 hz2 rfl (by decide) (some ⟨g, 0, none⟩) rs.length cap (recVals rs) hs (fun e => by cases e) h0.1 (fun b e j u hj => by cases e; exact h0.cells (g := g) rfl j u hj) ad 1 1 _ hx rfl hnews h1c (by omega) hml (by omega) ?_
      intro v' w' ho' hg'
      have hO : OwnsR w.heap.size w' v' (rs ++ [r]) := ownsR_snoc ho'
      refine h v' w' (hO.base hB) ?_ (fun N sv xs hN _ hold => hold.below (fun k hk => hg'.block k (by omega) (by simp))) (.inr hO.own_ge)
      exact ⟨hg'.os, hg'.tape, hg'.output, hg'.size, fun j hj _ => hg'.block j hj (by simp)⟩

theorem recVals_set : ∀ (rs : List Rc) (k : Nat) (r : Rc), recVals (rs.set k r) = (((recVals rs).set (k * 3) (.bool r.free)).set (k * 3 + 1) (.int .i64 r.block)).set (k * 3 + 2) (.string r.data)
  | [], k, r => by simp [recVals]
  | x :: rs, 0, r => rfl
  | x :: rs, k + 1, r => by
    have e : ∀ (y : Rc) (l : List Rc), recVals (y :: l) = .bool y.free :: .int .i64 y.block :: .string y.data :: recVals l := fun _ _ => rfl
    rw [List.set_cons_succ, e, e, recVals_set rs k r, show (k + 1) * 3 = k * 3 + 1 + 1 + 1 from by omega]
    rfl

theorem OwnsR.store {B : Nat} {W : World} {g n cap : Nat} {rs : List Rc} (h : OwnsR B W (.slice (some ⟨g, 0, none⟩) n cap) rs) (k : Nat) (r : Rc) :
    OwnsR B (((W.setCell ⟨g, k * 3, none⟩ (.bool r.free)).setCell ⟨g, k * 3 + 1, none⟩ (.int .i64 r.block)).setCell ⟨g, k * 3 + 2, none⟩ (.string r.data)) (.slice (some ⟨g, 0, none⟩) n cap) (rs.set k r) := by
  have h0 : W.ownsRow B 40 3 (.slice (some ⟨g, 0, none⟩) n cap) rs.length (recVals rs) := h
  rcases h0.2 with ⟨e, _⟩ | ⟨g', cap', cur, e, hb, hg, h1, h2, h3, h4⟩
  · cases e
  cases e
  have b1 := block_set (i := k * 3) hg (.bool r.free)
  have b2 := block_set (i := k * 3 + 1) b1 (.int .i64 r.block)
  have b3 := block_set (i := k * 3 + 2) b2 (.string r.data)
  have hlen : (recVals (rs.set k r)).length = (rs.set k r).length * 3 := by
    rw [recVals_set]
    simp only [List.length_set]
    exact h0.1
  refine ⟨hlen, .inr ⟨g, cap, _, by rw [List.length_set], hb, b3, by rw [List.length_set]; exact h1, h2, by simpa using h3, ?_⟩⟩
  rw [List.length_set, recVals_set, ← h4]
  simp only [Array.toList_setIfInBounds, List.take_set]

theorem Tryz.infoRecs : (Tryz.prog.info? 25).map (fun i => (i.zero, i.size, i.bytes)) = some (some (.slice none 0 0), 1, 24) := by kernel_rfl

/-- Four lists, each as its owner left it. -/
def Marked (N : Nat) (W : World) (vo : Value) (m : Int) (n : Nat) : Prop :=
  ∃ (g cap : Nat) (ss : List Value), vo = .slice (some ⟨g, 0, none⟩) 4 cap ∧ g < N ∧ ss.length = 4 ∧ ∀ j (h : j < ss.length), W.cell? ⟨g, j, none⟩ = some ss[j] ∧ Old N W ss[j] (List.replicate (n + j) ⟨false, m, ⟨#[]⟩⟩)

theorem grow_own {w W W' : World} {r r' : Option Nat} (h : w.grownBy W r) (hk : W.grownBy W' r') (hr : r' = r ∨ ∀ x, r' = some x → w.heap.size ≤ x) : w.grownBy W' r := by
  refine ⟨hk.os.trans h.os, hk.tape.trans h.tape, hk.output.trans h.output, Nat.le_trans h.size hk.size, fun j hj hne => (hk.block j (Nat.lt_of_lt_of_le hj h.size) ?_).trans (h.block j hj hne)⟩
  rcases hr with rfl | hr
  · exact hne
  · intro e
    have := hr j e.symm
    omega
theorem rows_ne {B B' : Nat} {W : World} {v vo : Value} {rs : List Rc} {k : Nat} {ss : List Value} (h : OwnsR B W v rs) (ho : W.ownsRow B' 25 1 vo k ss) : (vo.ownBlock = none ∨ vo.ownBlock ≠ v.ownBlock) ∧ (v.ownBlock = none ∨ v.ownBlock ≠ vo.ownBlock) := by
  rcases h.2 with ⟨rfl, _⟩ | ⟨g, cap, cur, rfl, _, hgb, _⟩
  · refine ⟨?_, .inl rfl⟩
    rcases ho.2 with ⟨rfl, _⟩ | ⟨g', cap', cur', rfl, _⟩
    · exact .inl rfl
    · exact .inr (by simp [Value.ownBlock])
  · rcases ho.2 with ⟨rfl, _⟩ | ⟨g', cap', cur', rfl, _, hgb', _⟩
    · exact ⟨.inl rfl, .inr (by simp [Value.ownBlock])⟩
    · have hne : g ≠ g' := by
        rintro rfl
        rw [hgb] at hgb'
        simp only [Option.some.injEq, Obj.cells.injEq] at hgb'
        exact absurd hgb'.2.1 (by decide)
      exact ⟨.inr (by simpa [Value.ownBlock] using fun e => hne e.symm), .inr (by simpa [Value.ownBlock] using hne)⟩

theorem mark_set (rs : List Rc) (k : Nat) (r : Rc) (h : k < rs.length) : (List.replicate k r ++ rs.drop k).set k r = List.replicate (k + 1) r ++ rs.drop (k + 1) := by
  rw [List.set_append_right _ _ (by simp)]
  simp only [List.length_replicate, Nat.sub_self]
  rw [List.drop_eq_getElem_cons h, List.set_cons_zero, List.replicate_succ']
  simp

end Go.Proofs.YtdjmhagclcfnfabGreat
