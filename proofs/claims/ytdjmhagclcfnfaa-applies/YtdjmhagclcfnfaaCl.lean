/- Lists of blocks (api.Cell). -/
import Derived.Test.YtdjmhagclcfnfaaLOwn2
namespace Go.Proofs.Ytdjmhagclcfnfaa
open Go.RowKit Go.Shelf

/-- A block, as data. -/
structure Cl where
  held : Bool
  data : ByteArray

theorem Try.infoCl : (Try.prog.info? 41).map (fun i => (i.zero, i.size, i.bytes)) = some (some (.agg #[.bool false, .string ⟨#[]⟩]), 2, 24) := by kernel_rfl
theorem Try.infoCls : (Try.prog.info? 39).map (fun i => (i.zero, i.size, i.bytes)) = some (some (.slice none 0 0), 1, 24) := by kernel_rfl

/-- The slice value sv holds the blocks cs, in a block below B; or there are none. -/
def Cls (B : Nat) (W : World) (sv : Value) (cs : List Cl) : Prop :=
  (cs = [] ∧ ∃ a cap, sv = .slice a 0 cap) ∨ ∃ b off cap, sv = .slice (some ⟨b, off, none⟩) cs.length cap ∧ b < B ∧
    ∀ j (h : j < cs.length), W.cell? ⟨b, off + j * 2, none⟩ = some (.bool cs[j].held) ∧ W.cell? ⟨b, off + j * 2 + 1, none⟩ = some (.string cs[j].data)
theorem Cls.moved {W W' : World} {sv : Value} {cs : List Cl} (h : Cls W.heap.size W sv cs) (hb : Below W.heap.size W W') : Cls W'.heap.size W' sv cs := by
  rcases h with h | ⟨b, off, cap, e, hlt, hc⟩
  · exact .inl h
  · refine .inr ⟨b, off, cap, e, Nat.lt_of_lt_of_le hlt hb.size, fun j hj => ?_⟩
    obtain ⟨h0, h1⟩ := hc j hj
    exact ⟨(hb.cell (p := ⟨b, _, none⟩) hlt).trans h0, (hb.cell (p := ⟨b, _, none⟩) hlt).trans h1⟩
theorem Cls.slice {B : Nat} {W : World} {sv : Value} {cs : List Cl} (h : Cls B W sv cs) : ∃ a cap, sv = .slice a cs.length cap := by
  rcases h with ⟨rfl, a, cap, e⟩ | ⟨b, off, cap, e, _⟩
  · exact ⟨a, cap, e⟩
  · exact ⟨_, cap, e⟩
theorem Cls.at {B : Nat} {W : World} {a : Option Addr} {l cap : Nat} {cs : List Cl} (h : Cls B W (.slice a l cap) cs) {k : Nat} (hk : k < cs.length) :
    ∃ b off, a = some ⟨b, off, none⟩ ∧ b < B ∧ W.cell? ⟨b, off + k * 2, none⟩ = some (.bool cs[k].held) ∧ W.cell? ⟨b, off + k * 2 + 1, none⟩ = some (.string cs[k].data) := by
  rcases h with ⟨rfl, _⟩ | ⟨b, off, cap', e, hlt, hc⟩
  · simp at hk
  · simp only [Value.slice.injEq] at e
    exact ⟨b, off, e.1, hlt, hc k hk⟩

/-- The cells of blocks. -/
def clVals (cs : List Cl) : List Value := cs.flatMap fun r => [.bool r.held, .string r.data]
theorem clVals_cons (r : Cl) (cs : List Cl) : clVals (r :: cs) = .bool r.held :: .string r.data :: clVals cs := rfl
theorem clVals_snoc (cs : List Cl) (r : Cl) : clVals (cs ++ [r]) = clVals cs ++ [.bool r.held, .string r.data] := by simp [clVals]
theorem clVals_length : ∀ cs : List Cl, (clVals cs).length = cs.length * 2
  | [] => rfl
  | r :: cs => by rw [clVals_cons, List.length_cons, List.length_cons, clVals_length cs, List.length_cons]; omega
theorem clVals_at : ∀ (cs : List Cl) (j : Nat) (h : j < cs.length), (clVals cs)[j * 2]? = some (.bool cs[j].held) ∧ (clVals cs)[j * 2 + 1]? = some (.string cs[j].data)
  | r :: cs, 0, _ => ⟨rfl, rfl⟩
  | r :: cs, j + 1, h => by
    have := clVals_at cs j (by simpa using h)
    rw [clVals_cons, show (j + 1) * 2 = j * 2 + 1 + 1 from by omega, show j * 2 + 1 + 1 + 1 = (j * 2 + 1) + 1 + 1 from rfl]
    simpa only [List.getElem?_cons_succ, List.getElem_cons_succ] using this
theorem clVals_set : ∀ (cs : List Cl) (k : Nat) (r : Cl), clVals (cs.set k r) = ((clVals cs).set (k * 2) (.bool r.held)).set (k * 2 + 1) (.string r.data)
  | [], k, r => by simp [clVals]
  | x :: cs, 0, r => rfl
  | x :: cs, k + 1, r => by
    rw [List.set_cons_succ, clVals_cons, clVals_cons, clVals_set cs k r, show (k + 1) * 2 = k * 2 + 1 + 1 from by omega]
    rfl
theorem clVals_one (cs : List Cl) : ∀ u ∈ clVals cs, u.oneCell' = true := by
  intro u hu
  simp only [clVals, List.mem_flatMap] at hu
  obtain ⟨r, _, hr⟩ := hu
  simp at hr
  rcases hr with rfl | rfl <;> rfl

/-- v owns the blocks cs, in a block from B on. -/
def OwnsC (B : Nat) (w : World) (v : Value) (cs : List Cl) : Prop := w.ownsRow B 41 2 v cs.length (clVals cs)
theorem ownsC_snoc {B : Nat} {W : World} {v : Value} {pre : List Cl} {x : Cl} (h : W.ownsRow B 41 2 v (pre.length + 1) (clVals pre ++ [.bool x.held, .string x.data])) : OwnsC B W v (pre ++ [x]) := by
  unfold OwnsC
  rw [clVals_snoc, List.length_append]
  exact h
theorem OwnsC.slice {B : Nat} {W : World} {v : Value} {cs : List Cl} (h : OwnsC B W v cs) : ∃ a cp, v = .slice a cs.length cp := by
  rcases h.2 with ⟨rfl, h0⟩ | ⟨g, cap, cur, rfl, _⟩
  · exact ⟨none, 0, by rw [h0]⟩
  · exact ⟨_, _, rfl⟩
theorem OwnsC.own_ge {B : Nat} {W : World} {v : Value} {cs : List Cl} (h : OwnsC B W v cs) : ∀ g, v.ownBlock = some g → B ≤ g := by
  intro g e
  rcases h.2 with ⟨rfl, _⟩ | ⟨g', cap, cur, rfl, hb, _⟩
  · simp [Value.ownBlock] at e
  · obtain rfl : g' = g := by simpa [Value.ownBlock] using e
    exact hb
theorem OwnsC.kept {B : Nat} {W W' : World} {v : Value} {cs : List Cl} (h : OwnsC B W v cs) (hg : W.grownBy W' none) : OwnsC B W' v cs := by
  refine World.ownsRow.kept h hg ?_
  rcases h.2 with ⟨rfl, _⟩ | ⟨g, cap, cur, rfl, _⟩
  · exact .inl rfl
  · exact .inr (by simp [Value.ownBlock])
theorem OwnsC.alloc {B : Nat} {W : World} {v : Value} {cs : List Cl} (h : OwnsC B W v cs) (o : Obj) : OwnsC B (W.alloc o) v cs := World.ownsRow.alloc h o
theorem OwnsC.base {B B' : Nat} {W : World} {v : Value} {cs : List Cl} (h : OwnsC B W v cs) (hb : B' ≤ B) : OwnsC B' W v cs := by
  refine ⟨h.1, ?_⟩
  rcases h.2 with hn | ⟨g, cap, cur, hv, hbg, rest⟩
  · exact .inl hn
  · exact .inr ⟨g, cap, cur, hv, Nat.le_trans hb hbg, rest⟩
theorem OwnsC.row {B : Nat} {W : World} {g n cap : Nat} {cs : List Cl} (h : OwnsC B W (.slice (some ⟨g, 0, none⟩) n cap) cs) (j : Nat) (hj : j < cs.length) :
    W.cell? ⟨g, j * 2, none⟩ = some (.bool cs[j].held) ∧ W.cell? ⟨g, j * 2 + 1, none⟩ = some (.string cs[j].data) := by
  have h0 : W.ownsRow B 41 2 (.slice (some ⟨g, 0, none⟩) n cap) cs.length (clVals cs) := h
  obtain ⟨e0, e1⟩ := clVals_at cs j hj
  obtain ⟨rfl⟩ : n = cs.length := by
    rcases h0.2 with ⟨e, _⟩ | ⟨g', cap', cur, e, _⟩
    · cases e
    · cases e; rfl
  have c0 := h0.cells (g := g) rfl _ _ e0
  have c1 := h0.cells (g := g) rfl _ _ e1
  simp only [Addr.add_lit, Nat.zero_add] at c0 c1 ⊢
  exact ⟨c0, c1⟩
theorem OwnsC.block {B : Nat} {W : World} {g n cap : Nat} {cs : List Cl} (h : OwnsC B W (.slice (some ⟨g, 0, none⟩) n cap) cs) : ∃ cur, W.heap[g]? = some (.cells cur 41 (0, 0)) := by
  rcases h.2 with ⟨e, _⟩ | ⟨g', cap', cur, e, _, hg, _⟩
  · cases e
  · cases e
    exact ⟨cur, hg⟩
theorem OwnsC.store {B : Nat} {W : World} {g n cap : Nat} {cs : List Cl} (h : OwnsC B W (.slice (some ⟨g, 0, none⟩) n cap) cs) (k : Nat) (r : Cl) :
    OwnsC B ((W.setCell ⟨g, k * 2, none⟩ (.bool r.held)).setCell ⟨g, k * 2 + 1, none⟩ (.string r.data)) (.slice (some ⟨g, 0, none⟩) n cap) (cs.set k r) := by
  have h0 : W.ownsRow B 41 2 (.slice (some ⟨g, 0, none⟩) n cap) cs.length (clVals cs) := h
  rcases h0.2 with ⟨e, _⟩ | ⟨g', cap', cur, e, hb, hg, h1, h2, h3, h4⟩
  · cases e
  cases e
  have b1 := block_set (i := k * 2) hg (.bool r.held)
  have b2 := block_set (i := k * 2 + 1) b1 (.string r.data)
  have hlen : (clVals (cs.set k r)).length = (cs.set k r).length * 2 := clVals_length _
  refine ⟨hlen, .inr ⟨g, cap, _, by rw [List.length_set], hb, b2, by rw [List.length_set]; exact h1, h2, by simpa using h3, ?_⟩⟩
  rw [List.length_set, clVals_set, ← h4]
  simp only [Array.toList_setIfInBounds, List.take_set]

/-- A list that lies from the front of a block below N. -/
def OldC (N : Nat) (W : World) (s : Value) (xs : List Cl) : Prop :=
  (xs = [] ∧ ∃ a cap, s = .slice a 0 cap) ∨ ∃ b cap, s = .slice (some ⟨b, 0, none⟩) xs.length cap ∧ b < N ∧
    ∀ j (h : j < xs.length), W.cell? ⟨b, j * 2, none⟩ = some (.bool xs[j].held) ∧ W.cell? ⟨b, j * 2 + 1, none⟩ = some (.string xs[j].data)
theorem OwnsC.old {B : Nat} {W : World} {v : Value} {cs : List Cl} (h : OwnsC B W v cs) : OldC W.heap.size W v cs := by
  rcases h.2 with ⟨rfl, hn⟩ | ⟨g, cap, cur, rfl, _, hg, _⟩
  · exact .inl ⟨List.eq_nil_of_length_eq_zero hn, none, 0, rfl⟩
  · exact .inr ⟨g, cap, rfl, (Array.getElem?_eq_some_iff.1 hg).1, h.row⟩
theorem OldC.cls {N : Nat} {W : World} {v : Value} {cs : List Cl} (h : OldC N W v cs) : Cls N W v cs := by
  rcases h with h | ⟨b, cap, e, hb, hc⟩
  · exact .inl h
  · refine .inr ⟨b, 0, cap, e, hb, fun j hj => ?_⟩
    have := hc j hj
    simpa only [Nat.zero_add] using this
theorem OwnsC.cls {B : Nat} {W : World} {v : Value} {cs : List Cl} (h : OwnsC B W v cs) : Cls W.heap.size W v cs := h.old.cls
theorem OldC.mono {N N' : Nat} {W : World} {v : Value} {cs : List Cl} (h : OldC N W v cs) (hN : N ≤ N') : OldC N' W v cs := by
  rcases h with h | ⟨b, cap, e, hb, hc⟩
  · exact .inl h
  · exact .inr ⟨b, cap, e, Nat.lt_of_lt_of_le hb hN, hc⟩
theorem OldC.below {N : Nat} {W W' : World} {v : Value} {cs : List Cl} (h : OldC N W v cs) (hb : ∀ k, k < N → W'.heap[k]? = W.heap[k]?) : OldC N W' v cs := by
  rcases h with h | ⟨b, cap, e, hlt, hc⟩
  · exact .inl h
  · refine .inr ⟨b, cap, e, hlt, fun j hj => ?_⟩
    obtain ⟨h0, h1⟩ := hc j hj
    have hk := hb b hlt
    exact ⟨(World.cell?_of_block hk).trans h0, (World.cell?_of_block hk).trans h1⟩
theorem OldC.room {B N : Nat} {W W' : World} {s : Value} {xs cs : List Cl} {r : Cl} {g n n' cap cap' : Nat} (h : OldC N W s xs) (ho : OwnsC B W (.slice (some ⟨g, 0, none⟩) n cap) cs) (ho' : OwnsC B W' (.slice (some ⟨g, 0, none⟩) n' cap') (cs ++ [r])) (hg : W.grownBy W' (some g)) (hN : N ≤ W.heap.size) (hl : xs.length ≤ cs.length) : OldC N W' s xs := by
  rcases h with h | ⟨b, c, e, hlt, hc⟩
  · exact .inl h
  · refine .inr ⟨b, c, e, hlt, fun j hj => ?_⟩
    obtain ⟨h0, h1⟩ := hc j hj
    by_cases hbg : b = g
    · subst hbg
      obtain ⟨o0, o1⟩ := ho.row j (by omega)
      obtain ⟨p0, p1⟩ := ho'.row j (by rw [List.length_append]; omega)
      rw [List.getElem_append_left (by omega)] at p0 p1
      rw [h0] at o0
      rw [h1] at o1
      exact ⟨p0.trans o0.symm, p1.trans o1.symm⟩
    · have hk := hg.block b (Nat.lt_of_lt_of_le hlt hN) (by simpa using hbg)
      exact ⟨(World.cell?_of_block hk).trans h0, (World.cell?_of_block hk).trans h1⟩
/-- A list of blocks is not the list of lists. -/
theorem OldC.other {N : Nat} {W W' : World} {s : Value} {xs : List Cl} {go : Nat} {a : Option Addr} {l c : Nat} (h : OldC N W s xs) (hg : W.grownBy W' (some go)) (hN : N ≤ W.heap.size) (hc : W.cell? ⟨go, 0, none⟩ = some (.slice a l c)) : OldC N W' s xs := by
  rcases h with h | ⟨b, cap, e, hlt, hcs⟩
  · exact .inl h
  · refine .inr ⟨b, cap, e, hlt, fun j hj => ?_⟩
    obtain ⟨h0, h1⟩ := hcs j hj
    have hne : b ≠ go := by
      rintro rfl
      have := (hcs 0 (by omega)).1
      rw [Nat.zero_mul, hc] at this
      cases this
    have hk := hg.block b (Nat.lt_of_lt_of_le hlt hN) (by simpa using hne)
    exact ⟨(World.cell?_of_block hk).trans h0, (World.cell?_of_block hk).trans h1⟩
theorem OldC.alloc {N : Nat} {W : World} {s : Value} {xs : List Cl} (h : OldC N W s xs) (hN : N ≤ W.heap.size) (o : Obj) : OldC N (W.alloc o) s xs := h.below fun k hk => Below.heap_alloc W o k (by omega)
theorem OldC.slice {N : Nat} {W : World} {s : Value} {xs : List Cl} (h : OldC N W s xs) : ∃ a cap, s = .slice a xs.length cap := h.cls.slice

/-- **'g = append(g, r)': the lists ahead stay.** -/
theorem wpList_append_cl (w : World) {ops : Array Oper} {rest : List Oper} {o : Oper} {a : Act} {Q : Exit → Act → World → Prop} (hgd : o.guard = none) (s x : Operand)
    (ho : o.op = .call { callee := .builtin .append, args := #[s, x], argTypes := #[39, 39] })
    (B : Nat) (v : Value) (cs : List Cl) (hs : a.eval s = v) (hown : OwnsC B w v cs) (ad : Addr) (r : Cl) (hx : a.eval x = .slice (some ad) 1 1)
    (hnews : ∀ j u, [Value.bool r.held, .string r.data][j]? = some u → w.cell? (ad.add j) = some u) (hl : cs.length ≤ 2000) (hB : B ≤ w.heap.size)
    (h : ∀ v' w', OwnsC B w' v' (cs ++ [r]) → w.grownBy w' v.ownBlock → (∀ N sv xs, N ≤ w.heap.size → xs.length ≤ cs.length → OldC N w sv xs → OldC N w' sv xs) → (v'.ownBlock = v.ownBlock ∨ ∀ g, v'.ownBlock = some g → w.heap.size ≤ g) → wpList Try.prog ops Q rest (a.put o.dst v') w') : wpList Try.prog ops Q (o :: rest) a w := by
  obtain ⟨i0, hi, hz0, hz1, hz2⟩ := info_parts Try.infoCl
  have hml : cs.length + 1 ≤ maxLen := Nat.le_trans (show cs.length + 1 ≤ 2001 by omega) (by decide)
  have h0 : w.ownsRow B 41 2 v cs.length (clVals cs) := hown
  have h1c : ∀ u ∈ [Value.bool r.held, .string r.data], u.oneCell' = true := by simp [Value.oneCell']
  rcases h0.2 with ⟨rfl, hn⟩ | ⟨g, cap, cur, rfl, _⟩
  · obtain rfl : cs = [] := List.eq_nil_of_length_eq_zero hn
    refine wpList_append_own w hgd s x 39 ho w.heap.size 41 i0 _ 2 24 Try.underlying39 hi hz0 hz1 hz2 rfl (by decide) _ _ _ hs (World.ownsRow_nil _ _ _ _) ad 1 1 _ hx rfl hnews h1c hml (by omega) (Nat.le_refl _) ?_
    intro v' w' ho' hg' _
    have hO : OwnsC w.heap.size w' v' ([] ++ [r]) := ownsC_snoc (pre := []) ho'
    exact h v' w' (hO.base hB) hg' (fun N sv xs hN _ hold => hold.below (fun k hk => hg'.block k (by omega) (by simp [Value.ownBlock]))) (.inr hO.own_ge)
  · by_cases hroom : cs.length + 1 ≤ cap
    · refine wpList_append_own_spare w hgd s x 39 ho B 41 i0 2 Try.underlying39 hi hz1 g cs.length cap _ hs h0 ad 1 1 _ hx rfl hnews h1c hroom ?_
      intro w' ho' hg'
      exact h _ w' (ownsC_snoc ho') hg' (fun N sv xs hN hxl hold => hold.room hown (ownsC_snoc ho') hg' hN hxl) (.inl rfl)
    · refine wpList_append_grows w hgd s x 39 ho 41 i0 _ 2 24 Try.underlying39 hi hz0 hz1 hz2 rfl (by decide) (some ⟨g, 0, none⟩) cs.length cap (clVals cs) hs (fun e => by cases e) h0.1 (fun b e j u hj => by cases e; exact h0.cells (g := g) rfl j u hj) ad 1 1 _ hx rfl hnews h1c (by omega) hml (by omega) ?_
      intro v' w' ho' hg'
      have hO : OwnsC w.heap.size w' v' (cs ++ [r]) := ownsC_snoc ho'
      refine h v' w' (hO.base hB) ?_ (fun N sv xs hN _ hold => hold.below (fun k hk => hg'.block k (by omega) (by simp))) (.inr hO.own_ge)
      exact ⟨hg'.os, hg'.tape, hg'.output, hg'.size, fun j hj _ => hg'.block j hj (by simp)⟩

/-- Four lists, each as its owner left it. -/
def MarkedC (N : Nat) (W : World) (vo : Value) (m : ByteArray) (n : Nat) : Prop :=
  ∃ (g cap : Nat) (ss : List Value), vo = .slice (some ⟨g, 0, none⟩) 4 cap ∧ g < N ∧ ss.length = 4 ∧ ∀ j (h : j < ss.length), W.cell? ⟨g, j, none⟩ = some ss[j] ∧ OldC N W ss[j] (List.replicate (n + j) ⟨false, m⟩)
theorem MarkedC.below {N : Nat} {W W' : World} {vo : Value} {m : ByteArray} {n : Nat} (h : MarkedC N W vo m n) (hb : Below N W W') : MarkedC N W' vo m n := by
  obtain ⟨g, cap, ss, e, hg, hl, hc⟩ := h
  exact ⟨g, cap, ss, e, hg, hl, fun j hj => ⟨(hb.cell (p := ⟨g, j, none⟩) hg).trans (hc j hj).1, (hc j hj).2.below hb.block⟩⟩
theorem rows_neC {B B' : Nat} {W : World} {v vo : Value} {cs : List Cl} {k : Nat} {ss : List Value} (h : OwnsC B W v cs) (ho : W.ownsRow B' 39 1 vo k ss) : (vo.ownBlock = none ∨ vo.ownBlock ≠ v.ownBlock) ∧ (v.ownBlock = none ∨ v.ownBlock ≠ vo.ownBlock) := by
  rcases h.2 with ⟨rfl, _⟩ | ⟨g, cap, cur, rfl, _, hgb, _⟩
  · refine ⟨?_, .inl rfl⟩
    rcases ho.2 with ⟨rfl, _⟩ | ⟨g', cap', cur', rfl, _⟩
    · exact .inl rfl
    · exact .inr (by simp [Value.ownBlock])
  · rcases ho.2 with ⟨rfl, _⟩ | ⟨g', cap', cur', rfl, _, hgb', _⟩
    · exact ⟨.inl rfl, .inr (by simp [Value.ownBlock])⟩
    · have hne : g ≠ g' := by
        rintro rfl
        rw [hgb] at hgb'
        simp only [Option.some.injEq, Obj.cells.injEq] at hgb'
        exact absurd hgb'.2.1 (by decide)
      exact ⟨.inr (by simpa [Value.ownBlock] using fun e => hne e.symm), .inr (by simpa [Value.ownBlock] using hne)⟩
theorem mark_setC (cs : List Cl) (k : Nat) (r : Cl) (h : k < cs.length) : (List.replicate k r ++ cs.drop k).set k r = List.replicate (k + 1) r ++ cs.drop (k + 1) := by
  rw [List.set_append_right _ _ (by simp)]
  simp only [List.length_replicate, Nat.sub_self]
  rw [List.drop_eq_getElem_cons h, List.set_cons_zero, List.replicate_succ']
  simp
end Go.Proofs.Ytdjmhagclcfnfaa
