/- RJoin, PJoin, Sw, SwOwn, LSplits, LTexts, LJoins, PiecesM -/
import Derived.Test.YtdjmhagclcfnfabGreatRWriteToRJoinM
import Derived.Test.YtdjmhagclcfnfabGreatPCompleteToPJoined
import Derived.Test.YtdjmhagclcfnfabGreatLOwn2
import Derived.Test.YtdjmhagclcfnfabGreatPChunkWToPSplit
import Derived.Lib.SmallJoins
/- The reference's Join. -/
namespace Go.Proofs.YtdjmhagclcfnfabGreat
open Go.RowKit Go.Shelf

end Go.Proofs.YtdjmhagclcfnfabGreat
/- The program's Join. -/
namespace Go.Proofs.YtdjmhagclcfnfabGreat
open Go.RowKit Go.Shelf

theorem sk_of {B : Nat} {W : World} : ∀ (ps : List (Ck × Value)), ReadCs B W ps → ∃ xs : List Sk, xs.map skP = ps
  | [], _ => ⟨[], rfl⟩
  | p :: ps, h => by
    obtain ⟨xs, hx⟩ := sk_of ps (fun q hq => h q (List.mem_cons_of_mem _ hq))
    obtain ⟨a, n, c, e⟩ := (h p (by simp)).slice
    refine ⟨(p.1, a, n, c) :: xs, ?_⟩
    rw [List.map_cons, hx]
    show ((p.1, Value.slice a n c) : Ck × Value) :: ps = p :: ps
    rw [← e]
theorem chunks_err : ∀ (xs : List (List UInt8)) (k : Int), chunksOf xs = .inl k → 2 ≤ k ∧ k ≤ 8
  | [], k, h => by cases h
  | x :: xs, k, h => by
    rw [chunksOf] at h
    cases hx : chunkR x with
    | inl k' =>
      rw [hx] at h
      simp only [Sum.inl.injEq] at h
      rw [← h]
      exact chunkR_err x k' hx
    | inr c0 =>
      rw [hx] at h
      simp only [] at h
      cases h2 : chunksOf xs with
      | inl k' =>
        rw [h2] at h
        simp only [Sum.inl.injEq] at h
        rw [← h]
        exact chunks_err xs k' h2
      | inr cs0 => rw [h2] at h; cases h
theorem fresh_row {w w1 w2 : World} {g : Nat} (h1 : w.grownBy w1 none) (h2 : w1.grownBy w2 (some g)) (hg : w.heap.size ≤ g) : w.grownBy w2 none := grown_fresh h1 h2 hg

set_option maxRecDepth 100000 in
set_option maxHeartbeats 2000000 in
theorem pjoin (sv : Value) (ts : List (List UInt8)) (w : World) (hT : Txs w.heap.size w sv ts) (hl : ∀ t ∈ ts, t.length ≤ 4611686018427387904) (htl : ts.length ≤ 4611686018427387904) :
    Calls Tryz.prog 10 #[sv] w (ToldJ ts w) := by
  have HR : Hid (∀ u : Unit, _) := fun _ => readAll_any sv ts w hT hl htl
  obtain ⟨a, c, rfl⟩ := hT.slice
  have hmf : ∀ (fn : Fn) (first cap : Array Value) (w : World), (Instr.makeFunc fn first cap).run Tryz.prog w = .ok (.func fn first cap) w := fun _ _ _ _ => rfl
  clear hT hl
  go_enter Tryz.func10, Tryz.ntmps10
  go_wp2_with fail
  refine (HR.out ()).mono ?_
  rintro e w1 (⟨hn, hg, rfl⟩ | ⟨h1, h100, hg, (⟨k, hk, rfl⟩ | ⟨ps, g, hk, rfl, ho, hr⟩)⟩)
  · have HJ : Hid (joinR ts = .inl 1) := by
      show _ = _
      unfold joinR
      rw [if_pos hn]
    have HG : Hid _ := hg
    clear hn hg HR
    go_wp2
    go_ret2
    exact ⟨HG.out, .inl ⟨1, HJ.out, rfl⟩⟩
  · have hke := chunks_err ts k hk
    have e1 : (k != 0) = true := by simp; omega
    have HJ : Hid (joinR ts = .inl k) := by
      show _ = _
      unfold joinR
      rw [if_neg (by omega), hk]
      rfl
    have HG : Hid _ := hg
    clear hg HR hk hke
    go_wp2
    go_ret2
    exact ⟨HG.out, .inl ⟨k, HJ.out, rfl⟩⟩
  · obtain ⟨xs, hx⟩ := sk_of ps hr
    have hlen : xs.length = ts.length := by
      have e1 := chunksOf_length _ _ hk
      rw [← hx] at e1
      simpa using e1
    have hgB : w.heap.size ≤ g := by
      rcases ho.2 with ⟨e0, _⟩ | ⟨g', cap, cur, e0, hb, _⟩
      · cases e0
      · simp only [Value.slice.injEq, Option.some.injEq, Addr.mk.injEq] at e0
        obtain ⟨⟨rfl, -, -⟩, -, -⟩ := e0
        exact hb
    have hmem : ∀ x ∈ xs, CkOk x.1 ∧ x.1.nu < x.1.many := fun x hxm => by
      have hm : x.1 ∈ ps.map Prod.fst := by
        rw [← hx, List.map_map]
        exact List.mem_map.2 ⟨x, hxm, rfl⟩
      exact ⟨chunksOf_mem _ _ hk _ hm, chunksOf_nu _ _ hk _ hm⟩
    have hJC : joinR ts = joinC (.inr (xs.map (·.1))) := by
      unfold joinR
      rw [if_neg (by omega), hk, ← hx, List.map_map]
      rfl
    have HJ : Hid _ := hJC
    have HD : Hid (∀ u : Unit, _) := fun _ => joined_any g ts.length w.heap.size xs w1 (by rw [hlen, hx]; exact ho) (by omega) (by omega) (fun x hxm => hr (skP x) (by rw [← hx]; exact List.mem_map.2 ⟨x, hxm, rfl⟩)) hmem
    rw [hlen] at HD
    have HG : Hid _ := hg
    clear hg HR hk hr ho hx hmem hJC
    go_wp2_with fail
    refine (HD.out ()).mono ?_
    rintro e w2 ⟨hg2, (⟨hj, f, t, b, z, a', n', c', rfl⟩ | ⟨f, t, b, z, sv', rs, hj, hw, hro, hrec, rfl⟩)⟩
    · have HA : Hid (joinR ts = .inl 13) := HJ.out.trans hj
      have G2 : Hid (w.grownBy w2 none) := fresh_row HG.out hg2 hgB
      clear hj hg2 HD
      go_wp2
      go_ret2
      exact ⟨gallocR G2.out _, .inl ⟨13, HA.out, rfl⟩⟩
    · have HA : Hid (joinR ts = .inr (f, t, b, z, rs)) := HJ.out.trans hj
      have G2 : Hid (w.grownBy w2 none) := fresh_row HG.out hg2 hgB
      obtain ⟨a', c', rfl⟩ := hrec.slice
      obtain ⟨W3, hW3⟩ : ∃ W3, W3 = w2.alloc (.cells #[.int .i64 f, .int .i64 t, .int .i64 b, .int .i64 z, .slice a' rs.length c'] 27) := ⟨_, rfl⟩
      have HW : Hid (∀ u : Unit, _) := fun _ => write_any f t b z (.slice a' rs.length c') rs W3 (by rw [hW3]; exact hrec.moved ((Below.refl _ _).alloc (Nat.le_refl _) _)) hw hro
      have G3 : Hid (w.grownBy W3 none) := by rw [hW3]; exact gallocR G2.out _
      clear hj hg2 HD hrec hw hro
      go_wp2_with fail
      rw [← hW3]
      clear hW3
      refine (HW.out ()).mono ?_
      rintro e w4 ⟨rfl, hb⟩
      have G4 : Hid (w.grownBy w4 none) := gtrans G3.out (gbelow hb)
      clear hb HW
      go_wp2
      go_ret2
      exact ⟨G4.out, .inr ⟨f, t, b, z, rs, HA.out, rfl⟩⟩
end Go.Proofs.YtdjmhagclcfnfabGreat
/- Lists of texts that are owned, written into and looked at again. -/
namespace Go.Proofs.YtdjmhagclcfnfabGreat
open Go.RowKit Go.Shelf

theorem Tryz.infoStrs : (Tryz.prog.info? 31).map (fun i => (i.zero, i.size, i.bytes)) = some (some (.slice none 0 0), 1, 24) := by kernel_rfl

/-- The slice value sv holds the texts cs, in a block below B; or there are none. -/
def Tss (B : Nat) (W : World) (sv : Value) (cs : List ByteArray) : Prop :=
  (cs = [] ∧ ∃ a cap, sv = .slice a 0 cap) ∨ ∃ b off cap, sv = .slice (some ⟨b, off, none⟩) cs.length cap ∧ b < B ∧
    ∀ j (h : j < cs.length), W.cell? ⟨b, off + j, none⟩ = some (.string cs[j])
theorem Tss.moved {W W' : World} {sv : Value} {cs : List ByteArray} (h : Tss W.heap.size W sv cs) (hb : Below W.heap.size W W') : Tss W'.heap.size W' sv cs := by
  rcases h with h | ⟨b, off, cap, e, hlt, hc⟩
  · exact .inl h
  · exact .inr ⟨b, off, cap, e, Nat.lt_of_lt_of_le hlt hb.size, fun j hj => (hb.cell (p := ⟨b, _, none⟩) hlt).trans (hc j hj)⟩
theorem Tss.slice {B : Nat} {W : World} {sv : Value} {cs : List ByteArray} (h : Tss B W sv cs) : ∃ a cap, sv = .slice a cs.length cap := by
  rcases h with ⟨rfl, a, cap, e⟩ | ⟨b, off, cap, e, _⟩
  · exact ⟨a, cap, e⟩
  · exact ⟨_, cap, e⟩
theorem Tss.at {B : Nat} {W : World} {a : Option Addr} {l cap : Nat} {cs : List ByteArray} (h : Tss B W (.slice a l cap) cs) {k : Nat} (hk : k < cs.length) :
    ∃ b off, a = some ⟨b, off, none⟩ ∧ b < B ∧ W.cell? ⟨b, off + k, none⟩ = some (.string cs[k]) := by
  rcases h with ⟨rfl, _⟩ | ⟨b, off, cap', e, hlt, hc⟩
  · simp at hk
  · simp only [Value.slice.injEq] at e
    exact ⟨b, off, e.1, hlt, hc k hk⟩

def strVals (cs : List ByteArray) : List Value := cs.map Value.string
theorem strVals_snoc (cs : List ByteArray) (r : ByteArray) : strVals (cs ++ [r]) = strVals cs ++ [.string r] := by simp [strVals]
theorem strVals_length (cs : List ByteArray) : (strVals cs).length = cs.length * 1 := by simp [strVals]
theorem strVals_at (cs : List ByteArray) (j : Nat) (h : j < cs.length) : (strVals cs)[j]? = some (.string cs[j]) := by simp [strVals, h]
theorem strVals_set (cs : List ByteArray) (k : Nat) (r : ByteArray) : strVals (cs.set k r) = (strVals cs).set k (.string r) := by simp [strVals, List.map_set]

/-- v owns the texts cs, in a block from B on. -/
def OwnsS (B : Nat) (w : World) (v : Value) (cs : List ByteArray) : Prop := w.ownsRow B 9 1 v cs.length (strVals cs)
theorem ownsS_snoc {B : Nat} {W : World} {v : Value} {pre : List ByteArray} {x : ByteArray} (h : W.ownsRow B 9 1 v (pre.length + 1) (strVals pre ++ [.string x])) : OwnsS B W v (pre ++ [x]) := by
  unfold OwnsS
  rw [strVals_snoc, List.length_append]
  exact h
theorem OwnsS.slice {B : Nat} {W : World} {v : Value} {cs : List ByteArray} (h : OwnsS B W v cs) : ∃ a cp, v = .slice a cs.length cp := by
  rcases h.2 with ⟨rfl, h0⟩ | ⟨g, cap, cur, rfl, _⟩
  · exact ⟨none, 0, by rw [h0]⟩
  · exact ⟨_, _, rfl⟩
theorem OwnsS.own_ge {B : Nat} {W : World} {v : Value} {cs : List ByteArray} (h : OwnsS B W v cs) : ∀ g, v.ownBlock = some g → B ≤ g := by
  intro g e
  rcases h.2 with ⟨rfl, _⟩ | ⟨g', cap, cur, rfl, hb, _⟩
  · simp [Value.ownBlock] at e
  · obtain rfl : g' = g := by simpa [Value.ownBlock] using e
    exact hb
theorem OwnsS.kept {B : Nat} {W W' : World} {v : Value} {cs : List ByteArray} (h : OwnsS B W v cs) (hg : W.grownBy W' none) : OwnsS B W' v cs := by
  refine World.ownsRow.kept h hg ?_
  rcases h.2 with ⟨rfl, _⟩ | ⟨g, cap, cur, rfl, _⟩
  · exact .inl rfl
  · exact .inr (by simp [Value.ownBlock])
theorem OwnsS.alloc {B : Nat} {W : World} {v : Value} {cs : List ByteArray} (h : OwnsS B W v cs) (o : Obj) : OwnsS B (W.alloc o) v cs := World.ownsRow.alloc h o
theorem OwnsS.base {B B' : Nat} {W : World} {v : Value} {cs : List ByteArray} (h : OwnsS B W v cs) (hb : B' ≤ B) : OwnsS B' W v cs := by
  refine ⟨h.1, ?_⟩
  rcases h.2 with hn | ⟨g, cap, cur, hv, hbg, rest⟩
  · exact .inl hn
  · exact .inr ⟨g, cap, cur, hv, Nat.le_trans hb hbg, rest⟩
theorem OwnsS.row {B : Nat} {W : World} {g n cap : Nat} {cs : List ByteArray} (h : OwnsS B W (.slice (some ⟨g, 0, none⟩) n cap) cs) (j : Nat) (hj : j < cs.length) :
    W.cell? ⟨g, j, none⟩ = some (.string cs[j]) := by
  have h0 : W.ownsRow B 9 1 (.slice (some ⟨g, 0, none⟩) n cap) cs.length (strVals cs) := h
  have e0 := strVals_at cs j hj
  obtain ⟨rfl⟩ : n = cs.length := by
    rcases h0.2 with ⟨e, _⟩ | ⟨g', cap', cur, e, _⟩
    · cases e
    · cases e; rfl
  have c0 := h0.cells (g := g) rfl _ _ e0
  simp only [Addr.add_lit, Nat.zero_add] at c0 ⊢
  exact c0
theorem OwnsS.store {B : Nat} {W : World} {g n cap : Nat} {cs : List ByteArray} (h : OwnsS B W (.slice (some ⟨g, 0, none⟩) n cap) cs) (k : Nat) (r : ByteArray) :
    OwnsS B (W.setCell ⟨g, k, none⟩ (.string r)) (.slice (some ⟨g, 0, none⟩) n cap) (cs.set k r) := by
  have h0 : W.ownsRow B 9 1 (.slice (some ⟨g, 0, none⟩) n cap) cs.length (strVals cs) := h
  rcases h0.2 with ⟨e, _⟩ | ⟨g', cap', cur, e, hb, hg, h1, h2, h3, h4⟩
  · cases e
  cases e
  have b1 := block_set (i := k) hg (.string r)
  have hlen : (strVals (cs.set k r)).length = (cs.set k r).length * 1 := strVals_length _
  refine ⟨hlen, .inr ⟨g, cap, _, by rw [List.length_set], hb, b1, by rw [List.length_set]; exact h1, h2, by simpa using h3, ?_⟩⟩
  rw [List.length_set, strVals_set, ← h4]
  simp only [Array.toList_setIfInBounds, List.take_set]

/-- A list that lies from the front of a block below N. -/
def OldS (N : Nat) (W : World) (s : Value) (xs : List ByteArray) : Prop :=
  (xs = [] ∧ ∃ a cap, s = .slice a 0 cap) ∨ ∃ b cap, s = .slice (some ⟨b, 0, none⟩) xs.length cap ∧ b < N ∧
    ∀ j (h : j < xs.length), W.cell? ⟨b, j, none⟩ = some (.string xs[j])
theorem OwnsS.old {B : Nat} {W : World} {v : Value} {cs : List ByteArray} (h : OwnsS B W v cs) : OldS W.heap.size W v cs := by
  rcases h.2 with ⟨rfl, hn⟩ | ⟨g, cap, cur, rfl, _, hg, _⟩
  · exact .inl ⟨List.eq_nil_of_length_eq_zero hn, none, 0, rfl⟩
  · exact .inr ⟨g, cap, rfl, (Array.getElem?_eq_some_iff.1 hg).1, h.row⟩
theorem OldS.tss {N : Nat} {W : World} {v : Value} {cs : List ByteArray} (h : OldS N W v cs) : Tss N W v cs := by
  rcases h with h | ⟨b, cap, e, hb, hc⟩
  · exact .inl h
  · refine .inr ⟨b, 0, cap, e, hb, fun j hj => ?_⟩
    have := hc j hj
    simpa only [Nat.zero_add] using this
theorem OwnsS.tss {B : Nat} {W : World} {v : Value} {cs : List ByteArray} (h : OwnsS B W v cs) : Tss W.heap.size W v cs := h.old.tss
theorem OldS.mono {N N' : Nat} {W : World} {v : Value} {cs : List ByteArray} (h : OldS N W v cs) (hN : N ≤ N') : OldS N' W v cs := by
  rcases h with h | ⟨b, cap, e, hb, hc⟩
  · exact .inl h
  · exact .inr ⟨b, cap, e, Nat.lt_of_lt_of_le hb hN, hc⟩
theorem OldS.below {N : Nat} {W W' : World} {v : Value} {cs : List ByteArray} (h : OldS N W v cs) (hb : ∀ k, k < N → W'.heap[k]? = W.heap[k]?) : OldS N W' v cs := by
  rcases h with h | ⟨b, cap, e, hlt, hc⟩
  · exact .inl h
  · exact .inr ⟨b, cap, e, hlt, fun j hj => (World.cell?_of_block (hb b hlt)).trans (hc j hj)⟩
theorem OldS.room {B N : Nat} {W W' : World} {s : Value} {xs cs : List ByteArray} {r : ByteArray} {g n n' cap cap' : Nat} (h : OldS N W s xs) (ho : OwnsS B W (.slice (some ⟨g, 0, none⟩) n cap) cs) (ho' : OwnsS B W' (.slice (some ⟨g, 0, none⟩) n' cap') (cs ++ [r])) (hg : W.grownBy W' (some g)) (hN : N ≤ W.heap.size) (hl : xs.length ≤ cs.length) : OldS N W' s xs := by
  rcases h with h | ⟨b, c, e, hlt, hc⟩
  · exact .inl h
  · refine .inr ⟨b, c, e, hlt, fun j hj => ?_⟩
    have h0 := hc j hj
    by_cases hbg : b = g
    · subst hbg
      have o0 := ho.row j (by omega)
      have p0 := ho'.row j (by rw [List.length_append]; omega)
      rw [List.getElem_append_left (by omega)] at p0
      rw [h0] at o0
      exact p0.trans o0.symm
    · exact (World.cell?_of_block (hg.block b (Nat.lt_of_lt_of_le hlt hN) (by simpa using hbg))).trans h0
theorem OldS.other {N : Nat} {W W' : World} {s : Value} {xs : List ByteArray} {go : Nat} {a : Option Addr} {l c : Nat} (h : OldS N W s xs) (hg : W.grownBy W' (some go)) (hN : N ≤ W.heap.size) (hc : W.cell? ⟨go, 0, none⟩ = some (.slice a l c)) : OldS N W' s xs := by
  rcases h with h | ⟨b, cap, e, hlt, hcs⟩
  · exact .inl h
  · refine .inr ⟨b, cap, e, hlt, fun j hj => ?_⟩
    have h0 := hcs j hj
    have hne : b ≠ go := by
      rintro rfl
      have := hcs 0 (by omega)
      rw [hc] at this
      cases this
    exact (World.cell?_of_block (hg.block b (Nat.lt_of_lt_of_le hlt hN) (by simpa using hne))).trans h0
theorem OldS.alloc {N : Nat} {W : World} {s : Value} {xs : List ByteArray} (h : OldS N W s xs) (hN : N ≤ W.heap.size) (o : Obj) : OldS N (W.alloc o) s xs := h.below fun k hk => Below.heap_alloc W o k (by omega)
theorem OldS.slice {N : Nat} {W : World} {s : Value} {xs : List ByteArray} (h : OldS N W s xs) : ∃ a cap, s = .slice a xs.length cap := h.tss.slice

/-- **'g = append(g, r)': the lists ahead stay.** -/
theorem wpList_append_sw (w : World) {ops : Array Oper} {rest : List Oper} {o : Oper} {a : Act} {Q : Exit → Act → World → Prop} (hgd : o.guard = none) (s x : Operand)
    (ho : o.op = .call { callee := .builtin .append, args := #[s, x], argTypes := #[31, 31] })
    (B : Nat) (v : Value) (cs : List ByteArray) (hs : a.eval s = v) (hown : OwnsS B w v cs) (ad : Addr) (r : ByteArray) (hx : a.eval x = .slice (some ad) 1 1)
    (hnews : ∀ j u, [Value.string r][j]? = some u → w.cell? (ad.add j) = some u) (hl : cs.length ≤ 2000) (hB : B ≤ w.heap.size)
    (h : ∀ v' w', OwnsS B w' v' (cs ++ [r]) → w.grownBy w' v.ownBlock → (∀ N sv xs, N ≤ w.heap.size → xs.length ≤ cs.length → OldS N w sv xs → OldS N w' sv xs) → (v'.ownBlock = v.ownBlock ∨ ∀ g, v'.ownBlock = some g → w.heap.size ≤ g) → wpList Tryz.prog ops Q rest (a.put o.dst v') w') : wpList Tryz.prog ops Q (o :: rest) a w := by
  obtain ⟨i0, hi, hz0, hz1, hz2⟩ := info_parts Tryz.infoStr
  have hml : cs.length + 1 ≤ maxLen := Nat.le_trans (show cs.length + 1 ≤ 2001 by omega) (by decide)
  have h0 : w.ownsRow B 9 1 v cs.length (strVals cs) := hown
  have h1c : ∀ u ∈ [Value.string r], u.oneCell' = true := by simp [Value.oneCell']
  rcases h0.2 with ⟨rfl, hn⟩ | ⟨g, cap, cur, rfl, _⟩
  · obtain rfl : cs = [] := List.eq_nil_of_length_eq_zero hn
    refine wpList_append_own w hgd s x 31 ho w.heap.size 9 i0 _ 1 16 Tryz.underlying31 hi hz0 hz1 hz2 rfl (by decide) _ _ _ hs (World.ownsRow_nil _ _ _ _) ad 1 1 _ hx rfl hnews h1c hml (by omega) (Nat.le_refl _) ?_
    intro v' w' ho' hg' _
    have hO : OwnsS w.heap.size w' v' ([] ++ [r]) := ownsS_snoc (pre := []) ho'
    exact h v' w' (hO.base hB) hg' (fun N sv xs hN _ hold => hold.below (fun k hk => hg'.block k (by omega) (by simp [Value.ownBlock]))) (.inr hO.own_ge)
  · by_cases hroom : cs.length + 1 ≤ cap
    · refine wpList_append_own_spare w hgd s x 31 ho B 9 i0 1 Tryz.underlying31 hi hz1 g cs.length cap _ hs h0 ad 1 1 _ hx rfl hnews h1c hroom ?_
      intro w' ho' hg'
      exact h _ w' (ownsS_snoc ho') hg' (fun N sv xs hN hxl hold => hold.room hown (ownsS_snoc ho') hg' hN hxl) (.inl rfl)
    · refine wpList_append_grows w hgd s x 31 ho 9 i0 _ 1 16 Tryz.underlying31 hi hz0 hz1 hz2 rfl (by decide) (some ⟨g, 0, none⟩) cs.length cap (strVals cs) hs (fun e => by cases e) h0.1 (fun b e j u hj => by cases e; exact h0.cells (g := g) rfl j u hj) ad 1 1 _ hx rfl hnews h1c (by omega) hml (by omega) ?_
      intro v' w' ho' hg'
      have hO : OwnsS w.heap.size w' v' (cs ++ [r]) := ownsS_snoc ho'
      refine h v' w' (hO.base hB) ?_ (fun N sv xs hN _ hold => hold.below (fun k hk => hg'.block k (by omega) (by simp))) (.inr hO.own_ge)
      exact ⟨hg'.os, hg'.tape, hg'.output, hg'.size, fun j hj _ => hg'.block j hj (by simp)⟩

/-- Four lists, each as its owner left it. -/
def MarkedS (N : Nat) (W : World) (vo : Value) (m : ByteArray) (n : Nat) : Prop :=
  ∃ (g cap : Nat) (ss : List Value), vo = .slice (some ⟨g, 0, none⟩) 4 cap ∧ g < N ∧ ss.length = 4 ∧ ∀ j (h : j < ss.length), W.cell? ⟨g, j, none⟩ = some ss[j] ∧ OldS N W ss[j] (List.replicate (n + j) m)
theorem MarkedS.below {N : Nat} {W W' : World} {vo : Value} {m : ByteArray} {n : Nat} (h : MarkedS N W vo m n) (hb : Below N W W') : MarkedS N W' vo m n := by
  obtain ⟨g, cap, ss, e, hg, hl, hc⟩ := h
  exact ⟨g, cap, ss, e, hg, hl, fun j hj => ⟨(hb.cell (p := ⟨g, j, none⟩) hg).trans (hc j hj).1, (hc j hj).2.below hb.block⟩⟩
theorem rows_neS {B B' : Nat} {W : World} {v vo : Value} {cs : List ByteArray} {k : Nat} {ss : List Value} (h : OwnsS B W v cs) (ho : W.ownsRow B' 31 1 vo k ss) : (vo.ownBlock = none ∨ vo.ownBlock ≠ v.ownBlock) ∧ (v.ownBlock = none ∨ v.ownBlock ≠ vo.ownBlock) := by
  rcases h.2 with ⟨rfl, _⟩ | ⟨g, cap, cur, rfl, _, hgb, _⟩
  · refine ⟨?_, .inl rfl⟩
    rcases ho.2 with ⟨rfl, _⟩ | ⟨g', cap', cur', rfl, _⟩
    · exact .inl rfl
    · exact .inr (by simp [Value.ownBlock])
  · rcases ho.2 with ⟨rfl, _⟩ | ⟨g', cap', cur', rfl, _, hgb', _⟩
    · exact ⟨.inl rfl, .inr (by simp [Value.ownBlock])⟩
    · have hne : g ≠ g' := by
        rintro rfl
        rw [hgb] at hgb'
        simp only [Option.some.injEq, Obj.cells.injEq] at hgb'
        exact absurd hgb'.2.1 (by decide)
      exact ⟨.inr (by simpa [Value.ownBlock] using fun e => hne e.symm), .inr (by simpa [Value.ownBlock] using hne)⟩
theorem mark_setS (cs : List ByteArray) (k : Nat) (r : ByteArray) (h : k < cs.length) : (List.replicate k r ++ cs.drop k).set k r = List.replicate (k + 1) r ++ cs.drop (k + 1) := by
  rw [List.set_append_right _ _ (by simp)]
  simp only [List.length_replicate, Nat.sub_self]
  rw [List.drop_eq_getElem_cons h, List.set_cons_zero, List.replicate_succ']
  simp
end Go.Proofs.YtdjmhagclcfnfabGreat
/- strandlaw's ownTexts, sameTexts and keptTexts. -/
namespace Go.Proofs.YtdjmhagclcfnfabGreat
open Go.RowKit Go.Shelf

theorem OwnsS.slice3 {B : Nat} {W : World} {v : Value} {cs : List ByteArray} (h : OwnsS B W v cs) : ∃ a ln cp, v = .slice a ln cp := by
  obtain ⟨a, cp, e⟩ := h.slice
  exact ⟨a, _, cp, e⟩
theorem row_throughS {B B' : Nat} {W W' : World} {v vo : Value} {rs : List ByteArray} {k : Nat} {ss : List Value} {o : Obj} (h : OwnsS B W v rs) (ho : W.ownsRow B' 31 1 vo k ss) (hg : (W.alloc o).grownBy W' v.ownBlock) : W'.ownsRow B' 31 1 vo k ss :=
  World.ownsRow.kept (World.ownsRow.alloc ho o) hg (rows_neS (h.alloc o) (World.ownsRow.alloc ho o)).1

/-- A round of ownRecords' second loop. -/
theorem own_roundS {w wr w3 w5 : World} {B n k : Nat} {m : ByteArray} {vg v' out : Value} {r : Option Nat} {ss : List Value} {t1 t2 : Obj}
    (hsl : ss.length = k + 1) (HR : wr.ownsRow w.heap.size 31 1 out (k + 1) ss) (H0 : ∃ a0 l0 c0, ss[0]? = some (.slice a0 l0 c0)) (HO : OwnsS B wr vg (List.replicate (n + k) m))
    (HL : ∀ j (h : j < ss.length), OldS wr.heap.size wr ss[j] (List.replicate (n + j) m)) (HG : w.grownBy wr r) (HA : vg.ownBlock = r ∨ ∀ x, vg.ownBlock = some x → w.heap.size ≤ x)
    (O3 : OwnsS B w3 v' (List.replicate (n + k) m ++ [m])) (G3 : (wr.alloc t1).grownBy w3 vg.ownBlock)
    (L3 : ∀ N sv xs, N ≤ (wr.alloc t1).heap.size → xs.length ≤ (List.replicate (n + k) m).length → OldS N (wr.alloc t1) sv xs → OldS N w3 sv xs)
    (A3 : v'.ownBlock = vg.ownBlock ∨ ∀ g, v'.ownBlock = some g → (wr.alloc t1).heap.size ≤ g)
    (hg5 : (w3.alloc t2).grownBy w5 out.ownBlock) :
    (ss ++ [v']).length = k + 1 + 1 ∧ (∃ a0 l0 c0, (ss ++ [v'])[0]? = some (.slice a0 l0 c0)) ∧ OwnsS B w5 v' (List.replicate (n + (k + 1)) m) ∧
      (∀ j (h : j < (ss ++ [v']).length), OldS w5.heap.size w5 (ss ++ [v'])[j] (List.replicate (n + j) m)) ∧ w.grownBy w5 r ∧ (v'.ownBlock = r ∨ ∀ x, v'.ownBlock = some x → w.heap.size ≤ x) := by
  have R3 := row_throughS HO HR G3
  have erep : List.replicate (n + k) m ++ [m] = List.replicate (n + (k + 1)) m := by
    rw [← Nat.add_assoc, List.replicate_succ']
  have hs3 : wr.heap.size + 1 ≤ w3.heap.size := by have := G3.size; simpa using this
  have hs5 : w3.heap.size + 1 ≤ w5.heap.size := by have := hg5.size; simpa using this
  obtain ⟨a0, l0, c0, h00⟩ := H0
  obtain ⟨go, hgo, hc0, hge⟩ : ∃ go, out.ownBlock = some go ∧ (w3.alloc t2).cell? ⟨go, 0, none⟩ = some (.slice a0 l0 c0) ∧ w.heap.size ≤ go := by
    have R3a := World.ownsRow.alloc R3 t2
    rcases R3a.2 with ⟨_, h⟩ | ⟨go, cap, cur, e, hbg, _⟩
    · omega
    · have hgo : out.ownBlock = some go := by rw [e]; rfl
      have := R3a.cells hgo 0 _ h00
      rw [Addr.add_lit] at this
      exact ⟨go, hgo, this, hbg⟩
  refine ⟨by rw [List.length_append, hsl]; rfl, ⟨a0, l0, c0, by rw [List.getElem?_append_left (by omega)]; exact h00⟩, ?_, ?_, ?_, ?_⟩
  · rw [← erep]
    exact World.ownsRow.kept (OwnsS.alloc O3 t2) hg5 (rows_neS (OwnsS.alloc O3 t2) (World.ownsRow.alloc R3 t2)).2
  · intro j hj
    rw [List.length_append, hsl] at hj
    simp only [List.length_cons, List.length_nil, Nat.zero_add] at hj
    rw [hgo] at hg5
    by_cases hjk : j < k + 1
    · rw [List.getElem_append_left (by omega)]
      have h1 := (HL j (by omega)).alloc (Nat.le_refl _) t1
      have h2 := L3 wr.heap.size _ _ (by simp) (by simp; omega) h1
      have h3 := h2.alloc (by omega) t2
      exact (h3.other hg5 (by simp; omega) hc0).mono (by omega)
    · obtain rfl : j = k + 1 := by omega
      rw [List.getElem_append_right (by omega)]
      have h2 := O3.old
      rw [erep] at h2
      have h3 := h2.alloc (Nat.le_refl _) t2
      have h4 := (h3.other hg5 (by simp) hc0).mono (show w3.heap.size ≤ w5.heap.size by omega)
      simpa [hsl] using h4
  · have g1 := grow_own (gallocR HG t1) G3 HA
    exact grow_own (gallocR g1 t2) hg5 (.inr fun x e => by rw [hgo] at e; cases e; exact hge)
  · rcases A3 with e | h
    · rw [e]
      exact HA
    · refine .inr fun x e => ?_
      have := h x e
      have := HG.size
      simp at *
      omega

end Go.Proofs.YtdjmhagclcfnfabGreat
/- The walk of Splits. -/
namespace Go.Proofs.YtdjmhagclcfnfabGreat
open Go.RowKit Go.Shelf

def mkB (q : List UInt8) : ByteArray := ⟨q.toArray⟩
theorem own1_strs {B : Nat} {W : World} {v : Value} {ts : List (List UInt8)} (h : Own1 9 B W v (ts.map texV)) : OwnsS B W v (ts.map mkB) := by
  have e : strVals (ts.map mkB) = ts.map texV := by
    unfold strVals
    rw [List.map_map]
    rfl
  unfold OwnsS
  rw [e, List.length_map]
  have h0 : W.ownsRow B 9 1 v (ts.map texV).length (ts.map texV) := h
  rwa [List.length_map] at h0
theorem splitR_len (l : List UInt8) (limit : Int) (ts : List (List UInt8)) (h : splitR l limit = .inr ts) : ts.length ≤ 200 := by
  unfold splitR at h
  split at h
  · cases h
  · rename_i f t b z rs hp
    split at h
    · cases h
    · simp only [Sum.inr.injEq] at h
      rw [← h]
      obtain ⟨-, hw, hok⟩ := parse_exact l f t b z rs hp
      obtain ⟨h1, h2, h3, h4, h5, h6, h7, h8, h9⟩ : (0 : Int) ≤ f ∧ (f : Int) ≤ 2147483647 ∧ (1 : Int) ≤ t ∧ (t : Int) ≤ 2147483647 ∧ (f : Int) ≠ t ∧ (1 : Int) ≤ b ∧ (b : Int) ≤ 100 ∧ (1 : Int) ≤ z ∧ (z : Int) ≤ 64 := of_decide_eq_true hw
      have hl := recsOk_length b z rs hok (by omega)
      have hu := (stK_up limit rs rs.length (Nat.le_refl _)).2.2.1
      simp only [chunksR, List.length_map, List.length_range]
      show (stK limit rs rs.length).1.length ≤ 200
      omega
theorem splitR_err (l : List UInt8) (limit : Int) (k : Int) (h : splitR l limit = .inl k) : 2 ≤ k ∧ k ≤ 12 := by
  unfold splitR at h
  split at h
  · rename_i k' hp
    simp only [Sum.inl.injEq] at h
    have := parse_err l k' hp
    omega
  · split at h
    · simp only [Sum.inl.injEq] at h
      omega
    · cases h

/-- Both answer the same. -/
theorem told_split (l : List UInt8) (limit : Int) : ∃ (ts : List ByteArray) (k : Int), ts.length ≤ 200 ∧ ∀ w e w', ToldP l limit w e w' → ∃ a c, e = .returned (.tuple #[.slice a ts.length c, .int .i64 k]) ∧ OwnsS w.heap.size w' (.slice a ts.length c) ts ∧ w.grownBy w' none := by
  cases hs : splitR l limit with
  | inl k =>
    refine ⟨[], k, by simp, ?_⟩
    rintro w e w' ⟨hg, (⟨k', hk, rfl⟩ | ⟨ts, v, hk, rfl, ho⟩)⟩
    · rw [hs] at hk; cases hk
      exact ⟨none, 0, rfl, World.ownsRow_nil _ _ _ _, hg⟩
    · rw [hs] at hk; cases hk
  | inr ts =>
    refine ⟨ts.map mkB, 0, by rw [List.length_map]; exact splitR_len l limit ts hs, ?_⟩
    rintro w e w' ⟨hg, (⟨k', hk, rfl⟩ | ⟨ts', v, hk, rfl, ho⟩)⟩
    · rw [hs] at hk; cases hk
    · rw [hs] at hk; cases hk
      have ho2 := own1_strs ho
      obtain ⟨a, c, rfl⟩ := ho2.slice
      exact ⟨a, c, rfl, ho2, hg⟩

end Go.Proofs.YtdjmhagclcfnfabGreat
/- strandlaw's texts and intact. -/
namespace Go.Proofs.YtdjmhagclcfnfabGreat
open Go.RowKit Go.Shelf

theorem Tss.cells {B : Nat} {W : World} {b off l cap : Nat} {cs : List ByteArray} (h : Tss B W (.slice (some ⟨b, off, none⟩) l cap) cs) : ∀ j v, (strVals cs)[j]? = some v → W.cell? ⟨b, off + j, none⟩ = some v := by
  intro j v hj
  have hlt : j < cs.length := by
    have := (List.getElem?_eq_some_iff.1 hj).1
    simpa [strVals] using this
  obtain ⟨b', off', e, _, q0⟩ := h.at (k := j) hlt
  simp only [Option.some.injEq, Addr.mk.injEq] at e
  obtain ⟨rfl, rfl, _⟩ := e
  rw [strVals_at cs j hlt] at hj
  cases hj
  exact q0
theorem strVals_one (cs : List ByteArray) : ∀ u ∈ strVals cs, u.oneCell' = true := by
  intro u hu
  simp only [strVals, List.mem_map] at hu
  obtain ⟨r, _, rfl⟩ := hu
  rfl
theorem run_copy_strs (w : World) (ty : TypeId) (g dLen dCap : Nat) (sv : Value) (cs : List ByteArray) (cur : Array Value) (hg : w.heap[g]? = some (.cells cur 9 (0, 0))) (hR : Tss w.heap.size w sv cs) (hd : cs.length ≤ dLen) (hfit : cs.length ≤ cur.size) :
    (Builtin.copy_ #[31, 31] ty #[.slice (some ⟨g, 0, none⟩) dLen dCap, sv]).run Tryz.prog w = .ok (goInt cs.length) (w.setRow g (strVals cs ++ cur.toList.drop cs.length).toArray) := by
  obtain ⟨i0, hi, hz0, hz1, hz2⟩ := info_parts Tryz.infoStr
  obtain ⟨a, cap, rfl⟩ := hR.slice
  have hst := run_storeCells_at Tryz.prog g 0 9 (strVals cs) 0 cur w hg (by rw [strVals_length]; omega) (strVals_one cs)
  have hl : (Builtin.firstCells 1 cs.length (.slice a cs.length cap)).run Tryz.prog w = .ok (strVals cs).toArray w := by
    cases cs with
    | nil =>
      cases a with
      | none => simp [Builtin.firstCells, strVals]
      | some ad => simp [Builtin.firstCells, strVals, loadCells, loadCellsFrom]
    | cons r cs' =>
      obtain ⟨b, off, e, _⟩ := hR.at (k := 0) (by simp)
      subst e
      have := run_loadCells_list (P := Tryz.prog) w ⟨b, off, none⟩ (strVals (r :: cs')) (fun j v hj => by
        rw [Addr.add_lit]; exact hR.cells j v hj)
      rw [strVals_length] at this
      simpa [Builtin.firstCells] using this
  have hm : min cs.length dLen = cs.length := Nat.min_eq_left hd
  simp only [Nat.add_zero, Nat.zero_add, List.take_zero, List.nil_append, strVals_length, Nat.mul_one] at hst
  simp [Builtin.copy_, run_underlying Tryz.underlying31, Builtin.lenOf, sizeOf, typeInfo, hi, hz1, hm, hl, hst]

/-- The bytes of 'beyond'. -/
def beyondB : ByteArray := ⟨#[98, 101, 121, 111, 110, 100]⟩
/-- A list as a caller hands it in, with two places behind it. -/
def Roomy (W : World) (g : Nat) (cs : List ByteArray) : Prop := ∃ A : Array Value, W.heap[g]? = some (.cells A 9 (0, 0)) ∧ A.size = cs.length + 2 ∧ (∀ j (h : j < cs.length), A[j]? = some (.string cs[j])) ∧ A[cs.length]? = some (.string beyondB) ∧ A[cs.length + 1]? = some (.string beyondB)
theorem Roomy.below {W W' : World} {g : Nat} {cs : List ByteArray} (h : Roomy W g cs) (hb : Below W.heap.size W W') : Roomy W' g cs := by
  obtain ⟨A, h1, h2⟩ := h
  exact ⟨A, (hb.block g (Array.getElem?_eq_some_iff.1 h1).1).trans h1, h2⟩
theorem Roomy.tss {W : World} {g : Nat} {cs : List ByteArray} (h : Roomy W g cs) (cap : Nat) : Tss W.heap.size W (.slice (some ⟨g, 0, none⟩) cs.length cap) cs := by
  obtain ⟨A, h1, h2, h3, _⟩ := h
  exact .inr ⟨g, 0, cap, rfl, (Array.getElem?_eq_some_iff.1 h1).1, fun j hj => by rw [Nat.zero_add]; exact boxed_cell h1 (h3 j hj)⟩

end Go.Proofs.YtdjmhagclcfnfabGreat
/- The walk of Joins. -/
namespace Go.Proofs.YtdjmhagclcfnfabGreat
open Go.RowKit Go.Shelf

theorem Tss.txs {B : Nat} {W : World} {sv : Value} {cs : List ByteArray} (h : Tss B W sv cs) : Txs B W sv (cs.map (fun q => q.data.toList)) := by
  rcases h with ⟨rfl, h⟩ | ⟨b, off, cap, e, hb, hc⟩
  · exact .inl ⟨rfl, h⟩
  · refine .inr ⟨b, off, cap, by rw [List.length_map]; exact e, hb, fun j hj => ?_⟩
    rw [List.length_map] at hj
    rw [hc j hj, List.getElem_map]
/-- Both answer the same. -/
theorem told_join (ts : List (List UInt8)) : ∃ (q : ByteArray) (k : Int), ∀ w e w', ToldJ ts w e w' → e = .returned (.tuple #[.string q, .int .i64 k]) ∧ w.grownBy w' none := by
  cases hs : joinR ts with
  | inl k =>
    refine ⟨⟨#[]⟩, k, ?_⟩
    rintro w e w' ⟨hg, (⟨k', hk, rfl⟩ | ⟨f, t, b, z, rs, hk, rfl⟩)⟩
    · rw [hs] at hk; cases hk
      exact ⟨rfl, hg⟩
    · rw [hs] at hk; cases hk
  | inr x =>
    obtain ⟨f, t, b, z, rs⟩ := x
    refine ⟨⟨(serB f t b z rs).toArray⟩, 0, ?_⟩
    rintro w e w' ⟨hg, (⟨k', hk, rfl⟩ | ⟨f', t', b', z', rs', hk, rfl⟩)⟩
    · rw [hs] at hk; cases hk
    · rw [hs] at hk; cases hk
      exact ⟨rfl, hg⟩

end Go.Proofs.YtdjmhagclcfnfabGreat
/- Chunks, purely: a chunk comes back from its text. -/
namespace Go.Proofs.YtdjmhagclcfnfabGreat
open Go.RowKit Go.Shelf

theorem recsOk_low (b z : Int) (rs : List Rc) (last last' : Int) (h : recsOk b z last rs = true) (hl : last' ≤ last) : recsOk b z last' rs = true := by
  cases rs with
  | nil => rfl
  | cons r rs =>
    simp only [recsOk, Bool.and_eq_true] at h ⊢
    refine ⟨?_, h.2⟩
    have h1 : last < r.block ∧ r.block < b ∧ (r.data.size : Int) = if r.free then 0 else z := of_decide_eq_true h.1
    exact decide_eq_true ⟨by omega, h1.2⟩

theorem chunk_back (f t b z all nu many : Nat) (rs : List Rc) (hw : wellHead f t b z = true) (ho : recsOk b z (-1) rs = true) (hall : rs.length ≤ all) (hab : all ≤ b) (hnu : nu < many) (hmany : many ≤ 65535) :
    chunkR (chunkB f t b z all nu many rs) = .inr ⟨f, t, b, z, all, nu, many, rs⟩ := by
  obtain ⟨h1, h2, h3, h4, h5, h6, h7, h8, h9⟩ : (0 : Int) ≤ f ∧ (f : Int) ≤ 2147483647 ∧ (1 : Int) ≤ t ∧ (t : Int) ≤ 2147483647 ∧ (f : Int) ≠ t ∧ (1 : Int) ≤ b ∧ (b : Int) ≤ 100 ∧ (1 : Int) ≤ z ∧ (z : Int) ≤ 64 := of_decide_eq_true hw
  obtain ⟨c, hc⟩ : ∃ c, c = lowB (crc (chunkA f t b z all nu many rs)) 4 := ⟨_, rfl⟩
  have hcl : c.length = 4 := by rw [hc]; exact lowB_length _ _
  have hSC : chunkB f t b z all nu many rs = chunkA f t b z all nu many rs ++ c := by rw [hc]; rfl
  have hl : chunkB f t b z all nu many rs = [83, 84, 82, 67] ++ (lowB f 4 ++ (lowB t 4 ++ (lowB b 2 ++ (lowB z 2 ++ (lowB all 2 ++ (lowB nu 2 ++ (lowB many 2 ++ (lowB rs.length 2 ++ (recsB rs ++ c))))))))) := by
    rw [hSC, chunkA, headB]
    simp
  generalize hL : chunkB f t b z all nu many rs = L at *
  have hlen : L.length = 28 + (recsB rs).length := by
    rw [hl]
    simp only [List.length_append, lowB_length, hcl, List.length_cons, List.length_nil]
    omega
  have d4 : L.drop 4 = lowB f 4 ++ (lowB t 4 ++ (lowB b 2 ++ (lowB z 2 ++ (lowB all 2 ++ (lowB nu 2 ++ (lowB many 2 ++ (lowB rs.length 2 ++ (recsB rs ++ c)))))))) := by rw [hl]; rfl
  have d8 : L.drop 8 = lowB t 4 ++ (lowB b 2 ++ (lowB z 2 ++ (lowB all 2 ++ (lowB nu 2 ++ (lowB many 2 ++ (lowB rs.length 2 ++ (recsB rs ++ c))))))) := by
    rw [show 8 = 4 + 4 from rfl, ← List.drop_drop, d4, List.drop_left' (lowB_length _ _)]
  have d12 : L.drop 12 = lowB b 2 ++ (lowB z 2 ++ (lowB all 2 ++ (lowB nu 2 ++ (lowB many 2 ++ (lowB rs.length 2 ++ (recsB rs ++ c)))))) := by
    rw [show 12 = 8 + 4 from rfl, ← List.drop_drop, d8, List.drop_left' (lowB_length _ _)]
  have d14 : L.drop 14 = lowB z 2 ++ (lowB all 2 ++ (lowB nu 2 ++ (lowB many 2 ++ (lowB rs.length 2 ++ (recsB rs ++ c))))) := by
    rw [show 14 = 12 + 2 from rfl, ← List.drop_drop, d12, List.drop_left' (lowB_length _ _)]
  have d16 : L.drop 16 = lowB all 2 ++ (lowB nu 2 ++ (lowB many 2 ++ (lowB rs.length 2 ++ (recsB rs ++ c)))) := by
    rw [show 16 = 14 + 2 from rfl, ← List.drop_drop, d14, List.drop_left' (lowB_length _ _)]
  have d18 : L.drop 18 = lowB nu 2 ++ (lowB many 2 ++ (lowB rs.length 2 ++ (recsB rs ++ c))) := by
    rw [show 18 = 16 + 2 from rfl, ← List.drop_drop, d16, List.drop_left' (lowB_length _ _)]
  have d20 : L.drop 20 = lowB many 2 ++ (lowB rs.length 2 ++ (recsB rs ++ c)) := by
    rw [show 20 = 18 + 2 from rfl, ← List.drop_drop, d18, List.drop_left' (lowB_length _ _)]
  have d22 : L.drop 22 = lowB rs.length 2 ++ (recsB rs ++ c) := by
    rw [show 22 = 20 + 2 from rfl, ← List.drop_drop, d20, List.drop_left' (lowB_length _ _)]
  have d24 : L.drop 24 = recsB rs ++ c := by
    rw [show 24 = 22 + 2 from rfl, ← List.drop_drop, d22, List.drop_left' (lowB_length _ _)]
  have hh : headR L = (f, t, b, z, all) := by
    unfold headR
    rw [d4, d8, d12, d14, d16, List.take_left' (lowB_length _ _), List.take_left' (lowB_length _ _), List.take_left' (lowB_length _ _), List.take_left' (lowB_length _ _), List.take_left' (lowB_length _ _)]
    rw [num_lowB, num_lowB, num_lowB, num_lowB, num_lowB]
    simp only [Prod.mk.injEq]
    omega
  have ho' : openG [83, 84, 82, 67] 24 0 L = .inr (f, t, b, z, all) := by
    unfold openG
    rw [if_pos (rfl : (0 : Nat) = 0), if_neg (by omega), hh]
    have ht : L.take 4 = [83, 84, 82, 67] := by rw [hl]; rfl
    rw [ht, if_neg (by simp)]
    rw [if_pos (by simp only [hw, Bool.true_and, decide_eq_true_eq]; exact hab)]
  have n18 : num ((L.drop 18).take 2) = nu := by
    rw [d18, List.take_left' (lowB_length _ _), num_lowB]
    omega
  have n20 : num ((L.drop 20).take 2) = many := by
    rw [d20, List.take_left' (lowB_length _ _), num_lowB]
    omega
  have n22 : num ((L.drop 22).take 2) = rs.length := by
    rw [d22, List.take_left' (lowB_length _ _), num_lowB]
    omega
  have hwk := walk_recs b z (by omega) rs (-1) c (by omega) ho
  have he : endR L (L.length - c.length) = none := by
    have hp : L.length - c.length = (chunkA f t b z all nu many rs).length := by
      rw [hSC, List.length_append]
      omega
    rw [hp]
    have htk : L.take (chunkA f t b z all nu many rs).length = chunkA f t b z all nu many rs := by rw [hSC]; exact List.take_left' rfl
    have hdp : L.drop (chunkA f t b z all nu many rs).length = c := by rw [hSC]; exact List.drop_left' rfl
    unfold endR
    rw [htk, hdp, List.take_of_length_le (by omega)]
    have hnc : num c = crc (chunkA f t b z all nu many rs) := by
      rw [hc, num_lowB]
      have := crc_lt (chunkA f t b z all nu many rs)
      omega
    have hL2 : (chunkA f t b z all nu many rs).length + 4 = L.length := by
      rw [hSC, List.length_append, hcl]
    rw [if_neg (by omega), hnc, if_neg (by simp), if_neg (by omega)]
  unfold chunkR
  rw [ho']
  simp only []
  rw [n18, n20, n22, if_neg (by omega), d24, hwk]
  simp only []
  rw [he]

/-- The parts are the records again. -/
theorem parts_to (limit : Int) (rs : List Rc) : ∀ i, i < (startsR limit rs).length → ((List.range i).map (partR (startsR limit rs) rs)).flatten = rs.take ((startsR limit rs)[i]?.getD 0)
  | 0, h => by
    have := (stK_up limit rs rs.length (Nat.le_refl _)).2.2.2.2
    unfold startsR
    rw [this]
    simp
  | i + 1, h => by
    have ih := parts_to limit rs i (by omega)
    obtain ⟨h1, h2⟩ := endAt_ok limit rs i (by omega)
    rw [List.range_succ, List.map_append, List.flatten_append, ih]
    simp only [List.map_cons, List.map_nil, List.flatten_cons, List.flatten_nil, List.append_nil]
    have he : endAt (startsR limit rs) rs.length i = (startsR limit rs)[i + 1] := by
      unfold endAt
      rw [List.getElem?_eq_getElem h, Option.getD_some]
    rw [List.getElem?_eq_getElem h, Option.getD_some, List.getElem?_eq_getElem (show i < _ by omega), Option.getD_some]
    unfold partR
    rw [he, List.getElem?_eq_getElem (show i < _ by omega), Option.getD_some]
    rw [he] at h1 h2
    have h3 := List.take_append_drop (startsR limit rs)[i] (rs.take (startsR limit rs)[i + 1])
    rw [List.take_take, Nat.min_eq_left h1] at h3
    exact h3
theorem parts_all (limit : Int) (rs : List Rc) : ((List.range (startsR limit rs).length).map (partR (startsR limit rs) rs)).flatten = rs := by
  have h4 := (stK_up limit rs rs.length (Nat.le_refl _)).2.2.2.1
  have h4' : 1 ≤ (startsR limit rs).length := h4
  obtain ⟨m, hm⟩ : ∃ m, (startsR limit rs).length = m + 1 := ⟨(startsR limit rs).length - 1, by omega⟩
  rw [hm, List.range_succ, List.map_append, List.flatten_append, parts_to limit rs m (by omega)]
  simp only [List.map_cons, List.map_nil, List.flatten_cons, List.flatten_nil, List.append_nil]
  unfold partR
  have he : endAt (startsR limit rs) rs.length m = rs.length := by
    unfold endAt
    rw [List.getElem?_eq_none (by omega), Option.getD_none]
  rw [he, List.take_length, List.take_append_drop]
end Go.Proofs.YtdjmhagclcfnfabGreat
