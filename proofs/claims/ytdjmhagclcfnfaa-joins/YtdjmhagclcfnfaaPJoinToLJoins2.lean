/- PJoin, Sw, SwOwn, LTexts, LJoins, LJoins2 -/
import Derived.Test.YtdjmhagclcfnfaaPJoinedRJoin
import Derived.Test.YtdjmhagclcfnfaaLExact2ToRJoinM
import Derived.Test.YtdjmhagclcfnfaaLOwn2
import Derived.Lib.SmallJoins
import Derived.Deep.Strs
import Derived.OpenShut
/- The program's Join. -/
namespace Go.Proofs.Ytdjmhagclcfnfaa
open Go.RowKit Go.Shelf

theorem sk_of {B : Nat} {W : World} : ∀ (ps : List (Ck × Value)), ReadCs B W ps → ∃ xs : List Sk, xs.map skP = ps
  | [], _ => ⟨[], rfl⟩
  | p :: ps, h => by
    obtain ⟨xs, hx⟩ := sk_of ps (fun q hq => h q (List.mem_cons_of_mem _ hq))
    obtain ⟨a, n, c, e⟩ := (h p (by simp)).slice
    refine ⟨(p.1, a, n, c) :: xs, ?_⟩
    rw [List.map_cons, hx]
    show ((p.1, Value.slice a n c) : Ck × Value) :: ps = p :: ps
    rw [← e]
theorem chunks_err : ∀ (xs : List (List UInt8)) (k : Int), chunksOf xs = .inl k → 2 ≤ k ∧ k ≤ 8
  | [], k, h => by cases h
  | x :: xs, k, h => by
    rw [chunksOf] at h
    cases hx : chunkR x with
    | inl k' =>
      rw [hx] at h
      simp only [Sum.inl.injEq] at h
      rw [← h]
      exact chunkR_err x k' hx
    | inr c0 =>
      rw [hx] at h
      simp only [] at h
      cases h2 : chunksOf xs with
      | inl k' =>
        rw [h2] at h
        simp only [Sum.inl.injEq] at h
        rw [← h]
        exact chunks_err xs k' h2
      | inr cs0 => rw [h2] at h; cases h
theorem fresh_row {w w1 w2 : World} {g : Nat} (h1 : w.grownBy w1 none) (h2 : w1.grownBy w2 (some g)) (hg : w.heap.size ≤ g) : w.grownBy w2 none := grown_fresh h1 h2 hg

set_option maxRecDepth 100000 in
set_option maxHeartbeats 2000000 in
theorem pjoin (sv : Value) (ts : List (List UInt8)) (w : World) (hT : Txs w.heap.size w sv ts) (hl : ∀ t ∈ ts, t.length ≤ 4611686018427387904) (htl : ts.length ≤ 4611686018427387904) :
    Calls Try.prog 34 #[sv] w (ToldJ ts w) := by
  have HR : Hid (∀ u : Unit, _) := fun _ => readAll_any sv ts w hT hl htl
  obtain ⟨a, c, rfl⟩ := hT.slice
  have hmf : ∀ (fn : Fn) (first cap : Array Value) (w : World), (Instr.makeFunc fn first cap).run Try.prog w = .ok (.func fn first cap) w := fun _ _ _ _ => rfl
  clear hT hl
  go_enter Try.func34, Try.ntmps34
  go_wp2_with fail
  refine (HR.out ()).mono ?_
  rintro e w1 (⟨hn, hg, rfl⟩ | ⟨h1, h100, hg, (⟨k, hk, rfl⟩ | ⟨ps, g, hk, rfl, ho, hr⟩)⟩)
  · have HJ : Hid (joinR ts = .inl 1) := by
      show _ = _
      unfold joinR
      rw [if_pos hn]
    have HG : Hid _ := hg
    clear hn hg HR
    go_wp2
    go_ret2
    exact ⟨HG.out, .inl ⟨1, HJ.out, rfl⟩⟩
  · have hke := chunks_err ts k hk
    have e1 : (k != 0) = true := by simp; omega
    have HJ : Hid (joinR ts = .inl k) := by
      show _ = _
      unfold joinR
      rw [if_neg (by omega), hk]
      rfl
    have HG : Hid _ := hg
    clear hg HR hk hke
    go_wp2
    go_ret2
    exact ⟨HG.out, .inl ⟨k, HJ.out, rfl⟩⟩
  · obtain ⟨xs, hx⟩ := sk_of ps hr
    have hlen : xs.length = ts.length := by
      have e1 := chunksOf_length _ _ hk
      rw [← hx] at e1
      simpa using e1
    have hgB : w.heap.size ≤ g := by
      rcases ho.2 with ⟨e0, _⟩ | ⟨g', cap, cur, e0, hb, _⟩
      · cases e0
      · simp only [Value.slice.injEq, Option.some.injEq, Addr.mk.injEq] at e0
        obtain ⟨⟨rfl, -, -⟩, -, -⟩ := e0
        exact hb
    have hmem : ∀ x ∈ xs, CkOk x.1 ∧ x.1.nu < x.1.many := fun x hxm => by
      have hm : x.1 ∈ ps.map Prod.fst := by
        rw [← hx, List.map_map]
        exact List.mem_map.2 ⟨x, hxm, rfl⟩
      exact ⟨chunksOf_mem _ _ hk _ hm, chunksOf_nu _ _ hk _ hm⟩
    have hJC : joinR ts = joinC (.inr (xs.map (·.1))) := by
      unfold joinR
      rw [if_neg (by omega), hk, ← hx, List.map_map]
      rfl
    have HJ : Hid _ := hJC
    have HD : Hid (∀ u : Unit, _) := fun _ => joined_any g ts.length w.heap.size xs w1 (by rw [hlen, hx]; exact ho) (by omega) (by omega) (fun x hxm => hr (skP x) (by rw [← hx]; exact List.mem_map.2 ⟨x, hxm, rfl⟩)) hmem
    rw [hlen] at HD
    have HG : Hid _ := hg
    clear hg HR hk hr ho hx hmem hJC
    go_wp2_with fail
    refine (HD.out ()).mono ?_
    rintro e w2 ⟨hg2, (⟨hj, f, t, b, z, a', n', c', rfl⟩ | ⟨f, t, b, z, sv', rs, hj, hw, hro, hrec, rfl⟩)⟩
    · have HA : Hid (joinR ts = .inl 13) := HJ.out.trans hj
      have G2 : Hid (w.grownBy w2 none) := fresh_row HG.out hg2 hgB
      clear hj hg2 HD
      go_wp2
      go_ret2
      exact ⟨gallocR G2.out _, .inl ⟨13, HA.out, rfl⟩⟩
    · have HA : Hid (joinR ts = .inr (f, t, b, z, rs)) := HJ.out.trans hj
      have G2 : Hid (w.grownBy w2 none) := fresh_row HG.out hg2 hgB
      obtain ⟨a', c', rfl⟩ := hrec.slice
      obtain ⟨W3, hW3⟩ : ∃ W3, W3 = w2.alloc (.cells #[.int .i64 f, .int .i64 t, .int .i64 b, .int .i64 z, .slice a' rs.length c'] 24) := ⟨_, rfl⟩
      have HW : Hid (∀ u : Unit, _) := fun _ => write_any f t b z (.slice a' rs.length c') rs W3 (by rw [hW3]; exact hrec.moved ((Below.refl _ _).alloc (Nat.le_refl _) _)) hw hro
      have G3 : Hid (w.grownBy W3 none) := by rw [hW3]; exact gallocR G2.out _
      clear hj hg2 HD hrec hw hro
      go_wp2_with fail
      rw [← hW3]
      clear hW3
      refine (HW.out ()).mono ?_
      rintro e w4 ⟨rfl, hb⟩
      have G4 : Hid (w.grownBy w4 none) := gtrans G3.out (gbelow hb)
      clear hb HW
      go_wp2
      go_ret2
      exact ⟨G4.out, .inr ⟨f, t, b, z, rs, HA.out, rfl⟩⟩
end Go.Proofs.Ytdjmhagclcfnfaa
/- Lists of texts that are owned, written into and looked at again. -/
namespace Go.Proofs.Ytdjmhagclcfnfaa
open Go.RowKit Go.Shelf

theorem Try.infoStrs : (Try.prog.info? 52).map (fun i => (i.zero, i.size, i.bytes)) = some (some (.slice none 0 0), 1, 24) := by kernel_rfl

/-- The slice value sv holds the texts cs, in a block below B; or there are none. -/
def Tss (B : Nat) (W : World) (sv : Value) (cs : List ByteArray) : Prop :=
  (cs = [] ∧ ∃ a cap, sv = .slice a 0 cap) ∨ ∃ b off cap, sv = .slice (some ⟨b, off, none⟩) cs.length cap ∧ b < B ∧
    ∀ j (h : j < cs.length), W.cell? ⟨b, off + j, none⟩ = some (.string cs[j])
theorem Tss.moved {W W' : World} {sv : Value} {cs : List ByteArray} (h : Tss W.heap.size W sv cs) (hb : Below W.heap.size W W') : Tss W'.heap.size W' sv cs := by
  rcases h with h | ⟨b, off, cap, e, hlt, hc⟩
  · exact .inl h
  · exact .inr ⟨b, off, cap, e, Nat.lt_of_lt_of_le hlt hb.size, fun j hj => (hb.cell (p := ⟨b, _, none⟩) hlt).trans (hc j hj)⟩
theorem Tss.slice {B : Nat} {W : World} {sv : Value} {cs : List ByteArray} (h : Tss B W sv cs) : ∃ a cap, sv = .slice a cs.length cap := by
  rcases h with ⟨rfl, a, cap, e⟩ | ⟨b, off, cap, e, _⟩
  · exact ⟨a, cap, e⟩
  · exact ⟨_, cap, e⟩
theorem Tss.at {B : Nat} {W : World} {a : Option Addr} {l cap : Nat} {cs : List ByteArray} (h : Tss B W (.slice a l cap) cs) {k : Nat} (hk : k < cs.length) :
    ∃ b off, a = some ⟨b, off, none⟩ ∧ b < B ∧ W.cell? ⟨b, off + k, none⟩ = some (.string cs[k]) := by
  rcases h with ⟨rfl, _⟩ | ⟨b, off, cap', e, hlt, hc⟩
  · simp at hk
  · simp only [Value.slice.injEq] at e
    exact ⟨b, off, e.1, hlt, hc k hk⟩

def strVals (cs : List ByteArray) : List Value := cs.map Value.string
theorem strVals_snoc (cs : List ByteArray) (r : ByteArray) : strVals (cs ++ [r]) = strVals cs ++ [.string r] := by simp [strVals]
theorem strVals_length (cs : List ByteArray) : (strVals cs).length = cs.length * 1 := by simp [strVals]
theorem strVals_at (cs : List ByteArray) (j : Nat) (h : j < cs.length) : (strVals cs)[j]? = some (.string cs[j]) := by simp [strVals, h]
theorem strVals_set (cs : List ByteArray) (k : Nat) (r : ByteArray) : strVals (cs.set k r) = (strVals cs).set k (.string r) := by simp [strVals, List.map_set]

/-- v owns the texts cs, in a block from B on. -/
def OwnsS (B : Nat) (w : World) (v : Value) (cs : List ByteArray) : Prop := w.ownsRow B 9 1 v cs.length (strVals cs)
theorem ownsS_snoc {B : Nat} {W : World} {v : Value} {pre : List ByteArray} {x : ByteArray} (h : W.ownsRow B 9 1 v (pre.length + 1) (strVals pre ++ [.string x])) : OwnsS B W v (pre ++ [x]) := by
  unfold OwnsS
  rw [strVals_snoc, List.length_append]
  exact h
theorem OwnsS.slice {B : Nat} {W : World} {v : Value} {cs : List ByteArray} (h : OwnsS B W v cs) : ∃ a cp, v = .slice a cs.length cp := by
  rcases h.2 with ⟨rfl, h0⟩ | ⟨g, cap, cur, rfl, _⟩
  · exact ⟨none, 0, by rw [h0]⟩
  · exact ⟨_, _, rfl⟩
theorem OwnsS.own_ge {B : Nat} {W : World} {v : Value} {cs : List ByteArray} (h : OwnsS B W v cs) : ∀ g, v.ownBlock = some g → B ≤ g := by
  intro g e
  rcases h.2 with ⟨rfl, _⟩ | ⟨g', cap, cur, rfl, hb, _⟩
  · simp [Value.ownBlock] at e
  · obtain rfl : g' = g := by simpa [Value.ownBlock] using e
    exact hb
theorem OwnsS.kept {B : Nat} {W W' : World} {v : Value} {cs : List ByteArray} (h : OwnsS B W v cs) (hg : W.grownBy W' none) : OwnsS B W' v cs := by
  refine World.ownsRow.kept h hg ?_
  rcases h.2 with ⟨rfl, _⟩ | ⟨g, cap, cur, rfl, _⟩
  · exact .inl rfl
  · exact .inr (by simp [Value.ownBlock])
theorem OwnsS.alloc {B : Nat} {W : World} {v : Value} {cs : List ByteArray} (h : OwnsS B W v cs) (o : Obj) : OwnsS B (W.alloc o) v cs := World.ownsRow.alloc h o
theorem OwnsS.base {B B' : Nat} {W : World} {v : Value} {cs : List ByteArray} (h : OwnsS B W v cs) (hb : B' ≤ B) : OwnsS B' W v cs := by
  refine ⟨h.1, ?_⟩
  rcases h.2 with hn | ⟨g, cap, cur, hv, hbg, rest⟩
  · exact .inl hn
  · exact .inr ⟨g, cap, cur, hv, Nat.le_trans hb hbg, rest⟩
theorem OwnsS.row {B : Nat} {W : World} {g n cap : Nat} {cs : List ByteArray} (h : OwnsS B W (.slice (some ⟨g, 0, none⟩) n cap) cs) (j : Nat) (hj : j < cs.length) :
    W.cell? ⟨g, j, none⟩ = some (.string cs[j]) := by
  have h0 : W.ownsRow B 9 1 (.slice (some ⟨g, 0, none⟩) n cap) cs.length (strVals cs) := h
  have e0 := strVals_at cs j hj
  obtain ⟨rfl⟩ : n = cs.length := by
    rcases h0.2 with ⟨e, _⟩ | ⟨g', cap', cur, e, _⟩
    · cases e
    · cases e; rfl
  have c0 := h0.cells (g := g) rfl _ _ e0
  simp only [Addr.add_lit, Nat.zero_add] at c0 ⊢
  exact c0
theorem OwnsS.store {B : Nat} {W : World} {g n cap : Nat} {cs : List ByteArray} (h : OwnsS B W (.slice (some ⟨g, 0, none⟩) n cap) cs) (k : Nat) (r : ByteArray) :
    OwnsS B (W.setCell ⟨g, k, none⟩ (.string r)) (.slice (some ⟨g, 0, none⟩) n cap) (cs.set k r) := by
  have h0 : W.ownsRow B 9 1 (.slice (some ⟨g, 0, none⟩) n cap) cs.length (strVals cs) := h
  rcases h0.2 with ⟨e, _⟩ | ⟨g', cap', cur, e, hb, hg, h1, h2, h3, h4⟩
  · cases e
  cases e
  have b1 := block_set (i := k) hg (.string r)
  have hlen : (strVals (cs.set k r)).length = (cs.set k r).length * 1 := strVals_length _
  refine ⟨hlen, .inr ⟨g, cap, _, by rw [List.length_set], hb, b1, by rw [List.length_set]; exact h1, h2, by simpa using h3, ?_⟩⟩
  rw [List.length_set, strVals_set, ← h4]
  simp only [Array.toList_setIfInBounds, List.take_set]

/-- A list that lies from the front of a block below N. -/
def OldS (N : Nat) (W : World) (s : Value) (xs : List ByteArray) : Prop :=
  (xs = [] ∧ ∃ a cap, s = .slice a 0 cap) ∨ ∃ b cap, s = .slice (some ⟨b, 0, none⟩) xs.length cap ∧ b < N ∧
    ∀ j (h : j < xs.length), W.cell? ⟨b, j, none⟩ = some (.string xs[j])
theorem OwnsS.old {B : Nat} {W : World} {v : Value} {cs : List ByteArray} (h : OwnsS B W v cs) : OldS W.heap.size W v cs := by
  rcases h.2 with ⟨rfl, hn⟩ | ⟨g, cap, cur, rfl, _, hg, _⟩
  · exact .inl ⟨List.eq_nil_of_length_eq_zero hn, none, 0, rfl⟩
  · exact .inr ⟨g, cap, rfl, (Array.getElem?_eq_some_iff.1 hg).1, h.row⟩
theorem OldS.tss {N : Nat} {W : World} {v : Value} {cs : List ByteArray} (h : OldS N W v cs) : Tss N W v cs := by
  rcases h with h | ⟨b, cap, e, hb, hc⟩
  · exact .inl h
  · refine .inr ⟨b, 0, cap, e, hb, fun j hj => ?_⟩
    have := hc j hj
    simpa only [Nat.zero_add] using this
theorem OwnsS.tss {B : Nat} {W : World} {v : Value} {cs : List ByteArray} (h : OwnsS B W v cs) : Tss W.heap.size W v cs := h.old.tss
theorem OldS.mono {N N' : Nat} {W : World} {v : Value} {cs : List ByteArray} (h : OldS N W v cs) (hN : N ≤ N') : OldS N' W v cs := by
  rcases h with h | ⟨b, cap, e, hb, hc⟩
  · exact .inl h
  · exact .inr ⟨b, cap, e, Nat.lt_of_lt_of_le hb hN, hc⟩
theorem OldS.below {N : Nat} {W W' : World} {v : Value} {cs : List ByteArray} (h : OldS N W v cs) (hb : ∀ k, k < N → W'.heap[k]? = W.heap[k]?) : OldS N W' v cs := by
  rcases h with h | ⟨b, cap, e, hlt, hc⟩
  · exact .inl h
  · exact .inr ⟨b, cap, e, hlt, fun j hj => (World.cell?_of_block (hb b hlt)).trans (hc j hj)⟩
theorem OldS.room {B N : Nat} {W W' : World} {s : Value} {xs cs : List ByteArray} {r : ByteArray} {g n n' cap cap' : Nat} (h : OldS N W s xs) (ho : OwnsS B W (.slice (some ⟨g, 0, none⟩) n cap) cs) (ho' : OwnsS B W' (.slice (some ⟨g, 0, none⟩) n' cap') (cs ++ [r])) (hg : W.grownBy W' (some g)) (hN : N ≤ W.heap.size) (hl : xs.length ≤ cs.length) : OldS N W' s xs := by
  rcases h with h | ⟨b, c, e, hlt, hc⟩
  · exact .inl h
  · refine .inr ⟨b, c, e, hlt, fun j hj => ?_⟩
    have h0 := hc j hj
    by_cases hbg : b = g
    · subst hbg
      have o0 := ho.row j (by omega)
      have p0 := ho'.row j (by rw [List.length_append]; omega)
      rw [List.getElem_append_left (by omega)] at p0
      rw [h0] at o0
      exact p0.trans o0.symm
    · exact (World.cell?_of_block (hg.block b (Nat.lt_of_lt_of_le hlt hN) (by simpa using hbg))).trans h0
theorem OldS.other {N : Nat} {W W' : World} {s : Value} {xs : List ByteArray} {go : Nat} {a : Option Addr} {l c : Nat} (h : OldS N W s xs) (hg : W.grownBy W' (some go)) (hN : N ≤ W.heap.size) (hc : W.cell? ⟨go, 0, none⟩ = some (.slice a l c)) : OldS N W' s xs := by
  rcases h with h | ⟨b, cap, e, hlt, hcs⟩
  · exact .inl h
  · refine .inr ⟨b, cap, e, hlt, fun j hj => ?_⟩
    have h0 := hcs j hj
    have hne : b ≠ go := by
      rintro rfl
      have := hcs 0 (by omega)
      rw [hc] at this
      cases this
    exact (World.cell?_of_block (hg.block b (Nat.lt_of_lt_of_le hlt hN) (by simpa using hne))).trans h0
theorem OldS.alloc {N : Nat} {W : World} {s : Value} {xs : List ByteArray} (h : OldS N W s xs) (hN : N ≤ W.heap.size) (o : Obj) : OldS N (W.alloc o) s xs := h.below fun k hk => Below.heap_alloc W o k (by omega)
theorem OldS.slice {N : Nat} {W : World} {s : Value} {xs : List ByteArray} (h : OldS N W s xs) : ∃ a cap, s = .slice a xs.length cap := h.tss.slice

/-- **'g = append(g, r)': the lists ahead stay.** -/
theorem wpList_append_sw (w : World) {ops : Array Oper} {rest : List Oper} {o : Oper} {a : Act} {Q : Exit → Act → World → Prop} (hgd : o.guard = none) (s x : Operand)
    (ho : o.op = .call { callee := .builtin .append, args := #[s, x], argTypes := #[52, 52] })
    (B : Nat) (v : Value) (cs : List ByteArray) (hs : a.eval s = v) (hown : OwnsS B w v cs) (ad : Addr) (r : ByteArray) (hx : a.eval x = .slice (some ad) 1 1)
    (hnews : ∀ j u, [Value.string r][j]? = some u → w.cell? (ad.add j) = some u) (hl : cs.length ≤ 2000) (hB : B ≤ w.heap.size)
    (h : ∀ v' w', OwnsS B w' v' (cs ++ [r]) → w.grownBy w' v.ownBlock → (∀ N sv xs, N ≤ w.heap.size → xs.length ≤ cs.length → OldS N w sv xs → OldS N w' sv xs) → (v'.ownBlock = v.ownBlock ∨ ∀ g, v'.ownBlock = some g → w.heap.size ≤ g) → wpList Try.prog ops Q rest (a.put o.dst v') w') : wpList Try.prog ops Q (o :: rest) a w := by
  obtain ⟨i0, hi, hz0, hz1, hz2⟩ := info_parts Try.infoStr
  have hml : cs.length + 1 ≤ maxLen := Nat.le_trans (show cs.length + 1 ≤ 2001 by omega) (by decide)
  have h0 : w.ownsRow B 9 1 v cs.length (strVals cs) := hown
  have h1c : ∀ u ∈ [Value.string r], u.oneCell' = true := by simp [Value.oneCell']
  rcases h0.2 with ⟨rfl, hn⟩ | ⟨g, cap, cur, rfl, _⟩
  · obtain rfl : cs = [] := List.eq_nil_of_length_eq_zero hn
    refine wpList_append_own w hgd s x 52 ho w.heap.size 9 i0 _ 1 16 Try.underlying52 hi hz0 hz1 hz2 rfl (by decide) _ _ _ hs (World.ownsRow_nil _ _ _ _) ad 1 1 _ hx rfl hnews h1c hml (by omega) (Nat.le_refl _) ?_
    intro v' w' ho' hg' _
    have hO : OwnsS w.heap.size w' v' ([] ++ [r]) := ownsS_snoc (pre := []) ho'
    exact h v' w' (hO.base hB) hg' (fun N sv xs hN _ hold => hold.below (fun k hk => hg'.block k (by omega) (by simp [Value.ownBlock]))) (.inr hO.own_ge)
  · by_cases hroom : cs.length + 1 ≤ cap
    · refine wpList_append_own_spare w hgd s x 52 ho B 9 i0 1 Try.underlying52 hi hz1 g cs.length cap _ hs h0 ad 1 1 _ hx rfl hnews h1c hroom ?_
      intro w' ho' hg'
      exact h _ w' (ownsS_snoc ho') hg' (fun N sv xs hN hxl hold => hold.room hown (ownsS_snoc ho') hg' hN hxl) (.inl rfl)
    · refine wpList_append_grows w hgd s x 52 ho 9 i0 _ 1 16 Try.underlying52 hi hz0 hz1 hz2 rfl (by decide) (some ⟨g, 0, none⟩) cs.length cap (strVals cs) hs (fun e => by cases e) h0.1 (fun b e j u hj => by cases e; exact h0.cells (g := g) rfl j u hj) ad 1 1 _ hx rfl hnews h1c (by omega) hml (by omega) ?_
      intro v' w' ho' hg'
      have hO : OwnsS w.heap.size w' v' (cs ++ [r]) := ownsS_snoc ho'
      refine h v' w' (hO.base hB) ?_ (fun N sv xs hN _ hold => hold.below (fun k hk => hg'.block k (by omega) (by simp))) (.inr hO.own_ge)
      exact ⟨hg'.os, hg'.tape, hg'.output, hg'.size, fun j hj _ => hg'.block j hj (by simp)⟩

/-- Four lists, each as its owner left it. -/
def MarkedS (N : Nat) (W : World) (vo : Value) (m : ByteArray) (n : Nat) : Prop :=
  ∃ (g cap : Nat) (ss : List Value), vo = .slice (some ⟨g, 0, none⟩) 4 cap ∧ g < N ∧ ss.length = 4 ∧ ∀ j (h : j < ss.length), W.cell? ⟨g, j, none⟩ = some ss[j] ∧ OldS N W ss[j] (List.replicate (n + j) m)
theorem MarkedS.below {N : Nat} {W W' : World} {vo : Value} {m : ByteArray} {n : Nat} (h : MarkedS N W vo m n) (hb : Below N W W') : MarkedS N W' vo m n := by
  obtain ⟨g, cap, ss, e, hg, hl, hc⟩ := h
  exact ⟨g, cap, ss, e, hg, hl, fun j hj => ⟨(hb.cell (p := ⟨g, j, none⟩) hg).trans (hc j hj).1, (hc j hj).2.below hb.block⟩⟩
theorem rows_neS {B B' : Nat} {W : World} {v vo : Value} {cs : List ByteArray} {k : Nat} {ss : List Value} (h : OwnsS B W v cs) (ho : W.ownsRow B' 52 1 vo k ss) : (vo.ownBlock = none ∨ vo.ownBlock ≠ v.ownBlock) ∧ (v.ownBlock = none ∨ v.ownBlock ≠ vo.ownBlock) := by
  rcases h.2 with ⟨rfl, _⟩ | ⟨g, cap, cur, rfl, _, hgb, _⟩
  · refine ⟨?_, .inl rfl⟩
    rcases ho.2 with ⟨rfl, _⟩ | ⟨g', cap', cur', rfl, _⟩
    · exact .inl rfl
    · exact .inr (by simp [Value.ownBlock])
  · rcases ho.2 with ⟨rfl, _⟩ | ⟨g', cap', cur', rfl, _, hgb', _⟩
    · exact ⟨.inl rfl, .inr (by simp [Value.ownBlock])⟩
    · have hne : g ≠ g' := by
        rintro rfl
        rw [hgb] at hgb'
        simp only [Option.some.injEq, Obj.cells.injEq] at hgb'
        exact absurd hgb'.2.1 (by decide)
      exact ⟨.inr (by simpa [Value.ownBlock] using fun e => hne e.symm), .inr (by simpa [Value.ownBlock] using hne)⟩
theorem mark_setS (cs : List ByteArray) (k : Nat) (r : ByteArray) (h : k < cs.length) : (List.replicate k r ++ cs.drop k).set k r = List.replicate (k + 1) r ++ cs.drop (k + 1) := by
  rw [List.set_append_right _ _ (by simp)]
  simp only [List.length_replicate, Nat.sub_self]
  rw [List.drop_eq_getElem_cons h, List.set_cons_zero, List.replicate_succ']
  simp
end Go.Proofs.Ytdjmhagclcfnfaa
/- strandlaw's ownTexts, sameTexts and keptTexts. -/
namespace Go.Proofs.Ytdjmhagclcfnfaa
open Go.RowKit Go.Shelf

theorem OwnsS.slice3 {B : Nat} {W : World} {v : Value} {cs : List ByteArray} (h : OwnsS B W v cs) : ∃ a ln cp, v = .slice a ln cp := by
  obtain ⟨a, cp, e⟩ := h.slice
  exact ⟨a, _, cp, e⟩
theorem row_throughS {B B' : Nat} {W W' : World} {v vo : Value} {rs : List ByteArray} {k : Nat} {ss : List Value} {o : Obj} (h : OwnsS B W v rs) (ho : W.ownsRow B' 52 1 vo k ss) (hg : (W.alloc o).grownBy W' v.ownBlock) : W'.ownsRow B' 52 1 vo k ss :=
  World.ownsRow.kept (World.ownsRow.alloc ho o) hg (rows_neS (h.alloc o) (World.ownsRow.alloc ho o)).1

/-- A round of ownRecords' second loop. -/
theorem own_roundS {w wr w3 w5 : World} {B n k : Nat} {m : ByteArray} {vg v' out : Value} {r : Option Nat} {ss : List Value} {t1 t2 : Obj}
    (hsl : ss.length = k + 1) (HR : wr.ownsRow w.heap.size 52 1 out (k + 1) ss) (H0 : ∃ a0 l0 c0, ss[0]? = some (.slice a0 l0 c0)) (HO : OwnsS B wr vg (List.replicate (n + k) m))
    (HL : ∀ j (h : j < ss.length), OldS wr.heap.size wr ss[j] (List.replicate (n + j) m)) (HG : w.grownBy wr r) (HA : vg.ownBlock = r ∨ ∀ x, vg.ownBlock = some x → w.heap.size ≤ x)
    (O3 : OwnsS B w3 v' (List.replicate (n + k) m ++ [m])) (G3 : (wr.alloc t1).grownBy w3 vg.ownBlock)
    (L3 : ∀ N sv xs, N ≤ (wr.alloc t1).heap.size → xs.length ≤ (List.replicate (n + k) m).length → OldS N (wr.alloc t1) sv xs → OldS N w3 sv xs)
    (A3 : v'.ownBlock = vg.ownBlock ∨ ∀ g, v'.ownBlock = some g → (wr.alloc t1).heap.size ≤ g)
    (hg5 : (w3.alloc t2).grownBy w5 out.ownBlock) :
    (ss ++ [v']).length = k + 1 + 1 ∧ (∃ a0 l0 c0, (ss ++ [v'])[0]? = some (.slice a0 l0 c0)) ∧ OwnsS B w5 v' (List.replicate (n + (k + 1)) m) ∧
      (∀ j (h : j < (ss ++ [v']).length), OldS w5.heap.size w5 (ss ++ [v'])[j] (List.replicate (n + j) m)) ∧ w.grownBy w5 r ∧ (v'.ownBlock = r ∨ ∀ x, v'.ownBlock = some x → w.heap.size ≤ x) := by
  have R3 := row_throughS HO HR G3
  have erep : List.replicate (n + k) m ++ [m] = List.replicate (n + (k + 1)) m := by
    rw [← Nat.add_assoc, List.replicate_succ']
  have hs3 : wr.heap.size + 1 ≤ w3.heap.size := by have := G3.size; simpa using this
  have hs5 : w3.heap.size + 1 ≤ w5.heap.size := by have := hg5.size; simpa using this
  obtain ⟨a0, l0, c0, h00⟩ := H0
  obtain ⟨go, hgo, hc0, hge⟩ : ∃ go, out.ownBlock = some go ∧ (w3.alloc t2).cell? ⟨go, 0, none⟩ = some (.slice a0 l0 c0) ∧ w.heap.size ≤ go := by
    have R3a := World.ownsRow.alloc R3 t2
    rcases R3a.2 with ⟨_, h⟩ | ⟨go, cap, cur, e, hbg, _⟩
    · omega
    · have hgo : out.ownBlock = some go := by rw [e]; rfl
      have := R3a.cells hgo 0 _ h00
      rw [Addr.add_lit] at this
      exact ⟨go, hgo, this, hbg⟩
  refine ⟨by rw [List.length_append, hsl]; rfl, ⟨a0, l0, c0, by rw [List.getElem?_append_left (by omega)]; exact h00⟩, ?_, ?_, ?_, ?_⟩
  · rw [← erep]
    exact World.ownsRow.kept (OwnsS.alloc O3 t2) hg5 (rows_neS (OwnsS.alloc O3 t2) (World.ownsRow.alloc R3 t2)).2
  · intro j hj
    rw [List.length_append, hsl] at hj
    simp only [List.length_cons, List.length_nil, Nat.zero_add] at hj
    rw [hgo] at hg5
    by_cases hjk : j < k + 1
    · rw [List.getElem_append_left (by omega)]
      have h1 := (HL j (by omega)).alloc (Nat.le_refl _) t1
      have h2 := L3 wr.heap.size _ _ (by simp) (by simp; omega) h1
      have h3 := h2.alloc (by omega) t2
      exact (h3.other hg5 (by simp; omega) hc0).mono (by omega)
    · obtain rfl : j = k + 1 := by omega
      rw [List.getElem_append_right (by omega)]
      have h2 := O3.old
      rw [erep] at h2
      have h3 := h2.alloc (Nat.le_refl _) t2
      have h4 := (h3.other hg5 (by simp) hc0).mono (show w3.heap.size ≤ w5.heap.size by omega)
      simpa [hsl] using h4
  · have g1 := grow_own (gallocR HG t1) G3 HA
    exact grow_own (gallocR g1 t2) hg5 (.inr fun x e => by rw [hgo] at e; cases e; exact hge)
  · rcases A3 with e | h
    · rw [e]
      exact HA
    · refine .inr fun x e => ?_
      have := h x e
      have := HG.size
      simp at *
      omega

set_option maxRecDepth 100000 in
set_option maxHeartbeats 1000000 in
theorem ownTexts_any (v : Value) (rs : List ByteArray) (m : ByteArray) (B : Nat) (w : World) (ho : OwnsS B w v rs) (hl : rs.length ≤ 1000) (hB : B ≤ w.heap.size) :
    Calls Try.prog 31 #[v, .string m] w fun e w' => ∃ vo, e = .returned vo ∧ MarkedS w'.heap.size w' vo m rs.length ∧ w.grownBy w' v.ownBlock := by
  obtain ⟨a, c, rfl⟩ := ho.slice
  go_enter Try.func31, Try.ntmps31
  go_wp2
  go_loopw [5] (fun i wr => ∃ k : Nat, k ≤ rs.length ∧ i = .int .i64 k ∧ OwnsS B wr (.slice a rs.length c) (List.replicate k m ++ rs.drop k) ∧ w.grownBy wr (Value.slice a rs.length c).ownBlock) (fun i _ => rs.length - (intOf i).toNat)
  case atStart => exact ⟨0, Nat.zero_le _, rfl, ho, drew_grown w 0 _⟩
  case round =>
    obtain ⟨k, hk, rfl, hown, hgw⟩ := hrel
    have HO : Hid _ := hown
    have HG : Hid _ := hgw
    by_cases hlt : k < rs.length
    · obtain ⟨g, rfl⟩ : ∃ g, a = some ⟨g, 0, none⟩ := by
        rcases hown.2 with ⟨e, _⟩ | ⟨g, cap, cur, e, _⟩
        · simp only [Value.slice.injEq] at e
          omega
        · simp only [Value.slice.injEq] at e
          exact ⟨g, e.1⟩
      have q0 := hown.row k (by simp; omega)
      have hfz : ∀ o, wr.frozen? ⟨g, o, none⟩ = false := by
        rcases hown.2 with ⟨e, _⟩ | ⟨g', cap, cur, e, _, hgb, _⟩
        · cases e
        · simp only [Value.slice.injEq, Option.some.injEq, Addr.mk.injEq] at e
          obtain ⟨⟨rfl, _⟩, _⟩ := e
          exact fun o => boxed_frozen hgb
      have z0 := hfz k
      clear hfz hown hgw ho
      go_wp2
      refine ⟨⟨k + 1, by omega, by go_num, ?_, ?_⟩, by simp [intOf]; omega⟩
      · have h := OwnsS.store HO.out k m
        rw [mark_setS rs k _ hlt] at h
        exact h
      · exact gtrans HG.out (gset _ _ _ _)
    · obtain rfl : k = rs.length := by omega
      rw [List.drop_length, List.append_nil] at hown
      have hb0 : ∀ g, (Value.slice a rs.length c).ownBlock = some g → B ≤ g := hown.own_ge
      clear HO HG ho
      go_wp2
      have O1 := OwnsS.alloc hown (.cells #[.slice a rs.length c] 52)
      have G1 : w.grownBy (wr.alloc (.cells #[.slice a rs.length c] 52)) (Value.slice a rs.length c).ownBlock := gallocR hgw _
      have R1 : (wr.alloc (.cells #[.slice a rs.length c] 52)).ownsRow w.heap.size 52 1 (.slice (some ⟨wr.heap.size, 0, none⟩) 1 1) 1 [.slice a rs.length c] := ⟨rfl, .inr ⟨wr.heap.size, 1, _, rfl, hgw.size, World.alloc_heap_new _ _, Nat.le_refl _, by decide, rfl, rfl⟩⟩
      generalize wr.alloc (.cells #[.slice a rs.length c] 52) = W1 at *
      go_loopw [6, 7, 8] (fun out g i wq => ∃ (k : Nat) (ss : List Value), k ≤ 3 ∧ i = .int .i64 k ∧ ss.length = k + 1 ∧ wq.ownsRow w.heap.size 52 1 out (k + 1) ss ∧ (∃ a0 l0 c0, ss[0]? = some (.slice a0 l0 c0)) ∧ OwnsS B wq g (List.replicate (rs.length + k) m) ∧ (∀ j (h : j < ss.length), OldS wq.heap.size wq ss[j] (List.replicate (rs.length + j) m)) ∧ w.grownBy wq (Value.slice a rs.length c).ownBlock ∧ (g.ownBlock = (Value.slice a rs.length c).ownBlock ∨ ∀ x, g.ownBlock = some x → w.heap.size ≤ x)) (fun _ _ i _ => 3 - (intOf i).toNat)
      case atStart =>
        refine ⟨0, _, by omega, rfl, rfl, R1, ⟨_, _, _, rfl⟩, O1, ?_, G1, .inl rfl⟩
        intro j hj
        obtain rfl : j = 0 := by simpa using hj
        exact O1.old
      case round =>
        obtain ⟨k, ss, hk3, rfl, hsl, hrow, hs0, hO, hold, hG, hat⟩ := hrel
        by_cases hlt : k < 3
        · have HR : Hid _ := hrow
          have H0 : Hid _ := hs0
          have HO : Hid _ := hO
          have HL : Hid _ := hold
          have HG : Hid _ := hG
          have HA : Hid _ := hat
          clear hrow hs0 hO hold hG hat hown hgw O1 G1 R1
          have hBw : B ≤ wr.heap.size := Nat.le_trans hB HG.out.size
          have hkk : (List.replicate (rs.length + k) m).length ≤ 2000 := by simp; omega
          have hml : k + 1 + 1 ≤ maxLen := Nat.le_trans (show k + 1 + 1 ≤ 5 by omega) (by decide)
          obtain ⟨i1, hi1, hy0, hy1, hy2⟩ := info_parts Try.infoStrs
          go_wp2_with (at_builtin; first
            | (refine wpList_append_sw _ rfl _ _ rfl B _ (List.replicate (rs.length + k) m) rfl (OwnsS.alloc HO.out _) ⟨_, 0, none⟩ m rfl (cells_new2 _ _ _ _ (by simp)) hkk (by simp; omega) ?_; intro v' w3 hO3 hg3 hold3 hat3; obtain ⟨a3, l3, c3, rfl⟩ := OwnsS.slice3 hO3; have O3 : Hid _ := hO3; have G3 : Hid _ := hg3; have L3 : Hid _ := hold3; have A3 : Hid _ := hat3; have R3 := row_throughS HO.out HR.out hg3; clear hO3 hg3 hold3 hat3)
            | (refine wpList_append_own _ rfl _ _ 56 rfl w.heap.size 52 i1 _ 1 24 Try.underlying56 hi1 hy0 hy1 hy2 rfl (by decide) _ _ _ rfl (World.ownsRow.alloc R3 _) ⟨_, 0, none⟩ 1 1 [_] rfl rfl (cells_new2 _ _ _ _ (by simp)) (by simp [Value.oneCell']) hml (by omega) (by have := G3.out.size; have := HG.out.size; simp at *; omega) ?_; intro vo w5 hrow5 hg5 hn5))
          obtain ⟨p1, p2, p3, p4, p5, p6⟩ := own_roundS hsl HR.out H0.out HO.out HL.out HG.out HA.out O3.out G3.out L3.out A3.out hg5
          exact ⟨⟨k + 1, _, by omega, by go_num, p1, hrow5, p2, p3, p4, p5, p6⟩, by simp [intOf]; omega⟩
        · obtain rfl : k = 3 := by omega
          go_wp2
          go_ret
          refine ⟨_, rfl, ?_, hG⟩
          rcases hrow.2 with ⟨_, h0⟩ | ⟨g, cap, cur, hv, hbg, hgb, _⟩
          · omega
          refine ⟨g, cap, ss, hv, (Array.getElem?_eq_some_iff.1 hgb).1, by omega, fun j hj => ⟨?_, hold j hj⟩⟩
          have := World.ownsRow.cells hrow (g := g) (by rw [hv]; rfl) j ss[j] (List.getElem?_eq_getElem hj)
          rw [Addr.add_lit, Nat.zero_add] at this
          exact this

set_option maxRecDepth 100000 in
set_option maxHeartbeats 1000000 in
/-- sameCells of two lists that hold the same. -/
theorem sameT_any (sv sv' : Value) (rs : List ByteArray) (w : World) (hR : Tss w.heap.size w sv rs) (hR' : Tss w.heap.size w sv' rs) (hlen : rs.length ≤ 4611686018427387904) :
    Calls Try.prog 30 #[sv, sv'] w fun e w' => e = .returned (.bool true) ∧ ∃ n, w' = w.drewN n := by
  obtain ⟨a, c, rfl⟩ := hR.slice
  obtain ⟨a', c', rfl⟩ := hR'.slice
  go_enter Try.func30, Try.ntmps30
  go_wp2
  go_loopw [5] (fun i wr => ∃ k : Nat, k ≤ rs.length ∧ i = .int .i64 k ∧ ∃ n, wr = w.drewN n) (fun i _ => rs.length - (intOf i).toNat)
  case atStart => exact ⟨0, Nat.zero_le _, rfl, 0, rfl⟩
  case round =>
    obtain ⟨k, hk, rfl, n, rfl⟩ := hrel
    by_cases hlt : k < rs.length
    · obtain ⟨b, off, ha, hb, q0⟩ := hR.at hlt
      obtain ⟨b', off', ha', hb', q0'⟩ := hR'.at hlt
      subst ha
      subst ha'
      generalize rs[k] = r at *
      go_wp2
      go_quiet (fail)
      go_wp2
      go_roundw
      case rel => exact ⟨k + 1, by omega, by go_num, _, rfl⟩
      case measure => simp [intOf]; omega
    · go_wp2
      go_ret
      exact ⟨rfl, n, rfl⟩

set_option maxRecDepth 100000 in
set_option maxHeartbeats 1000000 in
theorem keptTexts_any (vo : Value) (m : ByteArray) (n N : Nat) (w : World) (h : MarkedS N w vo m n) (hn : n ≤ 1000) :
    Calls Try.prog 32 #[vo, .string m] w fun e w' => e = .returned (.bool true) ∧ w.grownBy w' none := by
  obtain ⟨g, cap, ss, rfl, hg, hl, hc⟩ := h
  have HC : Hid _ := hc
  clear hc
  go_enter Try.func32, Try.ntmps32
  go_wp2
  go_loop [5] (fun i => ∃ k : Nat, k ≤ 4 ∧ i = .int .i64 k) (fun i => 4 - (intOf i).toNat)
  case atStart => exact ⟨0, by omega, rfl⟩
  case round =>
    obtain ⟨k, hk, rfl⟩ := hrel
    by_cases hlt : k < 4
    · obtain ⟨q, hold⟩ := HC.out k (by omega)
      obtain ⟨a, c, hs⟩ := hold.slice
      rw [List.length_replicate] at hs
      rw [hs] at q hold
      have HO : Hid _ := hold
      clear hold hs
      go_wp2
      go_loop [6] (fun i => ∃ j : Nat, j ≤ n + k ∧ i = .int .i64 j) (fun i => n + k - (intOf i).toNat)
      case atStart => exact ⟨0, by omega, rfl⟩
      case round =>
        obtain ⟨j, hj, rfl⟩ := hrel
        by_cases hjt : j < n + k
        · obtain ⟨b, rfl, o0⟩ : ∃ b, a = some ⟨b, 0, none⟩ ∧ w.cell? ⟨b, j, none⟩ = some (.string m) := by
            rcases HO.out with ⟨h0, _⟩ | ⟨b, cap', e, _, hcs⟩
            · have := congrArg List.length h0
              simp at this
              omega
            · simp only [Value.slice.injEq] at e
              have h0 := hcs j (by simpa using hjt)
              simp only [List.getElem_replicate] at h0
              exact ⟨b, e.1, h0⟩
          go_wp2
          go_round
          case rel => exact ⟨j + 1, by omega, by go_num⟩
          case measure => simp [intOf]; omega
        · go_wp2
          go_round
          case rel => exact ⟨k + 1, by omega, by go_num⟩
          case measure => simp [intOf]; omega
    · go_wp2
      go_ret
      exact ⟨rfl, drew_grown w 0 none⟩
end Go.Proofs.Ytdjmhagclcfnfaa
/- strandlaw's texts and intact. -/
namespace Go.Proofs.Ytdjmhagclcfnfaa
open Go.RowKit Go.Shelf

theorem Tss.cells {B : Nat} {W : World} {b off l cap : Nat} {cs : List ByteArray} (h : Tss B W (.slice (some ⟨b, off, none⟩) l cap) cs) : ∀ j v, (strVals cs)[j]? = some v → W.cell? ⟨b, off + j, none⟩ = some v := by
  intro j v hj
  have hlt : j < cs.length := by
    have := (List.getElem?_eq_some_iff.1 hj).1
    simpa [strVals] using this
  obtain ⟨b', off', e, _, q0⟩ := h.at (k := j) hlt
  simp only [Option.some.injEq, Addr.mk.injEq] at e
  obtain ⟨rfl, rfl, _⟩ := e
  rw [strVals_at cs j hlt] at hj
  cases hj
  exact q0
theorem strVals_one (cs : List ByteArray) : ∀ u ∈ strVals cs, u.oneCell' = true := by
  intro u hu
  simp only [strVals, List.mem_map] at hu
  obtain ⟨r, _, rfl⟩ := hu
  rfl
theorem run_copy_strs (w : World) (ty : TypeId) (g dLen dCap : Nat) (sv : Value) (cs : List ByteArray) (cur : Array Value) (hg : w.heap[g]? = some (.cells cur 9 (0, 0))) (hR : Tss w.heap.size w sv cs) (hd : cs.length ≤ dLen) (hfit : cs.length ≤ cur.size) :
    (Builtin.copy_ #[52, 52] ty #[.slice (some ⟨g, 0, none⟩) dLen dCap, sv]).run Try.prog w = .ok (goInt cs.length) (w.setRow g (strVals cs ++ cur.toList.drop cs.length).toArray) := by
  obtain ⟨i0, hi, hz0, hz1, hz2⟩ := info_parts Try.infoStr
  obtain ⟨a, cap, rfl⟩ := hR.slice
  have hst := run_storeCells_at Try.prog g 0 9 (strVals cs) 0 cur w hg (by rw [strVals_length]; omega) (strVals_one cs)
  have hl : (Builtin.firstCells 1 cs.length (.slice a cs.length cap)).run Try.prog w = .ok (strVals cs).toArray w := by
    cases cs with
    | nil =>
      cases a with
      | none => simp [Builtin.firstCells, strVals]
      | some ad => simp [Builtin.firstCells, strVals, loadCells, loadCellsFrom]
    | cons r cs' =>
      obtain ⟨b, off, e, _⟩ := hR.at (k := 0) (by simp)
      subst e
      have := run_loadCells_list (P := Try.prog) w ⟨b, off, none⟩ (strVals (r :: cs')) (fun j v hj => by
        rw [Addr.add_lit]; exact hR.cells j v hj)
      rw [strVals_length] at this
      simpa [Builtin.firstCells] using this
  have hm : min cs.length dLen = cs.length := Nat.min_eq_left hd
  simp only [Nat.add_zero, Nat.zero_add, List.take_zero, List.nil_append, strVals_length, Nat.mul_one] at hst
  simp [Builtin.copy_, run_underlying Try.underlying52, Builtin.lenOf, sizeOf, typeInfo, hi, hz1, hm, hl, hst]

/-- The bytes of 'beyond'. -/
def beyondB : ByteArray := ⟨#[98, 101, 121, 111, 110, 100]⟩
/-- A list as a caller hands it in, with two places behind it. -/
def Roomy (W : World) (g : Nat) (cs : List ByteArray) : Prop := ∃ A : Array Value, W.heap[g]? = some (.cells A 9 (0, 0)) ∧ A.size = cs.length + 2 ∧ (∀ j (h : j < cs.length), A[j]? = some (.string cs[j])) ∧ A[cs.length]? = some (.string beyondB) ∧ A[cs.length + 1]? = some (.string beyondB)
theorem Roomy.below {W W' : World} {g : Nat} {cs : List ByteArray} (h : Roomy W g cs) (hb : Below W.heap.size W W') : Roomy W' g cs := by
  obtain ⟨A, h1, h2⟩ := h
  exact ⟨A, (hb.block g (Array.getElem?_eq_some_iff.1 h1).1).trans h1, h2⟩
theorem Roomy.tss {W : World} {g : Nat} {cs : List ByteArray} (h : Roomy W g cs) (cap : Nat) : Tss W.heap.size W (.slice (some ⟨g, 0, none⟩) cs.length cap) cs := by
  obtain ⟨A, h1, h2, h3, _⟩ := h
  exact .inr ⟨g, 0, cap, rfl, (Array.getElem?_eq_some_iff.1 h1).1, fun j hj => by rw [Nat.zero_add]; exact boxed_cell h1 (h3 j hj)⟩

set_option maxRecDepth 100000 in
set_option maxHeartbeats 4000000 in
theorem texts_any (sv : Value) (cs : List ByteArray) (w : World) (hR : Tss w.heap.size w sv cs) (hlen : cs.length * 16 ≤ 140737488355328) :
    Calls Try.prog 33 #[sv] w fun e w' => e = .returned (.slice (some ⟨w.heap.size, 0, none⟩) cs.length (cs.length + 2)) ∧ Roomy w' w.heap.size cs ∧ Below w.heap.size w w' := by
  obtain ⟨i0, hi, hz0, hz1, hz2⟩ := info_parts Try.infoStr
  obtain ⟨a, cap, rfl⟩ := hR.slice
  have hmk : ∀ W : World, (Instr.makeSlice 52 (.int .i64 (cs.length + 2)) (.int .i64 (cs.length + 2))).run Try.prog W = .ok (.slice (some ⟨W.heap.size, 0, none⟩) (cs.length + 2) (cs.length + 2)) (W.alloc (.cells (madeCells (Value.string ⟨#[]⟩).cells ((cs.length + 2) * 1)) 9)) := by
    intro W
    have := run_make (P := Try.prog) W 52 9 i0 _ Try.underlying52 hi hz0 .i64 .i64 ((cs.length : Int) + 2) ((cs.length : Int) + 2) (by omega) (Int.le_refl _) (by rw [hz2]; omega) (by omega)
    rw [hz1, show ((cs.length : Int) + 2).toNat = cs.length + 2 from by omega] at this
    exact this
  obtain ⟨M, hM⟩ : ∃ M, M = madeCells (Value.string ⟨#[]⟩).cells ((cs.length + 2) * 1) := ⟨_, rfl⟩
  have hMs : M.size = cs.length + 2 := by rw [hM, size_madeCells]; omega
  have hB1 : Below w.heap.size w (w.alloc (.cells M 9)) := (Below.refl _ _).alloc (Nat.le_refl _) _
  have hG1 : (w.alloc (.cells M 9)).heap[w.heap.size]? = some (.cells M 9 (0, 0)) := World.alloc_heap_new _ _
  have hcp := run_copy_strs (w.alloc (.cells M 9)) 3 w.heap.size (cs.length + 2) (cs.length + 2) (.slice a cs.length cap) cs M hG1 (hR.moved hB1) (by omega) (by omega)
  obtain ⟨W2, hW2⟩ : ∃ W2, W2 = (w.alloc (.cells M 9)).setRow w.heap.size (strVals cs ++ M.toList.drop cs.length).toArray := ⟨_, rfl⟩
  have hG2 : W2.heap[w.heap.size]? = some (.cells (strVals cs ++ M.toList.drop cs.length).toArray 9 (0, 0)) := by
    rw [hW2]; exact setRow_heap _ _ _ _ _ _ hG1
  have hB2 : Below w.heap.size w W2 := by
    rw [hW2]; exact hB1.trans ⟨rfl, rfl, rfl, by simp [World.setRow], fun k hk => setRow_other _ _ _ _ (by omega)⟩
  rw [← hW2] at hcp
  rw [← hM] at hmk
  clear hW2 hG1 hB1 hM
  have harr : (strVals cs ++ M.toList.drop cs.length).toArray.size = cs.length + 2 := by
    simp [strVals, hMs]
  have hpre : ∀ j (h : j < cs.length), (strVals cs ++ M.toList.drop cs.length).toArray[j]? = some (.string cs[j]) := fun j h => by
    rw [List.getElem?_toArray, List.getElem?_append_left (by simp [strVals]; exact h)]
    exact strVals_at cs j h
  have HPre : Hid _ := hpre
  clear hpre
  generalize (strVals cs ++ M.toList.drop cs.length).toArray = A at *
  obtain ⟨x1, u1⟩ : ∃ v, W2.cell? ⟨w.heap.size, cs.length, none⟩ = some v := ⟨_, boxed_cell hG2 (Array.getElem?_eq_getElem (by omega))⟩
  obtain ⟨x2, u2⟩ : ∃ v, W2.cell? ⟨w.heap.size, cs.length + 1, none⟩ = some v := ⟨_, boxed_cell hG2 (Array.getElem?_eq_getElem (by omega))⟩
  have hfr : ∀ o, W2.frozen? ⟨w.heap.size, o, none⟩ = false := fun o => boxed_frozen hG2
  have HG2 : Hid _ := hG2
  have HB2 : Hid _ := hB2
  clear hG2 hB2
  go_enter Try.func33, Try.ntmps33
  go_wp2
  go_ret
  refine ⟨rfl, ⟨_, block_set (block_set HG2.out _) _, ?_, ?_, ?_, ?_⟩, ?_⟩
  · rw [Array.size_setIfInBounds, Array.size_setIfInBounds]
    exact harr
  · intro j h
    rw [Array.getElem?_setIfInBounds_ne (by omega), Array.getElem?_setIfInBounds_ne (by omega)]
    exact HPre.out j h
  · rw [Array.getElem?_setIfInBounds_ne (by omega), Array.getElem?_setIfInBounds, if_pos rfl, if_pos (by omega)]
    rfl
  · rw [Array.getElem?_setIfInBounds, if_pos rfl, if_pos (by rw [Array.size_setIfInBounds]; omega)]
    rfl
  · exact (HB2.out.setCell (p := ⟨w.heap.size, cs.length, none⟩) (by simp) _).setCell (p := ⟨w.heap.size, cs.length + 1, none⟩) (by simp) _

set_option maxRecDepth 100000 in
set_option maxHeartbeats 4000000 in
theorem intact_any (g : Nat) (sv : Value) (cs : List ByteArray) (w : World) (hQ : Roomy w g cs) (hR : Tss w.heap.size w sv cs) (hlen : cs.length ≤ 4611686018427380000) :
    Calls Try.prog 36 #[.slice (some ⟨g, 0, none⟩) cs.length (cs.length + 2), sv] w fun e w' => e = .returned (.bool true) ∧ w.grownBy w' none := by
  obtain ⟨a, cap, rfl⟩ := hR.slice
  have HS : Hid (∀ cap' W, Below w.heap.size w W → _) := fun cap' W h => sameT_any _ _ cs W ((hQ.below h).tss cap') (hR.moved h) (by omega)
  have HQ : Hid (Roomy w g cs) := hQ
  have q1 : (0 : Int) ≤ (cs.length : Int) := by omega
  have q2 : (cs.length : Int) ≤ (cs.length : Int) + 2 := by omega
  clear hQ hR
  go_enter Try.func36, Try.ntmps36
  go_wp2_with fail
  refine (HS.out _ _ (Below.refl _ _)).mono ?_
  rintro e w1 ⟨rfl, n1, h1⟩
  obtain ⟨A, p1, p2, p3, p4, p5⟩ := HQ.out.below (W' := w1) (by rw [h1]; exact ⟨rfl, rfl, rfl, Nat.le_refl _, fun _ _ => rfl⟩)
  have e1 := boxed_cell p1 p4
  have e2 := boxed_cell p1 p5
  have G1 : Hid (w.grownBy w1 none) := by
    show World.grownBy _ _ _
    rw [h1]
    exact ⟨rfl, rfl, rfl, Nat.le_refl _, fun _ _ _ => rfl⟩
  unfold beyondB at e1 e2
  clear h1 p1 p2 p3 p4 p5
  go_wp2
  go_ret
  exact ⟨rfl, G1.out⟩
end Go.Proofs.Ytdjmhagclcfnfaa
/- The walk of Joins. -/
namespace Go.Proofs.Ytdjmhagclcfnfaa
open Go.RowKit Go.Shelf

theorem Tss.txs {B : Nat} {W : World} {sv : Value} {cs : List ByteArray} (h : Tss B W sv cs) : Txs B W sv (cs.map (fun q => q.data.toList)) := by
  rcases h with ⟨rfl, h⟩ | ⟨b, off, cap, e, hb, hc⟩
  · exact .inl ⟨rfl, h⟩
  · refine .inr ⟨b, off, cap, by rw [List.length_map]; exact e, hb, fun j hj => ?_⟩
    rw [List.length_map] at hj
    rw [hc j hj, List.getElem_map]
/-- Both answer the same. -/
theorem told_join (ts : List (List UInt8)) : ∃ (q : ByteArray) (k : Int), ∀ w e w', ToldJ ts w e w' → e = .returned (.tuple #[.string q, .int .i64 k]) ∧ w.grownBy w' none := by
  cases hs : joinR ts with
  | inl k =>
    refine ⟨⟨#[]⟩, k, ?_⟩
    rintro w e w' ⟨hg, (⟨k', hk, rfl⟩ | ⟨f, t, b, z, rs, hk, rfl⟩)⟩
    · rw [hs] at hk; cases hk
      exact ⟨rfl, hg⟩
    · rw [hs] at hk; cases hk
  | inr x =>
    obtain ⟨f, t, b, z, rs⟩ := x
    refine ⟨⟨(serB f t b z rs).toArray⟩, 0, ?_⟩
    rintro w e w' ⟨hg, (⟨k', hk, rfl⟩ | ⟨f', t', b', z', rs', hk, rfl⟩)⟩
    · rw [hs] at hk; cases hk
    · rw [hs] at hk; cases hk
      exact ⟨rfl, hg⟩

set_option maxRecDepth 100000 in
set_option maxHeartbeats 2000000 in
theorem joins_walk (sv : Value) (cs : List ByteArray) (w : World) (hR : Tss w.heap.size w sv cs) (hnone : ∀ l c, sv = .slice none l c → cs = []) (hlen : cs.length * 16 ≤ 140737488355328) (hl : ∀ q ∈ cs, q.size ≤ 4611686018427387904) :
    Calls Try.prog 8 #[sv] w fun e w' => e = .returned (.bool true) ∧ w.grownBy w' none := by
  obtain ⟨q, k, hb⟩ := told_join (cs.map (fun q => q.data.toList))
  have hl2 : ∀ t ∈ cs.map (fun q => q.data.toList), t.length ≤ 4611686018427387904 := fun t ht => by
    obtain ⟨x, hx, rfl⟩ := List.mem_map.1 ht
    have := hl x hx
    simpa using this
  have hl3 : (cs.map (fun q => q.data.toList)).length ≤ 4611686018427387904 := by rw [List.length_map]; omega
  have HRJ : Hid (∀ sv W, Tss W.heap.size W sv cs → _) := fun sv W h => (rjoin sv _ W h.txs hl2 hl3).mono (hb W)
  have HPJ : Hid (∀ sv W, Tss W.heap.size W sv cs → _) := fun sv W h => (pjoin sv _ W h.txs hl2 hl3).mono (hb W)
  have HTX : Hid (∀ u : Unit, _) := fun _ => texts_any sv cs w hR hlen
  have HRS : Hid (∀ W, Below w.heap.size w W → Tss W.heap.size W sv cs) := fun W h => hR.moved h
  have hnil := fun (x : Option Addr) (l c : Nat) (W : World) => Lib.run_eql_slice_nil (P := Try.prog) W 52 9 x l c 0 0 Try.underlying52
  obtain ⟨a, cap, rfl⟩ := hR.slice
  have HNO : Hid (a = none → cs = []) := fun e => hnone _ _ (by rw [e])
  clear hb hl hl2 hl3 hR hnone
  go_enter Try.func8, Try.ntmps8
  go_wp2_with fail
  refine (HTX.out ()).mono ?_
  rintro e w1 ⟨rfl, hq, hb1⟩
  have HQ1 : Hid (Roomy w1 w.heap.size cs) := hq
  have HB1 : Hid (Below w.heap.size w w1) := hb1
  clear hq hb1 HTX
  cases a with
  | none =>
    obtain rfl : cs = [] := HNO.out rfl
    go_wp2_with fail
    refine (HPJ.out (.slice none 0 0) w1 (.inl ⟨rfl, none, 0, rfl⟩)).mono ?_
    rintro e w2 ⟨rfl, g2⟩
    have B2 : Hid (Below w.heap.size w w2) := HB1.out.trans ((below_of_grown g2).mono HB1.out.size)
    have Q2 : Hid (Roomy w2 w.heap.size []) := HQ1.out.below (below_of_grown g2)
    clear g2
    go_wp2_with fail
    refine (HRJ.out _ w2 (HRS.out _ B2.out)).mono ?_
    rintro e w3 ⟨rfl, g3⟩
    have B3 : Hid (Below w.heap.size w w3) := B2.out.trans ((below_of_grown g3).mono B2.out.size)
    have Q3 : Hid (Roomy w3 w.heap.size []) := Q2.out.below (below_of_grown g3)
    clear g3
    go_wp2_with fail
    refine (intact_any w.heap.size _ [] w3 Q3.out (HRS.out _ B3.out) (by simp)).mono ?_
    rintro e w4 ⟨rfl, g4⟩
    have G4 : Hid _ := g4
    clear g4
    go_wp2
    go_ret
    exact ⟨rfl, gtrans (gbelow B3.out) G4.out⟩
  | some ad =>
    go_wp2_with fail
    refine (HPJ.out _ w1 (HQ1.out.tss _)).mono ?_
    rintro e w2 ⟨rfl, g2⟩
    have B2 : Hid (Below w.heap.size w w2) := HB1.out.trans ((below_of_grown g2).mono HB1.out.size)
    have Q2 : Hid (Roomy w2 w.heap.size cs) := HQ1.out.below (below_of_grown g2)
    clear g2
    go_wp2_with fail
    refine (HRJ.out _ w2 (HRS.out _ B2.out)).mono ?_
    rintro e w3 ⟨rfl, g3⟩
    have B3 : Hid (Below w.heap.size w w3) := B2.out.trans ((below_of_grown g3).mono B2.out.size)
    have Q3 : Hid (Roomy w3 w.heap.size cs) := Q2.out.below (below_of_grown g3)
    clear g3
    go_wp2_with fail
    refine (intact_any w.heap.size _ cs w3 Q3.out (HRS.out _ B3.out) (by omega)).mono ?_
    rintro e w4 ⟨rfl, g4⟩
    have G4 : Hid _ := g4
    clear g4
    go_wp2
    go_ret
    exact ⟨rfl, gtrans (gbelow B3.out) G4.out⟩
end Go.Proofs.Ytdjmhagclcfnfaa
/- The statement on Joins. -/
namespace Go.Proofs.Ytdjmhagclcfnfaa
open Go.ChangeShapes Go.WideShapes Go.ChangeAt Go.RowKit

theorem Try.bytesStr : Try.prog.bytesOf 9 = 16 := by kernel_rfl
theorem Try.cellsStr : Try.prog.cellsOf 9 = 1 := by kernel_rfl

set_option maxRecDepth 100000 in
/-- A slice of texts, opened. -/
theorem open_txs {H : Type} {enc : TypeId × Value → H} {W : World} {base : Nat} {v : Value} {d : DataW H} {p : List MemPlace} (hv : Value.okWide Try.prog W .any base 52 v) (h : DataW.Trod enc Try.prog W 0 (fun _ => true) true 52 v d p) :
    ∃ cs : List ByteArray, Tss W.heap.size W v cs ∧ (∀ l c, v = .slice none l c → cs = []) ∧ (cs = [] ∨ ∃ sp, d = .slice (cs.map fun q => .lit (.string q.data.toList)) sp) := by
  obtain ⟨a0, len0, cap0, rfl⟩ := okWide_slice Try.underlying52 hv
  obtain ⟨fuel, hf⟩ := h
  rcases Deep.open_strs Try.underlying52 Try.underlying9 Try.cellsStr hf with ⟨e, _⟩ | ⟨a, len, cap, m, Sx, e, _, hl, hm, hmm, hx, hc⟩
  · simp [Value.cells] at e
    obtain ⟨rfl, rfl, rfl⟩ := e
    exact ⟨[], .inl ⟨rfl, none, 0, rfl⟩, fun _ _ _ => rfl, .inl rfl⟩
  · simp [Value.cells] at e
    obtain ⟨rfl, rfl, rfl⟩ := e
    simp only [if_true] at hmm
    subst hmm
    refine ⟨(List.range len0).map Sx, ?_, (fun l c e => by cases e), .inr ⟨(List.range (m - len0)).map (fun j => .lit (.string (Sx (len0 + j)).data.toList)), ?_⟩⟩
    · by_cases h0 : len0 = 0
      · subst h0
        exact .inl ⟨rfl, _, _, rfl⟩
      · obtain ⟨b, off, spot⟩ := a
        have c0 := (hc 0 (by omega)).1
        have hspot : spot = none := by
          have := World.cell?_spot c0
          simpa [Addr.add] using this
        subst hspot
        refine .inr ⟨b, off, m, by simp, World.block_lt_of_cell? W _ c0, fun j hj => ?_⟩
        have hj' : j < len0 := by simpa using hj
        have := (hc j (by omega)).1
        rw [Addr.add_lit] at this
        simpa using this
    · have := congrArg Prod.fst hx
      rw [List.map_map]
      exact this
theorem weightsAll_mem {H : Type} (P : Program) (e : TypeId) : ∀ (ds : List (DataW H)) (d : DataW H), d ∈ ds → ∀ n ∈ d.weights P e, n ∈ DataW.weightsAll P e ds
  | x :: ds, d, hd, n, hn => by
    rw [DataW.weightsAll, List.mem_append]
    rcases List.mem_cons.1 hd with rfl | hd
    · exact .inl hn
    · exact .inr (weightsAll_mem P e ds d hd n hn)

set_option maxRecDepth 100000 in
theorem joins_lifted (os : Os) (started : os.Started) (H : Type) (enc : TypeId × Value → H) :
    ReturnsInHanded {} Try.checked os 8 .any (Rows.joinsSpec.pre6 enc Try.prog Try.f8 Rows.joinsRow.domain false) (Rows.joinsSpec.post enc Try.prog Try.f8 false true false false) := by
  refine returnsInHanded_of_change_sized (C := Try.checked) Try.own started (by kernel_rfl) Try.func8
    (ChangeSpec.witness6 (enc := enc) (C := Try.checked) false ⟨#[], #[.slice none 0 0], []⟩ 8 (by kernel_rfl) (by kernel_rfl) (by kernel_rfl) (by kernel_rfl)) ?_
  intro W base args ds gs before hval0 hW _ hsz0 _
  have hsz : (DataW.weightsEach Try.prog (Try.f8.params.toList ++ Rows.joinsSpec.plain.varTypes Try.prog) (ds ++ gs)).all (· ≤ reachBytes) = true := hsz0
  clear hsz0
  have hval : ∀ (j : Nat) t v, Try.f8.params[j]? = some t → args[j]? = some v → Value.okWide Try.prog W .any base t v := hval0
  have hW' := hW
  obtain ⟨p, q, hA0, hV, rfl, _, _⟩ := hW
  have hA : DataW.TrodAll enc Try.prog W 0 (fun _ => true) true Try.f8.params.toList args.toList ds p := hA0
  rw [Try.params8] at hA hval hsz
  obtain ⟨v0, vs0, d0, ds0, p0, q0, hargs, rfl, rfl, h0, r0⟩ := trodAll_cons hA
  obtain ⟨rfl, rfl, rfl⟩ := trodAll_nil r0
  obtain rfl : args = #[v0] := by cases args; simp_all
  obtain ⟨rfl, rfl⟩ := trodVars_none hV
  obtain ⟨cs, hcs, hnone, hsh⟩ := open_txs (hval 0 52 v0 rfl rfl) h0
  clear hA0 hval0
  simp only [List.append_nil] at hW'
  have hlt : ∀ x ∈ p0, x.block < W.heap.size := fun x hx => by simpa using hW'.lt x (by simp [hx])
  have hb4 : ∀ n ∈ d0.weights Try.prog 52, n ≤ 140737488355328 := fun n hn => by
    have h4 := DataW.weights_mem_each (H := H) (P := Try.prog) (j := 0) (ts := [52] ++ Rows.joinsSpec.plain.varTypes Try.prog) (ds := [d0] ++ []) rfl rfl n hn
    have h5 := of_decide_eq_true (List.all_eq_true.1 hsz _ h4)
    simp only [reachBytes] at h5
    omega
  have hlen : cs.length * 16 ≤ 140737488355328 := by
    rcases hsh with rfl | ⟨sp, rfl⟩
    · simp
    · have := hb4 ((cs.length + sp.length) * Try.prog.bytesOf 9) (by simp [DataW.weights, Try.underlying52])
      rw [Try.bytesStr] at this
      omega
  have hel : ∀ q ∈ cs, q.size ≤ 4611686018427387904 := fun q hq => by
    rcases hsh with rfl | ⟨sp, rfl⟩
    · cases hq
    · have h6 : q.data.toList.length ∈ DataW.weightsAll Try.prog 9 (cs.map fun q => (DataW.lit (.string q.data.toList) : DataW H)) := weightsAll_mem _ _ _ (.lit (.string q.data.toList)) (List.mem_map.2 ⟨q, hq, rfl⟩) _ (by simp [DataW.weights])
      have := hb4 q.data.toList.length (by simp only [DataW.weights, Try.underlying52]; exact List.mem_cons_of_mem _ (List.mem_append_left _ h6))
      simp at this
      omega
  have hwalk := joins_walk v0 cs W hcs hnone hlen hel
  refine hwalk.mono fun e W' ⟨he, hg⟩ => ?_
  subst he
  have hb := below_of_grown hg
  refine ⟨_, rfl, _, _, _, [], p0 ++ [], [], hW', ?_, ?_, rfl, hb.frame _, fun h => by cases h⟩
  · exact trodAll_cons_mk (shut_bool Try.underlying4 _) trodAll_mk0
  · exact trodAll_cons_mk (Below.trod Try.laidOut (by kernel_rfl) (of_decide_eq_true (by kernel_rfl)) h0 hb hlt) trodAll_mk0

theorem joins_holds : Rows.JoinsSaid :=
  OpenClaim.holds_of_wide 8 Try.f8 rfl rfl rfl rfl rfl rfl rfl ⟨rfl, rfl, rfl, rfl, rfl⟩ rfl rfl rfl rfl rfl (by kernel_rfl) Try.func8 (by kernel_rfl)
    (of_decide_eq_true (by kernel_rfl)) (by unfold Func.isWrapper; first | (rw [if_pos (by decide +kernel)]; kernel_rfl) | (rw [if_neg (by decide +kernel)]; exact ⟨rfl, rfl⟩))
    (fun os started H enc _ => joins_lifted os started H enc)
end Go.Proofs.Ytdjmhagclcfnfaa
