/- RChunk, RJoinM, JoinM, KPick, KMade, KText, KInts, KData, KMade2, PSplit1, PChunkW, PPieces, PPieces2, RSplit, PTexts, PSplit, PChunkR, PChunkR2, PRow8 -/
import Derived.Test.YtkmeingnhaomaabRCanon
import Derived.Test.YtkmeingnhaomaabRWrite
import Derived.Laws.AppendOwnNone
import Derived.Test.YtkmeingnhaomaabPRead
import Derived.Test.YtkmeingnhaomaabLOwn
import Derived.Deep.RegionLaw
import Derived.Test.YtkmeingnhaomaabLWrites3
import Derived.ChangeSlices
import Derived.Test.YtkmeingnhaomaabPFace
import Derived.Test.YtkmeingnhaomaabPWrite2
import Derived.Test.YtkmeingnhaomaabSplitM
import Derived.Shelf.RegionOpen
import Derived.Test.YtkmeingnhaomaabTx
import Derived.Test.YtkmeingnhaomaabCutM
import Derived.Test.YtkmeingnhaomaabPParse
/- The reference's chunk. -/
namespace Go.Proofs.Ytkmeingnhaomaab
open Go.RowKit Go.Shelf

/-- What a chunk's text says. -/
structure Ck where
  f : Nat
  t : Nat
  b : Nat
  z : Nat
  all : Nat
  nu : Nat
  many : Nat
  rs : List Rc
def chunkR (l : List UInt8) : Int ⊕ Ck :=
  match openG [83, 84, 82, 67] 24 0 l with
  | .inl k => .inl k
  | .inr (f, t, b, z, all) =>
    if num ((l.drop 20).take 2) ≤ num ((l.drop 18).take 2) ∨ all < num ((l.drop 22).take 2) then .inl 4 else
    match walkR b z (num ((l.drop 22).take 2)) (-1) (l.drop 24) with
    | (_, .inl k) => .inl k
    | (rs, .inr q) => match endR l (l.length - q.length) with
      | some k => .inl k
      | none => .inr ⟨f, t, b, z, all, num ((l.drop 18).take 2), num ((l.drop 20).take 2), rs⟩
/-- The value of a chunk. -/
def ckV (c : Ck) (v : Value) : Value := .agg #[.int .i64 c.f, .int .i64 c.t, .int .i64 c.b, .int .i64 c.z, v, .int .i64 c.all, .int .i64 c.nu, .int .i64 c.many]
def ToldK (l : List UInt8) (w : World) (e : Ending) (w' : World) : Prop :=
  w.grownBy w' none ∧
    ((∃ k, chunkR l = .inl k ∧ e = .returned (.tuple #[ckV ⟨0, 0, 0, 0, 0, 0, 0, []⟩ (.slice none 0 0), .int .i64 k])) ∨
     (∃ c v, chunkR l = .inr c ∧ e = .returned (.tuple #[ckV c v, .int .i64 0]) ∧ OwnsR w.heap.size w' v c.rs))

theorem num2_lt (l : List UInt8) (p : Nat) : num ((l.drop p).take 2) < 65536 := by
  have h := num_lt ((l.drop p).take 2)
  have h2 : ((l.drop p).take 2).length ≤ 2 := by simp; omega
  have h3 : 256 ^ ((l.drop p).take 2).length ≤ 256 ^ 2 := Nat.pow_le_pow_right (by decide) h2
  omega

theorem box8z {W : World} {k : Nat} {t : TypeId} {cs : Array Value} (h : W.heap[k]? = some (.cells cs t (0, 0))) : ∀ i, W.frozen? ⟨k, i, none⟩ = false := fun _ => boxed_frozen h

theorem gfresh8 {w W : World} {k : Nat} (h : w.grownBy W none) (hk : w.heap.size ≤ k) (v0 v1 v2 v3 v4 v5 v6 v7 : Value) : w.grownBy ((((((((W.setCell ⟨k, 0, none⟩ v0).setCell ⟨k, 1, none⟩ v1).setCell ⟨k, 2, none⟩ v2).setCell ⟨k, 3, none⟩ v3).setCell ⟨k, 4, none⟩ v4).setCell ⟨k, 5, none⟩ v5).setCell ⟨k, 6, none⟩ v6).setCell ⟨k, 7, none⟩ v7) none :=
  gfresh (gfresh (gfresh (gfresh (gfresh (gfresh (gfresh (gfresh h hk) hk) hk) hk) hk) hk) hk) hk
theorem OwnsR.set8 {B : Nat} {W : World} {v : Value} {rs : List Rc} (h : OwnsR B W v rs) {k : Nat} (hk : k < B) (v0 v1 v2 v3 v4 v5 v6 v7 : Value) : OwnsR B ((((((((W.setCell ⟨k, 0, none⟩ v0).setCell ⟨k, 1, none⟩ v1).setCell ⟨k, 2, none⟩ v2).setCell ⟨k, 3, none⟩ v3).setCell ⟨k, 4, none⟩ v4).setCell ⟨k, 5, none⟩ v5).setCell ⟨k, 6, none⟩ v6).setCell ⟨k, 7, none⟩ v7) v rs :=
  (((((((h.set hk).set hk).set hk).set hk).set hk).set hk).set hk).set hk

end Go.Proofs.Ytkmeingnhaomaab
/- The reference's Join. -/
namespace Go.Proofs.Ytkmeingnhaomaab
open Go.RowKit Go.Shelf

/-- A list of texts that is handed in. -/
def Txs (B : Nat) (W : World) (sv : Value) (ts : List (List UInt8)) : Prop :=
  (ts = [] ∧ ∃ a cap, sv = .slice a 0 cap) ∨ ∃ b off cap, sv = .slice (some ⟨b, off, none⟩) ts.length cap ∧ b < B ∧ ∀ j (h : j < ts.length), W.cell? ⟨b, off + j, none⟩ = some (.string ⟨ts[j].toArray⟩)
theorem Txs.moved {W W' : World} {sv : Value} {ts : List (List UInt8)} (h : Txs W.heap.size W sv ts) (hb : Below W.heap.size W W') : Txs W'.heap.size W' sv ts := by
  rcases h with h | ⟨b, off, cap, e, hlt, hc⟩
  · exact .inl h
  · exact .inr ⟨b, off, cap, e, Nat.lt_of_lt_of_le hlt hb.size, fun j hj => (hb.cell (p := ⟨b, _, none⟩) hlt).trans (hc j hj)⟩
theorem Txs.slice {B : Nat} {W : World} {sv : Value} {ts : List (List UInt8)} (h : Txs B W sv ts) : ∃ a cap, sv = .slice a ts.length cap := by
  rcases h with ⟨rfl, a, cap, e⟩ | ⟨b, off, cap, e, _⟩
  · exact ⟨a, cap, e⟩
  · exact ⟨_, cap, e⟩
theorem Txs.at {B : Nat} {W : World} {a : Option Addr} {l cap : Nat} {ts : List (List UInt8)} (h : Txs B W (.slice a l cap) ts) {k : Nat} (hk : k < ts.length) :
    ∃ b off, a = some ⟨b, off, none⟩ ∧ b < B ∧ W.cell? ⟨b, off + k, none⟩ = some (.string ⟨ts[k].toArray⟩) := by
  rcases h with ⟨rfl, _⟩ | ⟨b, off, cap', e, hlt, hc⟩
  · simp at hk
  · simp only [Value.slice.injEq] at e
    exact ⟨b, off, e.1, hlt, hc k hk⟩

/-- The chunks of texts. -/
def chunksOf : List (List UInt8) → Int ⊕ List Ck
  | [] => .inr []
  | t :: ts => match chunkR t with
    | .inl k => .inl k
    | .inr c => match chunksOf ts with
      | .inl k => .inl k
      | .inr cs => .inr (c :: cs)
theorem chunksOf_ok : ∀ (xs : List (List UInt8)) (cs : List Ck) (t : List UInt8) (c : Ck), chunksOf xs = .inr cs → chunkR t = .inr c → chunksOf (xs ++ [t]) = .inr (cs ++ [c])
  | [], cs, t, c, h, hc => by
    simp only [chunksOf, Sum.inr.injEq] at h
    subst h
    simp [chunksOf, hc]
  | x :: xs, cs, t, c, h, hc => by
    rw [List.cons_append, chunksOf]
    rw [chunksOf] at h
    cases hx : chunkR x with
    | inl k => rw [hx] at h; cases h
    | inr c0 =>
      rw [hx] at h
      simp only [] at h
      cases h2 : chunksOf xs with
      | inl k => rw [h2] at h; cases h
      | inr cs0 =>
        rw [h2] at h
        simp only [Sum.inr.injEq] at h
        subst h
        simp only [chunksOf_ok xs cs0 t c h2 hc, List.cons_append]
theorem chunksOf_bad : ∀ (xs : List (List UInt8)) (cs : List Ck) (t : List UInt8) (ys : List (List UInt8)) (k : Int), chunksOf xs = .inr cs → chunkR t = .inl k → chunksOf (xs ++ t :: ys) = .inl k
  | [], cs, t, ys, k, h, hc => by simp [chunksOf, hc]
  | x :: xs, cs, t, ys, k, h, hc => by
    rw [List.cons_append, chunksOf]
    rw [chunksOf] at h
    cases hx : chunkR x with
    | inl k => rw [hx] at h; cases h
    | inr c0 =>
      rw [hx] at h
      simp only [] at h
      cases h2 : chunksOf xs with
      | inl k => rw [h2] at h; cases h
      | inr cs0 => simp only [chunksOf_bad xs cs0 t ys k h2 hc]
theorem chunksOf_length : ∀ (xs : List (List UInt8)) (cs : List Ck), chunksOf xs = .inr cs → cs.length = xs.length
  | [], cs, h => by
    simp only [chunksOf, Sum.inr.injEq] at h
    subst h
    rfl
  | x :: xs, cs, h => by
    rw [chunksOf] at h
    cases hx : chunkR x with
    | inl k => rw [hx] at h; cases h
    | inr c0 =>
      rw [hx] at h
      simp only [] at h
      cases h2 : chunksOf xs with
      | inl k => rw [h2] at h; cases h
      | inr cs0 =>
        rw [h2] at h
        simp only [Sum.inr.injEq] at h
        subst h
        simp [chunksOf_length xs cs0 h2]
theorem chunkR_err (l : List UInt8) (k : Int) (h : chunkR l = .inl k) : 2 ≤ k ∧ k ≤ 8 := by
  unfold chunkR at h
  split at h
  · rename_i k' ho
    simp only [Sum.inl.injEq] at h
    rw [← h]
    exact openG_err _ _ _ l k' ho
  · rename_i f t b z all ho
    split at h
    · simp only [Sum.inl.injEq] at h
      omega
    · split at h
      · rename_i k' hw
        simp only [Sum.inl.injEq] at h
        rw [← h]
        exact walk_err b z _ (-1) _ hw
      · split at h
        · rename_i k' he
          simp only [Sum.inl.injEq] at h
          rw [← h]
          exact endR_err l _ k' he
        · cases h

/-- What Join answers, purely. -/
def sameHead (a c : Ck) : Bool := decide (c.f = a.f ∧ c.t = a.t ∧ c.b = a.b ∧ c.z = a.z ∧ c.all = a.all ∧ c.many = a.many)
def gathered (cs : List Ck) (n : Nat) : List Rc := (cs.filter (fun c => c.nu == n)).flatMap Ck.rs
def gatherAll (cs : List Ck) (n : Nat) : List Rc := (List.range n).flatMap (gathered cs)
def joinOk (a : Ck) (cs : List Ck) : Bool :=
  decide (cs.length = a.many) && cs.all (sameHead a) && (List.range a.many).all (fun n => decide ((cs.filter (fun c => c.nu == n)).length = 1)) && (recsOk a.b a.z (-1) (gatherAll cs a.many) && decide ((gatherAll cs a.many).length = a.all))
theorem joinOk_iff (a : Ck) (cs : List Ck) : joinOk a cs = true ↔ cs.length = a.many ∧ (∀ c ∈ cs, sameHead a c = true) ∧ (∀ n, n < a.many → (cs.filter (fun c => c.nu == n)).length = 1) ∧ recsOk a.b a.z (-1) (gatherAll cs a.many) = true ∧ (gatherAll cs a.many).length = a.all := by
  simp only [joinOk, Bool.and_eq_true, decide_eq_true_eq, List.all_eq_true, List.mem_range, and_assoc]
def joinC : Int ⊕ List Ck → Int ⊕ (Nat × Nat × Nat × Nat × List Rc)
  | .inl k => .inl k
  | .inr [] => .inl 1
  | .inr (a :: cs) => if joinOk a (a :: cs) = true then .inr (a.f, a.t, a.b, a.z, gatherAll (a :: cs) a.many) else .inl 13
def joinR (ts : List (List UInt8)) : Int ⊕ (Nat × Nat × Nat × Nat × List Rc) := if ts.length < 1 ∨ 100 < ts.length then .inl 1 else joinC (chunksOf ts)
def ToldJ (ts : List (List UInt8)) (w : World) (e : Ending) (w' : World) : Prop :=
  w.grownBy w' none ∧
    ((∃ k, joinR ts = .inl k ∧ e = .returned (.tuple #[.string ⟨#[]⟩, .int .i64 k])) ∨
     (∃ f t b z rs, joinR ts = .inr (f, t, b, z, rs) ∧ e = .returned (.tuple #[.string ⟨(serB f t b z rs).toArray⟩, .int .i64 0])))

/-- Chunks in a row that a call owns. -/
def ckCells (p : Ck × Value) : List Value := [.int .i64 p.1.f, .int .i64 p.1.t, .int .i64 p.1.b, .int .i64 p.1.z, p.2, .int .i64 p.1.all, .int .i64 p.1.nu, .int .i64 p.1.many]
theorem ckCells_length (ps : List (Ck × Value)) : (ps.flatMap ckCells).length = ps.length * 8 := by
  induction ps with
  | nil => rfl
  | cons p ps ih => rw [List.flatMap_cons, List.length_append, ih, List.length_cons]; simp [ckCells]; omega
theorem ckCells_at : ∀ (ps : List (Ck × Value)) (k : Nat) (h : k < ps.length) (j : Nat) (_ : j < 8), (ps.flatMap ckCells)[k * 8 + j]? = (ckCells ps[k])[j]?
  | p :: ps, 0, _, j, hj => by
    rw [List.flatMap_cons, List.getElem?_append_left (by simp [ckCells]; omega)]
    simp
  | p :: ps, k + 1, h, j, hj => by
    rw [List.flatMap_cons, List.getElem?_append_right (by simp [ckCells]; omega)]
    rw [show (k + 1) * 8 + j - (ckCells p).length = k * 8 + j from by simp [ckCells]; omega]
    rw [ckCells_at ps k (by simpa using h) j hj]
    rfl
theorem OwnsR.beside {B : Nat} {W W' : World} {v : Value} {rs : List Rc} (h : OwnsR B W v rs) {o : Option Nat} (hg : W.grownBy W' o) (hne : ∀ k cs fr, W.heap[k]? = some (.cells cs 35 fr) → some k ≠ o) : OwnsR B W' v rs := by
  refine World.ownsRow.kept h hg ?_
  rcases h.2 with ⟨rfl, _⟩ | ⟨g, cap, cur, rfl, _, hg2, _⟩
  · exact .inl rfl
  · exact .inr (hne g cur (0, 0) hg2)
theorem recVals_append (xs ys : List Rc) : recVals (xs ++ ys) = recVals xs ++ recVals ys := by simp [recVals]
theorem recVals_one (rs : List Rc) : ∀ u ∈ recVals rs, u.oneCell' = true := by
  intro u hu
  simp only [recVals, List.mem_flatMap] at hu
  obtain ⟨r, _, hr⟩ := hu
  simp at hr
  rcases hr with rfl | rfl | rfl <;> rfl
theorem wpList_append_recs (w : World) {ops : Array Oper} {rest : List Oper} {o : Oper} {a : Act} {Q : Exit → Act → World → Prop} (hgd : o.guard = none) (s x : Operand)
    (ho : o.op = .call { callee := .builtin .append, args := #[s, x], argTypes := #[25, 25] })
    (B : Nat) (v : Value) (rs : List Rc) (B' : Nat) (xv : Value) (ys : List Rc) (hs : a.eval s = v) (hown : OwnsR B w v rs) (hx : a.eval x = xv) (hys : OwnsR B' w xv ys) (hl : rs.length + ys.length ≤ 200000) (hB : B ≤ w.heap.size)
    (h : ∀ v' w', OwnsR B w' v' (rs ++ ys) → w.grownBy w' v.ownBlock → wpList Try.prog ops Q rest (a.put o.dst v') w') : wpList Try.prog ops Q (o :: rest) a w := by
  obtain ⟨i0, hi, hz0, hz1, hz2⟩ := info_parts Try.infoRec
  have hys' : w.ownsRow B' 35 3 xv ys.length (recVals ys) := hys
  rcases hys'.2 with ⟨rfl, h0⟩ | ⟨g, cap, cur, rfl, _⟩
  · obtain rfl : ys = [] := List.eq_nil_of_length_eq_zero h0
    refine wpList_append_own_none hgd s x 25 ho B 35 i0 3 Try.underlying25 hi v rs.length (recVals rs) hs hown hx ?_
    exact h v w (by rw [List.append_nil]; exact hown) ⟨rfl, rfl, rfl, Nat.le_refl _, fun _ _ _ => rfl⟩
  · have hml : rs.length + ys.length ≤ maxLen := Nat.le_trans hl (by decide)
    refine wpList_append_own w hgd s x 25 ho B 35 i0 _ 3 32 Try.underlying25 hi hz0 hz1 hz2 rfl (by decide) _ _ _ hs hown ⟨g, 0, none⟩ ys.length cap (recVals ys) hx hys'.1 (fun j u hj => hys'.cells (g := g) rfl j u hj) (recVals_one ys) hml (by omega) hB ?_
    intro v' w' ho' hg' _
    refine h v' w' ?_ hg'
    unfold OwnsR
    rw [recVals_append, List.length_append]
    exact ho'
/-- What is known of a chunk that was read. -/
structure CkOk (c : Ck) : Prop where
  head : wellHead c.f c.t c.b c.z = true
  all : c.all ≤ 100
  many : c.many ≤ 65535
  nu : c.nu ≤ 65535
  len : c.rs.length ≤ 100
  recs : recsOk c.b c.z (-1) c.rs = true
theorem openG_ok (M : List UInt8) (least : Nat) (l : List UInt8) (f t b z m : Nat) (h : openG M least 0 l = .inr (f, t, b, z, m)) : wellHead f t b z = true ∧ m ≤ b := by
  unfold openG at h
  rw [if_pos (rfl : (0 : Nat) = 0)] at h
  split at h
  · cases h
  split at h
  · cases h
  split at h
  · rename_i hc
    simp only [Sum.inr.injEq] at h
    rw [h] at hc
    simpa using hc
  · cases h
theorem chunkR_ok (l : List UInt8) (c : Ck) (h : chunkR l = .inr c) : CkOk c := by
  unfold chunkR at h
  split at h
  · cases h
  · rename_i f t b z all ho
    obtain ⟨hw, hm⟩ := openG_ok _ _ l f t b z all ho
    obtain ⟨h1, h2, h3, h4, h5, h6, h7, h8, h9⟩ : (0 : Int) ≤ f ∧ (f : Int) ≤ 2147483647 ∧ (1 : Int) ≤ t ∧ (t : Int) ≤ 2147483647 ∧ (f : Int) ≠ t ∧ (1 : Int) ≤ b ∧ (b : Int) ≤ 100 ∧ (1 : Int) ≤ z ∧ (z : Int) ≤ 64 := of_decide_eq_true hw
    split at h
    · cases h
    · rename_i hc
      split at h
      · cases h
      · rename_i rs q hwk
        split at h
        · cases h
        · simp only [Sum.inr.injEq] at h
          subst h
          have n18 := num2_lt l 18
          have n20 := num2_lt l 20
          obtain ⟨_, e2⟩ := walk_bytes b z _ (-1) _ hwk
          have hln := recsOk_length b z rs e2 (by omega)
          exact ⟨hw, by show all ≤ 100; omega, by show num _ ≤ 65535; omega, by show num _ ≤ 65535; omega, by show rs.length ≤ 100; omega, e2⟩
theorem chunksOf_mem : ∀ (xs : List (List UInt8)) (cs : List Ck), chunksOf xs = .inr cs → ∀ c ∈ cs, CkOk c
  | [], cs, h, c, hc => by
    simp only [chunksOf, Sum.inr.injEq] at h
    subst h
    cases hc
  | x :: xs, cs, h, c, hc => by
    rw [chunksOf] at h
    cases hx : chunkR x with
    | inl k => rw [hx] at h; cases h
    | inr c0 =>
      rw [hx] at h
      simp only [] at h
      cases h2 : chunksOf xs with
      | inl k => rw [h2] at h; cases h
      | inr cs0 =>
        rw [h2] at h
        simp only [Sum.inr.injEq] at h
        subst h
        rcases List.mem_cons.1 hc with rfl | hc
        · exact chunkR_ok x _ hx
        · exact chunksOf_mem xs cs0 h2 c hc
theorem gathered_length (n : Nat) : ∀ (cs : List Ck), (∀ c ∈ cs, CkOk c) → (gathered cs n).length ≤ 100 * (cs.filter (fun c => c.nu == n)).length
  | [], _ => by simp [gathered]
  | c :: cs, h => by
    have ih := gathered_length n cs (fun c hc => h c (by simp [hc]))
    have hc := (h c (by simp)).len
    unfold gathered at *
    by_cases e : (c.nu == n) = true
    · rw [List.filter_cons_of_pos (by simpa using e), List.flatMap_cons, List.length_append, List.length_cons]
      omega
    · rw [List.filter_cons_of_neg (by simpa using e)]
      exact ih
theorem gatherAll_succ (cs : List Ck) (n : Nat) : gatherAll cs (n + 1) = gatherAll cs n ++ gathered cs n := by
  unfold gatherAll
  rw [List.range_succ, List.flatMap_append]
  simp
theorem gathered_take (cs : List Ck) (n j : Nat) (h : j < cs.length) : gathered (cs.take (j + 1)) n = gathered (cs.take j) n ++ (if cs[j].nu == n then cs[j].rs else []) ∧ ((cs.take (j + 1)).filter (fun c => c.nu == n)).length = ((cs.take j).filter (fun c => c.nu == n)).length + (if cs[j].nu == n then 1 else 0) := by
  rw [List.take_succ_eq_append_getElem h]
  unfold gathered
  rw [List.filter_append, List.flatMap_append, List.length_append]
  by_cases e : (cs[j].nu == n) = true
  · rw [List.filter_cons_of_pos (by simpa using e), if_pos e, if_pos e]
    simp
  · rw [List.filter_cons_of_neg (by simpa using e), if_neg e, if_neg e]
    simp

end Go.Proofs.Ytkmeingnhaomaab
/- Join, purely: the chunks sorted by their numbers. -/
namespace Go.Proofs.Ytkmeingnhaomaab
open Go.RowKit Go.Shelf

theorem chunkR_nu (l : List UInt8) (c : Ck) (h : chunkR l = .inr c) : c.nu < c.many := by
  unfold chunkR at h
  split at h
  · cases h
  · split at h
    · cases h
    · rename_i hn
      split at h
      · cases h
      · split at h
        · cases h
        · simp only [Sum.inr.injEq] at h
          rw [← h]
          show num ((l.drop 18).take 2) < num ((l.drop 20).take 2)
          omega
theorem chunksOf_nu : ∀ (xs : List (List UInt8)) (cs : List Ck), chunksOf xs = .inr cs → ∀ c ∈ cs, c.nu < c.many
  | [], cs, h, c, hc => by
    simp only [chunksOf, Sum.inr.injEq] at h
    subst h
    simp at hc
  | x :: xs, cs, h, c, hc => by
    rw [chunksOf] at h
    cases hx : chunkR x with
    | inl k => rw [hx] at h; cases h
    | inr c0 =>
      rw [hx] at h
      simp only [] at h
      cases h2 : chunksOf xs with
      | inl k => rw [h2] at h; cases h
      | inr cs0 =>
        rw [h2] at h
        simp only [Sum.inr.injEq] at h
        subst h
        rcases List.mem_cons.1 hc with rfl | hc
        · exact chunkR_nu x _ hx
        · exact chunksOf_nu xs cs0 h2 c hc

/-- In ascending order and each number once: each stands at its number. -/
theorem asc_ge : ∀ (ds : List Ck) (s : Nat), ds.Pairwise (fun a b => a.nu < b.nu) → (∀ c ∈ ds, s ≤ c.nu) → ∀ (k : Nat) (c : Ck), ds[k]? = some c → s + k ≤ c.nu
  | [], _, _, _, k, c, h => by simp at h
  | d :: ds, s, hp, hs, 0, c, h => by
    simp only [List.getElem?_cons_zero, Option.some.injEq] at h
    subst h
    exact hs d (by simp)
  | d :: ds, s, hp, hs, k + 1, c, h => by
    rw [List.getElem?_cons_succ] at h
    rw [List.pairwise_cons] at hp
    have := asc_ge ds (s + 1) hp.2 (fun c hc => by have := hp.1 c hc; have := hs d (by simp); omega) k c h
    omega
theorem asc_le (ds : List Ck) (N : Nat) (hp : ds.Pairwise (fun a b => a.nu < b.nu)) (hN : ∀ c ∈ ds, c.nu < N) : ∀ (k : Nat) (c : Ck), ds[k]? = some c → c.nu + (ds.length - k) ≤ N := by
  induction ds with
  | nil => intro k c h; simp at h
  | cons d ds ih =>
    rw [List.pairwise_cons] at hp
    intro k c h
    cases k with
    | zero =>
      simp only [List.getElem?_cons_zero, Option.some.injEq] at h
      subst h
      cases ds with
      | nil => have := hN d (by simp); simp; omega
      | cons e es =>
        have h1 := ih hp.2 (fun c hc => hN c (by simp at hc ⊢; exact .inr hc)) 0 e rfl
        have h2 := hp.1 e (by simp)
        simp only [List.length_cons] at h1 ⊢
        omega
    | succ k =>
      rw [List.getElem?_cons_succ] at h
      have h1 := ih hp.2 (fun c hc => hN c (List.mem_cons_of_mem _ hc)) k c h
      simp only [List.length_cons]
      omega
theorem asc_at (ds : List Ck) (hp : ds.Pairwise (fun a b => a.nu < b.nu)) (hN : ∀ c ∈ ds, c.nu < ds.length) (k : Nat) (c : Ck) (h : ds[k]? = some c) : c.nu = k := by
  have h1 := asc_ge ds 0 hp (fun _ _ => Nat.zero_le _) k c h
  have h2 := asc_le ds ds.length hp hN k c h
  have h3 := (List.getElem?_eq_some_iff.1 h).1
  omega
theorem once_ne : ∀ (ds : List Ck), (∀ c ∈ ds, (ds.filter (fun x => x.nu == c.nu)).length ≤ 1) → ds.Pairwise (fun a b => a.nu ≠ b.nu)
  | [], _ => List.Pairwise.nil
  | d :: ds, h => by
    rw [List.pairwise_cons]
    refine ⟨fun e he hne => ?_, once_ne ds fun c hc => ?_⟩
    · have h1 := h d (by simp)
      rw [List.filter_cons, if_pos (by simp), List.length_cons] at h1
      have : e ∈ ds.filter (fun x => x.nu == d.nu) := List.mem_filter.2 ⟨he, by simp [hne]⟩
      have := List.length_pos_of_mem this
      omega
    · have h1 := h c (by simp [hc])
      rw [List.filter_cons] at h1
      split at h1
      · rw [List.length_cons] at h1; omega
      · exact h1
/-- Each at its number: of each number just that one. -/
theorem filter_at (ds : List Ck) (h : ∀ (k : Nat) (c : Ck), ds[k]? = some c → c.nu = k) (n : Nat) (c : Ck) (hc : ds[n]? = some c) : ds.filter (fun x => x.nu == n) = [c] := by
  obtain ⟨hn, rfl⟩ := List.getElem?_eq_some_iff.1 hc
  have e : ds = ds.take n ++ (ds[n] :: ds.drop (n + 1)) := by rw [← List.drop_eq_getElem_cons hn, List.take_append_drop]
  have h1 : (ds.take n).filter (fun x => x.nu == n) = [] := by
    rw [List.filter_eq_nil_iff]
    intro a ha
    obtain ⟨i, hi, rfl⟩ := List.mem_iff_getElem.1 ha
    rw [List.length_take] at hi
    have := h i _ (List.getElem?_eq_getElem (by omega : i < ds.length))
    rw [List.getElem_take]
    simp
    omega
  have h2 : (ds.drop (n + 1)).filter (fun x => x.nu == n) = [] := by
    rw [List.filter_eq_nil_iff]
    intro a ha
    obtain ⟨i, hi, rfl⟩ := List.mem_iff_getElem.1 ha
    rw [List.length_drop] at hi
    have := h (n + 1 + i) _ (List.getElem?_eq_getElem (by omega : n + 1 + i < ds.length))
    rw [List.getElem_drop]
    simp
    omega
  have h3 := h n _ (List.getElem?_eq_getElem hn)
  conv => lhs; rw [e]
  rw [List.filter_append, h1, List.nil_append, List.filter_cons, if_pos (by simp [h3]), h2]

/-- The sorted chunks are just those of one stream. -/
def wholeC (ds : List Ck) : Prop := ∀ (k : Nat) (c : Ck), ds[k]? = some c → (∃ a, ds[0]? = some a ∧ (c.f = a.f ∧ c.t = a.t ∧ c.b = a.b ∧ c.z = a.z ∧ c.all = a.all)) ∧ c.many = ds.length ∧ c.nu = k

theorem whole_gather {cs ds : List Ck} (hp : ds.Perm cs) (h : wholeC ds) (n : Nat) (c : Ck) (hc : ds[n]? = some c) : cs.filter (fun x => x.nu == n) = [c] := by
  have h1 := filter_at ds (fun k c hk => (h k c hk).2.2) n c hc
  have h2 := hp.filter (fun x => x.nu == n)
  rw [h1] at h2
  exact (List.perm_singleton.1 h2.symm)
theorem gather_all {cs ds : List Ck} (hp : ds.Perm cs) (h : wholeC ds) : gatherAll cs ds.length = ds.flatMap Ck.rs := by
  unfold gatherAll
  rw [List.flatMap_def, List.flatMap_def]
  congr 1
  apply List.ext_getElem
  · simp
  · intro i h1 h2
    rw [List.length_map] at h2
    rw [List.getElem_map, List.getElem_map, List.getElem_range]
    unfold gathered
    rw [whole_gather hp h i _ (List.getElem?_eq_getElem h2)]
    simp
theorem whole_ok {cs ds : List Ck} (a : Ck) (ha : a ∈ cs) (hp : ds.Perm cs) (h : wholeC ds) (hm : ∀ c, ds[0]? = some c → recsOk c.b c.z (-1) (ds.flatMap Ck.rs) = true ∧ (ds.flatMap Ck.rs).length = c.all) : joinOk a cs = true := by
  obtain ⟨i, hi, hia⟩ := List.mem_iff_getElem.1 (hp.mem_iff.2 ha)
  obtain ⟨⟨a0, h0, e1, e2, e3, e4, e5⟩, e6, e7⟩ := h i a (by rw [List.getElem?_eq_getElem hi, hia])
  have hl := hp.length_eq
  rw [joinOk_iff, e6, gather_all hp h, e3, e4, e5]
  refine ⟨hl.symm, fun c hc => ?_, fun n hn => ?_, (hm a0 h0).1, (hm a0 h0).2⟩
  · obtain ⟨j, hj, hjc⟩ := List.mem_iff_getElem.1 (hp.mem_iff.2 hc)
    obtain ⟨⟨a1, h1, d1, d2, d3, d4, d5⟩, d6, d7⟩ := h j c (by rw [List.getElem?_eq_getElem hj, hjc])
    rw [h0] at h1
    cases h1
    unfold sameHead
    exact decide_eq_true ⟨by omega, by omega, by omega, by omega, by omega, by omega⟩
  · rw [whole_gather hp h n _ (List.getElem?_eq_getElem hn)]
    rfl
theorem ok_whole {cs ds : List Ck} (a : Ck) (ha : a ∈ cs) (hp : ds.Perm cs) (hs : ds.Pairwise (fun a b => a.nu ≤ b.nu)) (hnu : ∀ c ∈ cs, c.nu < c.many) (hok : joinOk a cs = true) : wholeC ds ∧ ∃ c, ds[0]? = some c ∧ recsOk c.b c.z (-1) (ds.flatMap Ck.rs) = true ∧ (ds.flatMap Ck.rs).length = c.all := by
  obtain ⟨h1, h2, h3, h4, h5⟩ := (joinOk_iff a cs).1 hok
  have hl := hp.length_eq
  have hsame : ∀ c ∈ ds, c.f = a.f ∧ c.t = a.t ∧ c.b = a.b ∧ c.z = a.z ∧ c.all = a.all ∧ c.many = a.many := fun c hc => of_decide_eq_true (h2 c (hp.mem_iff.1 hc))
  have hlt : ∀ c ∈ ds, c.nu < ds.length := fun c hc => by
    have := hnu c (hp.mem_iff.1 hc)
    have := (hsame c hc).2.2.2.2.2
    omega
  have hne : ds.Pairwise (fun a b => a.nu ≠ b.nu) := once_ne ds fun c hc => by
    have := h3 c.nu (by have := hlt c hc; omega)
    rw [(hp.filter (fun x => x.nu == c.nu)).length_eq]
    omega
  have hasc : ds.Pairwise (fun a b => a.nu < b.nu) := (hs.and hne).imp (fun ⟨h, h'⟩ => by omega)
  have hat := asc_at ds hasc hlt
  have hpos : 0 < ds.length := by rw [hl]; exact List.length_pos_of_mem ha
  have hw : wholeC ds := fun k c hk => by
    have hc : c ∈ ds := List.mem_of_getElem? hk
    obtain ⟨c1, c2, c3, c4, c5, c6⟩ := hsame c hc
    obtain ⟨d1, d2, d3, d4, d5, d6⟩ := hsame ds[0] (List.getElem_mem hpos)
    exact ⟨⟨ds[0], List.getElem?_eq_getElem hpos, by omega, by omega, by omega, by omega, by omega⟩, by omega, hat k c hk⟩
  obtain ⟨d1, d2, d3, d4, d5, d6⟩ := hsame ds[0] (List.getElem_mem hpos)
  refine ⟨hw, ds[0], List.getElem?_eq_getElem hpos, ?_, ?_⟩
  · rw [d3, d4, ← gather_all hp hw, hl, h1]
    exact h4
  · rw [d5, ← gather_all hp hw, hl, h1]
    exact h5
theorem join_good {cs ds : List Ck} (hp : ds.Perm cs) (h : wholeC ds) (d : Ck) (hd : ds[0]? = some d) (h1 : recsOk d.b d.z (-1) (ds.flatMap Ck.rs) = true) (h2 : (ds.flatMap Ck.rs).length = d.all) : joinC (.inr cs) = .inr (d.f, d.t, d.b, d.z, ds.flatMap Ck.rs) := by
  have hpos : 0 < ds.length := (List.getElem?_eq_some_iff.1 hd).1
  cases cs with
  | nil => have := hp.length_eq; rw [List.length_nil] at this; omega
  | cons a cs =>
    have hok : joinOk a (a :: cs) = true := whole_ok a (by simp) hp h (fun c hc => by rw [hd] at hc; cases hc; exact ⟨h1, h2⟩)
    obtain ⟨i, hi, hia⟩ := List.mem_iff_getElem.1 (hp.mem_iff.2 (by simp : a ∈ a :: cs))
    obtain ⟨⟨a0, h0, e1, e2, e3, e4, e5⟩, e6, e7⟩ := h i a (by rw [List.getElem?_eq_getElem hi, hia])
    rw [hd] at h0
    cases h0
    show (if joinOk a (a :: cs) = true then _ else _) = _
    rw [if_pos hok, e6, gather_all hp h, e1, e2, e3, e4]
theorem join_bad {cs ds : List Ck} (hp : ds.Perm cs) (hs : ds.Pairwise (fun a b => a.nu ≤ b.nu)) (hnu : ∀ c ∈ cs, c.nu < c.many) (h1 : 1 ≤ cs.length) (h : ¬ (wholeC ds ∧ ∃ c, ds[0]? = some c ∧ recsOk c.b c.z (-1) (ds.flatMap Ck.rs) = true ∧ (ds.flatMap Ck.rs).length = c.all)) : joinC (.inr cs) = .inl 13 := by
  cases cs with
  | nil => simp at h1
  | cons a cs =>
    show (if joinOk a (a :: cs) = true then _ else _) = _
    rw [if_neg (fun hok => h (ok_whole a (by simp) hp hs hnu hok))]
end Go.Proofs.Ytkmeingnhaomaab
/- strandkeep's pick, nth and shape. -/
namespace Go.Proofs.Ytkmeingnhaomaab
open Go.RowKit

/-- An int as there are. -/
def I64 (c : Int) : Prop := -9223372036854775808 ≤ c ∧ c ≤ 9223372036854775807
/-- Which of n things. -/
def pickN (c : Int) (n : Nat) : Nat := (if c < 0 then (-(c + 1)) else c).toNat % n

theorem pickN_lt (c : Int) (n : Nat) (hn : 0 < n) : pickN c n < n := Nat.mod_lt _ hn

set_option maxRecDepth 100000 in
theorem pick_any (c : Int) (n : Nat) (w : World) (hc : I64 c) (h0 : 0 < n) (hn : n ≤ 2147483647) :
    Calls Try.prog 9 #[.int .i64 c, .int .i64 n] w fun e w' => e = .returned (.int .i64 (pickN c n : Nat)) ∧ w' = w := by
  obtain ⟨hc1, hc2⟩ := hc
  go_enter Try.func9, Try.ntmps9
  by_cases hlt : c < 0
  · obtain ⟨m, rfl⟩ : ∃ m : Nat, c = -(m : Int) - 1 := ⟨(-(c + 1)).toNat, by omega⟩
    have e : (pickN (-(m : Int) - 1) n : Int) = (m : Int) % n := by
      unfold pickN
      rw [if_pos hlt, Int.natCast_emod]
      congr 1
      omega
    rw [e]
    go_wp2
    go_ret
    exact ⟨rfl, rfl⟩
  · obtain ⟨m, rfl⟩ := Int.eq_ofNat_of_zero_le (show 0 ≤ c by omega)
    have e : (pickN (m : Int) n : Int) = (m : Int) % n := by
      unfold pickN
      rw [if_neg hlt, Int.natCast_emod]
      rfl
    rw [e]
    go_wp2
    go_ret
    exact ⟨rfl, rfl⟩

/-- A list of ints that lies below B. -/
def Ints (B : Nat) (W : World) (v : Value) (xs : List Int) : Prop :=
  (xs = [] ∧ ∃ a cap, v = .slice a 0 cap) ∨ ∃ b o cap, v = .slice (some ⟨b, o, none⟩) xs.length cap ∧ b < B ∧ ∀ j (h : j < xs.length), W.cell? ⟨b, o + j, none⟩ = some (.int .i64 xs[j])
theorem Ints.below {B : Nat} {W W' : World} {v : Value} {xs : List Int} (h : Ints B W v xs) (hb : Below B W W') : Ints B W' v xs := by
  rcases h with h | ⟨b, o, cap, e, hlt, hc⟩
  · exact .inl h
  · exact .inr ⟨b, o, cap, e, hlt, fun j hj => (hb.cell (p := ⟨b, o + j, none⟩) hlt).trans (hc j hj)⟩
theorem Ints.slice {B : Nat} {W : World} {v : Value} {xs : List Int} (h : Ints B W v xs) : ∃ a cap, v = .slice a xs.length cap := by
  rcases h with ⟨rfl, a, cap, e⟩ | ⟨b, o, cap, e, _⟩
  · exact ⟨a, cap, e⟩
  · exact ⟨_, cap, e⟩

set_option maxRecDepth 100000 in
theorem nth_any (B : Nat) (v : Value) (xs : List Int) (i : Nat) (w : World) (h : Ints B w v xs) (_hi : i ≤ 1000) (hl : xs.length ≤ 9223372036854775807) :
    Calls Try.prog 11 #[v, .int .i64 i] w fun e w' => e = .returned (.int .i64 (xs.getD i 0)) ∧ w' = w := by
  obtain ⟨a, cap, rfl⟩ := h.slice
  go_enter Try.func11, Try.ntmps11
  by_cases hlt : i < xs.length
  · obtain ⟨b, o, rfl, hc⟩ : ∃ b o, a = some ⟨b, o, none⟩ ∧ w.cell? ⟨b, o + i, none⟩ = some (.int .i64 xs[i]) := by
      rcases h with ⟨rfl, _⟩ | ⟨b, o, cap', e, _, hc⟩
      · simp at hlt
      · simp only [Value.slice.injEq] at e
        exact ⟨b, o, e.1, hc i hlt⟩
    rw [List.getD_eq_getElem?_getD, List.getElem?_eq_getElem hlt, Option.getD_some]
    clear h
    go_wp2
    go_ret
    exact ⟨rfl, rfl⟩
  · rw [List.getD_eq_getElem?_getD, List.getElem?_eq_none (by omega), Option.getD_none]
    clear h
    go_wp2
    go_ret
    exact ⟨rfl, rfl⟩

theorem pick_at (c n : Int) (m : Nat) (w : World) (hc : I64 c) (e : n = m) (h0 : 0 < m) (hn : m ≤ 2147483647) :
    Calls Try.prog 9 #[.int .i64 c, .int .i64 n] w fun e w' => e = .returned (.int .i64 (pickN c m : Nat)) ∧ w' = w := by
  subst e
  exact pick_any c m w hc h0 hn

set_option maxRecDepth 100000 in
set_option maxHeartbeats 1000000 in
theorem shape_any (x y : Int) (w : World) (hx : I64 x) (hy : I64 y) :
    Calls Try.prog 5 #[.int .i64 x, .int .i64 y] w fun e w' => e = .returned (.tuple #[.int .i64 (pickN x 100 + 1 : Nat), .int .i64 (pickN y 64 + 1 : Nat)]) ∧ w' = w := by
  have H1 : Hid (∀ u : Unit, Calls Try.prog 9 #[.int .i64 x, .int .i64 100] w fun e w' => e = .returned (.int .i64 (pickN x 100 : Nat)) ∧ w' = w) := fun _ => pick_at x 100 100 w hx rfl (by omega) (by omega)
  have H2 : Hid (∀ u : Unit, Calls Try.prog 9 #[.int .i64 y, .int .i64 64] w fun e w' => e = .returned (.int .i64 (pickN y 64 : Nat)) ∧ w' = w) := fun _ => pick_at y 64 64 w hy rfl (by omega) (by omega)
  have h1 := pickN_lt x 100 (by omega)
  have h2 := pickN_lt y 64 (by omega)
  generalize pickN x 100 = n1 at *
  generalize pickN y 64 = n2 at *
  go_enter Try.func5, Try.ntmps5
  go_wp2_with fail
  go_at_call 9
  refine (H1.out ()).mono ?_
  rintro _ _ ⟨rfl, rfl⟩
  go_wp2_with fail
  go_at_call 9
  refine (H2.out ()).mono ?_
  rintro _ _ ⟨rfl, rfl⟩
  go_wp2
  refine bodyPost_ret (results_tmp2 rfl _ _ _) rfl ?_
  refine ⟨?_, rfl⟩
  simp
  omega

set_option maxRecDepth 100000 in
set_option maxHeartbeats 1000000 in
theorem data_any (c : Int) (z : Nat) (w : World) (hc : -4611686018427387904 ≤ c ∧ c ≤ 4611686018427387904) (hz : z ≤ 64) :
    Calls Try.prog 13 #[.int .i64 c, .int .i64 z] w fun e w' => ∃ bs : List UInt8, bs.length = z ∧ e = .returned (.string ⟨bs.toArray⟩) ∧ w.grownBy w' none := by
  obtain ⟨hc1, hc2⟩ := hc
  go_enter Try.func13, Try.ntmps13
  go_wp2
  go_loopw [5, 6] (fun b i wr => ∃ (k : Nat) (bs : List UInt8), k ≤ z ∧ i = .int .i64 k ∧ bs.length = k ∧ OwnsB w.heap.size wr b bs ∧ w.grownBy wr none) (fun _ i _ => z - (intOf i).toNat)
  case atStart => exact ⟨0, [], Nat.zero_le _, rfl, rfl, World.ownsRow_nil _ _ _ _, drew_grown w 0 _⟩
  case round =>
    obtain ⟨k, bs, hk, rfl, hbl, hown, hg⟩ := hrel
    by_cases hlt : k < z
    · have H1 : Hid (∀ W, _) := fun W => pick_at (c + k) 26 26 W ⟨by omega, by omega⟩ rfl (by omega) (by omega)
      have h1 := pickN_lt (c + k) 26 (by omega)
      have HR : Hid (∀ x : Int, x = ((97 + pickN (c + k) 26 : Nat) : Int) → ∀ v' w1, w1.ownsRow w.heap.size 5 1 v' (bs.length + 1) (byteVals bs ++ [.int .u8 x]) → OwnsB w.heap.size w1 v' (bs ++ [UInt8.ofNat (97 + pickN (c + k) 26)])) := by
        intro x hx v' w1 ho
        unfold OwnsB
        rw [byteVals_append, List.length_append]
        rw [hx] at ho
        have e : ((UInt8.ofNat (97 + pickN (c + k) 26)).toNat : Int) = ((97 + pickN (c + k) 26 : Nat) : Int) := by
          rw [UInt8.toNat_ofNat']
          omega
        unfold byteVals at *
        rw [List.map_cons, List.map_nil, e]
        exact ho
      have HO : Hid (wr.ownsRow w.heap.size 5 1 _ bs.length (byteVals bs)) := hown
      have HG : Hid _ := hg
      have hsz : w.heap.size ≤ wr.heap.size := hg.size
      clear hown hg
      generalize pickN (c + k) 26 = n1 at *
      obtain ⟨i0, hi, hz0, hz1, hz2⟩ := info_parts Try.infoU8
      go_wp2_with (first
        | (go_at_call 9; refine (H1.out _).mono ?_; rintro _ _ ⟨rfl, rfl⟩)
        | (at_builtin; refine wpList_append_own_at _ rfl _ _ 69 rfl w.heap.size 5 i0 (.int .u8 0) 1 1 Try.underlying69 hi hz0 hz1 hz2 rfl (by decide) _ _ _ rfl (HO.out.alloc _) ⟨_, 0, none⟩ 1 1 [_] rfl rfl (cell_one_new _ _ _) (by intro u hu; simp at hu; subst hu; rfl) (by unfold maxLen; omega) (by omega) (by simp; omega) ?_; intro v' w1 hown' hgrow _ hat))
      refine ⟨⟨k + 1, _, by omega, by go_num, by simp; omega, HR.out _ (by go_num) _ _ hown', ?_⟩, by simp [intOf]; omega⟩
      have g1 := Grew.of_alloc hgrow hat
      exact ⟨g1.by_.os.trans HG.out.os, g1.by_.tape.trans HG.out.tape, g1.by_.output.trans HG.out.output, Nat.le_trans HG.out.size g1.by_.size, fun j hj hne => (g1.by_.block j (Nat.lt_of_lt_of_le hj HG.out.size) (fun e => by have := OwnsB.base (l := bs) HO.out j e.symm; omega)).trans (HG.out.block j hj hne)⟩
    · have HC := conv_own hown
      obtain rfl : k = z := by omega
      go_wp2
      go_ret
      exact ⟨bs, hbl, rfl, hg⟩
end Go.Proofs.Ytkmeingnhaomaab
/- strandkeep's made and text. -/
namespace Go.Proofs.Ytkmeingnhaomaab
open Go.RowKit Go.Shelf

/-- 'append(l, r)' at a step of a region that draws its order. -/
theorem step_rec {w : World} {ops : Array Oper} {o : Oper} {a : Act} {K : Act → World → Prop} {Q : Exit → Act → World → Prop} {E : Prop} (hgd : o.guard = none) (sl x : Operand)
    (ho : o.op = .call { callee := .builtin .append, args := #[sl, x], argTypes := #[25, 25] })
    (B : Nat) (v : Value) (rs : List Rc) (r : Rc) (nb : Nat) (hs : a.eval sl = v) (hown : OwnsR B w v rs) (hx : a.eval x = .slice (some ⟨nb, 0, none⟩) 1 1)
    (hc : ∀ j u, [Value.bool r.free, .int .i64 r.block, .string r.data][j]? = some u → w.cell? (Addr.add ⟨nb, 0, none⟩ j) = some u) (hl : rs.length ≤ 2000) (hB : B ≤ w.heap.size)
    (h : ∀ v' w', OwnsR B w' v' (rs ++ [r]) → w.grownBy w' v.ownBlock → K (a.put o.dst v') w') :
    if Region.wanted o (yielded ops a.tmps) = true then Oper.wp Try.prog o a w K Q else E := by
  obtain ⟨i0, hi, hz0, hz1, hz2⟩ := info_parts Try.infoRec
  have hml : rs.length + 1 ≤ maxLen := Nat.le_trans (show rs.length + 1 ≤ 2001 by omega) (by decide)
  refine step_append_lies w hgd sl x 25 ho B 35 i0 _ 3 32 Try.underlying25 hi hz0 hz1 hz2 rfl (by decide) v rs.length (recVals rs) hs hown ⟨nb, 0, none⟩ 1 1 _ hx rfl hc (by simp [Value.oneCell']) (by decide) hml (by omega) hB w.heap.size rfl ?_
  intro g cap w1 ho1 hg _ _
  exact h _ w1 (ownsR_snoc ho1) hg

theorem made_step {w wr w3 : World} {v0 v1 v2 v3 sv v' : Value} {rs rs' : List Rc} {cs : Array Value}
    (h0 : wr.heap[w.heap.size]? = some (.cells cs 27 (0, 0))) (h1 : wr.heap[w.heap.size + 1]? = some (.cells #[v0, v1, v2, v3, sv] 27 (0, 0))) (ho : OwnsR (w.heap.size + 2) wr sv rs) (hw : w.grownBy wr none)
    (hg : wr.grownBy w3 sv.ownBlock) (ho' : OwnsR (w.heap.size + 2) w3 v' rs') :
    (w3.setCell ⟨w.heap.size + 1, 4, none⟩ v').heap[w.heap.size]? = some (.cells cs 27 (0, 0)) ∧ (w3.setCell ⟨w.heap.size + 1, 4, none⟩ v').heap[w.heap.size + 1]? = some (.cells #[v0, v1, v2, v3, v'] 27 (0, 0)) ∧ OwnsR (w.heap.size + 2) (w3.setCell ⟨w.heap.size + 1, 4, none⟩ v') v' rs' ∧ w.grownBy (w3.setCell ⟨w.heap.size + 1, 4, none⟩ v') none := by
  have hge := ho.own_ge
  have hn : ∀ k, k < w.heap.size + 2 → some k ≠ sv.ownBlock := fun k hk e => by have := hge k e.symm; omega
  have l0 := (Array.getElem?_eq_some_iff.1 h0).1
  have l1 := (Array.getElem?_eq_some_iff.1 h1).1
  have b0 := (hg.block w.heap.size l0 (hn _ (by omega))).trans h0
  have b1 := (hg.block (w.heap.size + 1) l1 (hn _ (by omega))).trans h1
  refine ⟨?_, ?_, ho'.set (by omega), ?_⟩
  · exact (Below.heap_setCell _ _ _ _ (by show w.heap.size ≠ w.heap.size + 1; omega)).trans b0
  · exact block_set (i := 4) b1 v'
  · have g3 : w.grownBy w3 none := ⟨hg.os.trans hw.os, hg.tape.trans hw.tape, hg.output.trans hw.output, Nat.le_trans hw.size hg.size, fun j hj hne => (hg.block j (Nat.lt_of_lt_of_le hj hw.size) (hn _ (by omega))).trans (hw.block j hj hne)⟩
    exact gfresh g3 (by omega)

theorem made_kept {W w2 w3 : World} {B k : Nat} {sv : Value} {rs : List Rc} {o : Obj} (h : W.heap[k]? = some o) (hk : k < B) (ho : OwnsR B W sv rs) (h2 : W.grownBy w2 none) (hg : w2.grownBy w3 sv.ownBlock) : w3.heap[k]? = some o := by
  have hl := (Array.getElem?_eq_some_iff.1 h).1
  refine (hg.block k (Nat.lt_of_lt_of_le hl h2.size) (fun e => ?_)).trans ((h2.block k hl (by simp)).trans h)
  have := ho.own_ge k e.symm
  omega
theorem gwiden {A B C : World} {r : Option Nat} (h : A.grownBy B none) (k : B.grownBy C r) : A.grownBy C r :=
  ⟨k.os.trans h.os, k.tape.trans h.tape, k.output.trans h.output, Nat.le_trans h.size k.size, fun j hj hne => (k.block j (Nat.lt_of_lt_of_le hj h.size) hne).trans (h.block j hj (by simp))⟩

theorem quo4 (c : Int) (h1 : -9223372036854775808 ≤ c) (h2 : c ≤ 9223372036854775807) : -4611686018427387904 ≤ IntKind.i64.wrap (c.tdiv 4) ∧ IntKind.i64.wrap (c.tdiv 4) ≤ 4611686018427387904 := by
  rw [IntKind.wrap_i64]
  have : -2305843009213693952 ≤ c.tdiv 4 ∧ c.tdiv 4 ≤ 2305843009213693952 := by
    rcases Int.le_total 0 c with h | h
    · rw [Int.tdiv_eq_ediv_of_nonneg h]
      omega
    · have e : c.tdiv 4 = -((-c) / 4) := by
        conv => lhs; rw [show c = -(-c) by omega]
        rw [Int.neg_tdiv, Int.tdiv_eq_ediv_of_nonneg (by omega)]
      rw [e]
      omega
  omega
theorem keepM {wr W W' : World} {k : Nat} {v : Value} {r : Option Nat} (HM : ∀ W', wr.grownBy W' r → W'.cell? ⟨k, 4, none⟩ = some v ∧ W'.frozen? ⟨k, 4, none⟩ = false) (hS : W.cell? ⟨k, 4, none⟩ = some v ∧ W.frozen? ⟨k, 4, none⟩ = false ∧ wr.grownBy W r) (hg : W.grownBy W' r) :
    W'.cell? ⟨k, 4, none⟩ = some v ∧ W'.frozen? ⟨k, 4, none⟩ = false ∧ wr.grownBy W' r :=
  have h := gtrans hS.2.2 hg
  ⟨(HM W' h).1, (HM W' h).2, h⟩

set_option maxRecDepth 100000 in
set_option maxHeartbeats 4000000 in
theorem made_any (f t : Int) (n z : Nat) (v : Value) (xs : List Int) (wh : Bool) (w : World) (hv : Ints w.heap.size w v xs) (hxs : ∀ x ∈ xs, I64 x) (hxl : xs.length ≤ 9223372036854775807) (hn : n ≤ 100) (hz : z ≤ 64) :
    Calls Try.prog 6 #[.int .i64 f, .int .i64 t, .int .i64 n, .int .i64 z, v, .bool wh] w fun e w' => ∃ sv rs, e = .returned (.agg #[.int .i64 f, .int .i64 t, .int .i64 n, .int .i64 z, sv]) ∧ recsOk n z (-1) rs = true ∧ (wh = true → ∀ r ∈ rs, r.free = false) ∧ OwnsR w.heap.size w' sv rs ∧ w.grownBy w' none := by
  obtain ⟨a, cap, rfl⟩ := hv.slice
  have HV : Hid (∀ W, w.grownBy W none → Ints w.heap.size W (.slice a xs.length cap) xs) := fun W hW => hv.below ⟨hW.os, hW.tape, hW.output, hW.size, fun k hk => hW.block k hk (by simp)⟩
  have HX : Hid (∀ k, I64 (xs.getD k 0)) := by
    intro k
    rw [List.getD_eq_getElem?_getD]
    by_cases hk : k < xs.length
    · rw [List.getElem?_eq_getElem hk, Option.getD_some]
      exact hxs _ (List.getElem_mem hk)
    · rw [List.getElem?_eq_none (by omega), Option.getD_none]
      exact ⟨by omega, by omega⟩
  clear hv hxs
  go_enter Try.func6, Try.ntmps6
  go_wp2
  go_loopw [14] (fun b wr => ∃ (k : Nat) (sv : Value) (rs : List Rc), k ≤ n ∧ b = .int .i64 k ∧ wr.heap[w.heap.size]? = some (.cells #[.int .i64 0, .int .i64 0, .int .i64 0, .int .i64 0, .slice none 0 0] 27 (0, 0)) ∧ wr.heap[w.heap.size + 1]? = some (.cells #[.int .i64 f, .int .i64 t, .int .i64 n, .int .i64 z, sv] 27 (0, 0)) ∧ OwnsR (w.heap.size + 2) wr sv rs ∧ recsOk n z (-1) rs = true ∧ lastOf (-1) rs < k ∧ (wh = true → ∀ r ∈ rs, r.free = false) ∧ w.grownBy wr none) (fun b _ => n - (intOf b).toNat)
  case atStart =>
    obtain ⟨h1, h2, hB⟩ := two_boxes w #[.int .i64 0, .int .i64 0, .int .i64 0, .int .i64 0, .slice none 0 0] #[.int .i64 f, .int .i64 t, .int .i64 n, .int .i64 z, .slice none 0 0] 27
    exact ⟨0, _, [], Nat.zero_le _, rfl, h1, h2, World.ownsRow_nil _ _ _ _, rfl, by simp [lastOf], (fun _ r hr => by cases hr), gbelow hB⟩
  case round =>
    obtain ⟨k, sv, rs, hk, rfl, h0, h1, ho, hok, hla, hfr, hg⟩ := hrel
    obtain ⟨sa, sl, sc, rfl⟩ := ho.slice
    by_cases hlt : k < n
    · have HI := HX.out k
      have HN : Hid (∀ u : Unit, _) := fun _ => nth_any w.heap.size _ xs k wr (HV.out _ hg) (by omega) hxl
      generalize xs.getD k 0 = c at *
      have HP : Hid (∀ u : Unit, _) := fun _ => pick_at c 4 4 wr HI rfl (by omega) (by omega)
      have hp := pickN_lt c 4 (by omega)
      generalize pickN c 4 = p at *
      have hrl := recsOk_length n z rs hok (by omega)
      obtain ⟨c0, c1, c2, c3, c4, f0, f1, f2, f3, f4⟩ := box5 h1
      have H0 : Hid _ := h0
      have H1 : Hid _ := h1
      have HO : Hid _ := ho
      have HG : Hid _ := hg
      have HK : Hid (∀ fr d, (d.size : Int) = (if fr then 0 else (z : Int)) → (wh = true → fr = false) → recsOk n z (-1) (rs ++ [⟨fr, (k : Int), d⟩]) = true ∧ lastOf (-1) (rs ++ [⟨fr, (k : Int), d⟩]) < ((k + 1 : Nat) : Int) ∧ (wh = true → ∀ r ∈ rs ++ [⟨fr, (k : Int), d⟩], r.free = false)) := by
        intro fr d hd hf
        refine ⟨?_, ?_, ?_⟩
        · rw [recsOk_append, hok, Bool.true_and, recsOk, Bool.and_eq_true]
          exact ⟨decide_eq_true ⟨hla, by simp only; omega, hd⟩, rfl⟩
        · rw [lastOf_snoc]
          simp only
          omega
        · intro hw r hr
          rcases List.mem_append.1 hr with h | h
          · exact hfr hw r h
          · rw [List.mem_singleton.1 h]
            exact hf hw
      clear h0 h1 ho hg
      go_wp2_with fail
      go_at_call 11
      refine (HN.out ()).mono ?_
      rintro _ w1 ⟨rfl, rfl⟩
      go_wp2_with fail
      go_at_call 9
      refine (HP.out ()).mono ?_
      rintro _ wr ⟨rfl, rfl⟩
      clear HP HN
      have hz2 : w.heap.size + 1 < wr.heap.size := (Array.getElem?_eq_some_iff.1 H1.out).1
      obtain rfl | rfl | h23 : p = 0 ∨ p = 1 ∨ (p = 2 ∨ p = 3) := by omega
      · go_wp2
        exact ⟨⟨k + 1, _, rs, by omega, by go_num, H0.out, H1.out, HO.out, hok, by omega, hfr, HG.out⟩, by simp [intOf]; omega⟩
      · cases wh
        · go_wp2_with (at_builtin; refine wpList_append_rec _ rfl _ _ rfl (w.heap.size + 2) _ rs rfl (OwnsR.alloc HO.out _) ⟨_, 0, none⟩ ⟨true, k, ⟨#[]⟩⟩ rfl (cells_new2 _ _ _ _ (by simp)) (by omega) (by simp; omega) ?_; intro v' w3 hO3 hg3 _ _; obtain ⟨a3, l3, c3', rfl⟩ := hO3.slice; have G3 : Hid _ := hg3; have O3 : Hid _ := hO3; obtain ⟨-, -, -, -, d4, -, -, -, -, z4⟩ := box5 (made_kept H1.out (by omega) HO.out (World.grownBy_alloc _ _ none) hg3); clear hg3 hO3)
          obtain ⟨p0, p1, p2, p3⟩ := made_step H0.out H1.out HO.out HG.out (gwiden (World.grownBy_alloc _ _ none) G3.out) O3.out
          obtain ⟨q0, q1, q2⟩ := HK.out true ⟨#[]⟩ rfl (fun h => by cases h)
          exact ⟨⟨k + 1, _, _, by omega, by go_num, p0, p1, p2, q0, q1, q2, p3⟩, by simp [intOf]; omega⟩
        · go_wp2
          exact ⟨⟨k + 1, _, rs, by omega, by go_num, H0.out, H1.out, HO.out, hok, by omega, hfr, HG.out⟩, by simp [intOf]; omega⟩
      · have HD : Hid (∀ c', -4611686018427387904 ≤ c' ∧ c' ≤ 4611686018427387904 → ∀ W, _) := fun c' hc' W => data_any c' z W hc' hz
        have HM : Hid (∀ W', wr.drew.grownBy W' (Value.slice sa sl sc).ownBlock → W'.cell? ⟨w.heap.size + 1, 4, none⟩ = some (.slice sa sl sc) ∧ W'.frozen? ⟨w.heap.size + 1, 4, none⟩ = false) := by
          intro W' hW'
          have hb := made_kept H1.out (by omega) HO.out (w2 := wr.drew) ⟨rfl, rfl, rfl, Nat.le_refl _, fun _ _ _ => rfl⟩ hW'
          obtain ⟨-, -, -, -, d4, -, -, -, -, z4⟩ := box5 hb
          exact ⟨d4, z4⟩
        have HB2 : Hid (∀ W' o, wr.drew.grownBy W' none → w.heap.size + 2 ≤ (World.alloc W' o).heap.size) := fun W' o hW' => by
          have h1 : wr.heap.size ≤ W'.heap.size := hW'.size
          simp
          omega
        have HO2 : Hid (∀ W' o, wr.drew.grownBy W' none → OwnsR (w.heap.size + 2) (World.alloc W' o) (.slice sa sl sc) rs) := fun W' o hW' => OwnsR.alloc (OwnsR.kept (W := wr.drew) HO.out hW') o
        have HC2 : Hid (∀ (W : World) (d : ByteArray) j u, [Value.bool false, .int .i64 k, .string d][j]? = some u → (W.alloc (.cells #[.bool false, .int .i64 k, .string d] 35)).cell? (Addr.add ⟨W.heap.size, 0, none⟩ j) = some u) := fun W d => cells_new2 W [.bool false, .int .i64 k, .string d] 35 _ rfl
        have hr2 : rs.length ≤ 2000 := by omega
        have HW : Hid (wr.grownBy wr.drew none) := ⟨rfl, rfl, rfl, Nat.le_refl _, fun _ _ _ => rfl⟩
        obtain ⟨hi1, hi2⟩ := HI
        have HQ : -4611686018427387904 ≤ IntKind.i64.wrap (c.tdiv 4) ∧ IntKind.i64.wrap (c.tdiv 4) ≤ 4611686018427387904 := quo4 c hi1 hi2
        rcases h23 with rfl | rfl
        all_goals
          go_wp2_with fail
          go_region_law (first | (refine step_rec ?_ (.tmp 46) (.tmp 53) ?_ (w.heap.size + 2) (.slice sa sl sc) rs ⟨false, k, ⟨bs.toArray⟩⟩ w2.heap.size ?_ ?_ ?_ ?_ ?_ ?_ ?_; rfl; rfl; rfl; exact HO2.out _ _ G2.out; rfl; exact HC2.out _ _; exact hr2; exact HB2.out _ _ G2.out; intro v' w3 hO3 hg3; obtain ⟨a3, l3, c3', rfl⟩ := hO3.slice; have O3 : Hid _ := hO3; have G3 : Hid _ := hg3; obtain ⟨e4, y4⟩ := HM.out _ (gwiden (gtrans G2.out (World.grownBy_alloc _ _ none)) hg3); clear hO3 hg3) | (go_simp; go_at_call 13; refine (HD.out _ HQ _).mono ?_; rintro e w2 ⟨bs, hbs, rfl, hg2⟩; have G2 : Hid _ := hg2; obtain ⟨d4, z4⟩ := HM.out _ (gnone hg2); have hl2 : w.heap.size + 1 < w2.heap.size := Nat.lt_of_lt_of_le hz2 hg2.size; clear hg2; dsimp only))
          all_goals
            go_wp2
            obtain ⟨p0, p1, p2, p3⟩ := made_step H0.out H1.out HO.out HG.out (gwiden HW.out (gwiden (gtrans G2.out (World.grownBy_alloc _ _ none)) G3.out)) O3.out
            obtain ⟨q0, q1, q2⟩ := HK.out false ⟨bs.toArray⟩ (by simp [ByteArray.size, hbs]) (fun _ => rfl)
            exact ⟨⟨k + 1, _, _, by omega, by go_num, p0, p1, p2, q0, q1, q2, p3⟩, by simp [intOf]; omega⟩
    · obtain rfl : k = n := by omega
      obtain ⟨c0, c1, c2, c3, c4, f0, f1, f2, f3, f4⟩ := box5 h1
      obtain ⟨d0, d1, d2, d3, d4, g0, g1, g2, g3, g4⟩ := box5 h0
      have hz1 : w.heap.size < wr.heap.size := (Array.getElem?_eq_some_iff.1 h0).1
      have HO : Hid _ := ho
      have HG : Hid _ := hg
      clear h0 h1 ho hg
      go_wp2
      refine bodyPost_ret (v := .agg #[.int .i64 f, .int .i64 t, .int .i64 k,   .int .i64 z, .slice sa sl sc]) (by simp [results, Try.results6, go_sem, d0, d1, d2, d3, d4]) rfl ?_
      exact ⟨_, rs, rfl, hok, hfr, OwnsR.base (OwnsR.set (OwnsR.set (OwnsR.set (OwnsR.set (OwnsR.set HO.out (by omega)) (by omega)) (by omega)) (by omega)) (by omega)) (by omega), gfresh (gfresh (gfresh (gfresh (gfresh HG.out (by omega)) (by omega)) (by omega)) (by omega)) (by omega)⟩
end Go.Proofs.Ytkmeingnhaomaab
/- strandkeep's text. -/
namespace Go.Proofs.Ytkmeingnhaomaab
open Go.RowKit Go.Shelf

theorem serB_length (f t b z : Nat) (rs : List Rc) : (serB f t b z rs).length = 22 + (recsB rs).length := by
  simp [serB, aheadB, headB_length, lowB_length]
  omega
theorem serB_small (f t b z : Nat) (rs : List Rc) (hb : b ≤ 100) (hz : z ≤ 64) (ho : recsOk b z (-1) rs = true) : 22 ≤ (serB f t b z rs).length ∧ (serB f t b z rs).length ≤ 10000 := by
  have h1 := recsB_length b z (by omega) rs (-1) ho
  have h2 := recsOk_length b z rs ho (by omega)
  rw [serB_length]
  omega

set_option maxRecDepth 100000 in
set_option maxHeartbeats 1000000 in
theorem text_good (f t b z : Nat) (sv : Value) (rs : List Rc) (w : World) (hR : Recs w.heap.size w sv rs) (hw : wellHead f t b z = true) (ho : recsOk b z (-1) rs = true) :
    Calls Try.prog 7 #[.agg #[.int .i64 f, .int .i64 t, .int .i64 b, .int .i64 z, sv]] w fun e w' => e = .returned (.string ⟨(serB f t b z rs).toArray⟩) ∧ w.grownBy w' none := by
  obtain ⟨a, c, rfl⟩ := hR.slice
  have HS : Hid (∀ W, Below w.heap.size w W → _) := fun W hb => pser_good f t b z (.slice a rs.length c) rs W (hR.moved hb) hw ho
  clear hR hw ho
  generalize serB f t b z rs = L at *
  go_enter Try.func7, Try.ntmps7
  go_wp2_with fail
  refine (HS.out _ ((Below.refl _ _).alloc (Nat.le_refl _) _)).mono ?_
  rintro e w3 ⟨rfl, hb3⟩
  have G3 : Hid _ := hb3
  clear hb3
  go_wp2
  go_ret
  exact ⟨rfl, gtrans (galloc _ _ _) (gbelow G3.out)⟩
end Go.Proofs.Ytkmeingnhaomaab
/- Lists of ints and ints, opened. -/
namespace Go.Proofs.Ytkmeingnhaomaab
open Go.ChangeShapes Go.WideShapes Go.ChangeAt Go.RowKit

theorem wf_i64 {n : Int} (h : (Lit.int .i64 n).wf = true) : I64 n := by
  simp only [Lit.wf, Bool.and_eq_true, decide_eq_true_eq] at h
  exact ⟨h.1, h.2⟩
theorem getD_at (zs : List Int) (j : Nat) (h : j < zs.length) : zs.getD j 0 = zs[j] := by
  rw [List.getD_eq_getElem?_getD, List.getElem?_eq_getElem h, Option.getD_some]
set_option maxRecDepth 100000 in
theorem open_nums {H : Type} {enc : TypeId × Value → H} {W : World} {base : Nat} {v : Value} {d : DataW H} {p : List MemPlace} (hv : Value.okWide Try.prog W .any base 22 v) (h : DataW.Trod enc Try.prog W 0 (fun _ => true) true 22 v d p) :
    ∃ xs : List Int, Ints W.heap.size W v xs ∧ (∀ x ∈ xs, I64 x) ∧ xs.length ≤ 9223372036854775807 := by
  obtain ⟨a, len, cap, rfl⟩ := okWide_slice Try.underlying22 hv
  obtain ⟨fuel, hf⟩ := h
  rcases open_ints Try.underlying22 Try.underlying3 Try.cellsInt hf with ⟨e, _⟩ | ⟨a', len', cap', zs, e, _, hl, hm, hzl, _, hc, hwf⟩
  · simp [Value.cells] at e
    obtain ⟨rfl, rfl, rfl⟩ := e
    exact ⟨[], .inl ⟨rfl, none, 0, rfl⟩, (fun x hx => by cases hx), by simp⟩
  · simp [Value.cells] at e
    obtain ⟨rfl, rfl, rfl⟩ := e
    simp only [if_true] at hzl
    have hl2 : (zs.take len).length = len := by rw [List.length_take]; omega
    have hm' : cap ≤ 9223372036854775807 := hm
    refine ⟨zs.take len, ?_, fun x hx => wf_i64 (hwf x (List.mem_of_mem_take hx)), by omega⟩
    by_cases h0 : len = 0
    · subst h0
      exact .inl ⟨by simp, some a', cap, rfl⟩
    · have c0 := hc 0 (by omega)
      obtain ⟨b, o, sp⟩ := a'
      obtain rfl : sp = none := by
        have := World.cell?_spot c0
        simpa [Addr.add] using this
      refine .inr ⟨b, o, cap, by rw [hl2], World.block_lt_of_cell? W _ c0, fun j hj => ?_⟩
      rw [hl2] at hj
      have := hc j (by omega)
      rw [Addr.add_lit, getD_at zs j (by omega)] at this
      rw [List.getElem_take]
      exact this
end Go.Proofs.Ytkmeingnhaomaab
/- strandkeep's data and made, as functions. -/
namespace Go.Proofs.Ytkmeingnhaomaab
open Go.RowKit Go.Shelf

/-- The bytes that data makes. -/
def dataR (c : Int) (k : Nat) : List UInt8 := (List.range k).map fun (i : Nat) => UInt8.ofNat (97 + pickN (c + i) 26)
theorem dataR_succ (c : Int) (k : Nat) : dataR c (k + 1) = dataR c k ++ [UInt8.ofNat (97 + pickN (c + k) 26)] := by
  unfold dataR
  rw [List.range_succ, List.map_append]
  rfl
theorem dataR_length (c : Int) (k : Nat) : (dataR c k).length = k := by simp [dataR]

set_option maxRecDepth 100000 in
set_option maxHeartbeats 1000000 in
theorem data_fn (c : Int) (z : Nat) (w : World) (hc : -4611686018427387904 ≤ c ∧ c ≤ 4611686018427387904) (hz : z ≤ 64) :
    Calls Try.prog 13 #[.int .i64 c, .int .i64 z] w fun e w' => e = .returned (.string ⟨(dataR c z).toArray⟩) ∧ w.grownBy w' none := by
  obtain ⟨hc1, hc2⟩ := hc
  go_enter Try.func13, Try.ntmps13
  go_wp2
  go_loopw [5, 6] (fun b i wr => ∃ (k : Nat) (bs : List UInt8), k ≤ z ∧ i = .int .i64 k ∧ bs = dataR c k ∧ OwnsB w.heap.size wr b bs ∧ w.grownBy wr none) (fun _ i _ => z - (intOf i).toNat)
  case atStart => exact ⟨0, [], Nat.zero_le _, rfl, rfl, World.ownsRow_nil _ _ _ _, drew_grown w 0 _⟩
  case round =>
    obtain ⟨k, bs, hk, rfl, hbl, hown, hg⟩ := hrel
    by_cases hlt : k < z
    · have HDR : Hid (bs ++ [UInt8.ofNat (97 + pickN (c + k) 26)] = dataR c (k + 1)) := by
        show _ = _
        rw [hbl, dataR_succ]
      have hbk : bs.length = k := by rw [hbl]; simp [dataR]
      clear hbl
      have H1 : Hid (∀ W, _) := fun W => pick_at (c + k) 26 26 W ⟨by omega, by omega⟩ rfl (by omega) (by omega)
      have h1 := pickN_lt (c + k) 26 (by omega)
      have HR : Hid (∀ x : Int, x = ((97 + pickN (c + k) 26 : Nat) : Int) → ∀ v' w1, w1.ownsRow w.heap.size 5 1 v' (bs.length + 1) (byteVals bs ++ [.int .u8 x]) → OwnsB w.heap.size w1 v' (bs ++ [UInt8.ofNat (97 + pickN (c + k) 26)])) := by
        intro x hx v' w1 ho
        unfold OwnsB
        rw [byteVals_append, List.length_append]
        rw [hx] at ho
        have e : ((UInt8.ofNat (97 + pickN (c + k) 26)).toNat : Int) = ((97 + pickN (c + k) 26 : Nat) : Int) := by
          rw [UInt8.toNat_ofNat']
          omega
        unfold byteVals at *
        rw [List.map_cons, List.map_nil, e]
        exact ho
      have HO : Hid (wr.ownsRow w.heap.size 5 1 _ bs.length (byteVals bs)) := hown
      have HG : Hid _ := hg
      have hsz : w.heap.size ≤ wr.heap.size := hg.size
      clear hown hg
      generalize pickN (c + k) 26 = n1 at *
      obtain ⟨i0, hi, hz0, hz1, hz2⟩ := info_parts Try.infoU8
      go_wp2_with (first
        | (go_at_call 9; refine (H1.out _).mono ?_; rintro _ _ ⟨rfl, rfl⟩)
        | (at_builtin; refine wpList_append_own_at _ rfl _ _ 69 rfl w.heap.size 5 i0 (.int .u8 0) 1 1 Try.underlying69 hi hz0 hz1 hz2 rfl (by decide) _ _ _ rfl (HO.out.alloc _) ⟨_, 0, none⟩ 1 1 [_] rfl rfl (cell_one_new _ _ _) (by intro u hu; simp at hu; subst hu; rfl) (by unfold maxLen; omega) (by omega) (by simp; omega) ?_; intro v' w1 hown' hgrow _ hat))
      refine ⟨⟨k + 1, _, by omega, by go_num, HDR.out, HR.out _ (by go_num) _ _ hown', ?_⟩, by simp [intOf]; omega⟩
      have g1 := Grew.of_alloc hgrow hat
      exact ⟨g1.by_.os.trans HG.out.os, g1.by_.tape.trans HG.out.tape, g1.by_.output.trans HG.out.output, Nat.le_trans HG.out.size g1.by_.size, fun j hj hne => (g1.by_.block j (Nat.lt_of_lt_of_le hj HG.out.size) (fun e => by have := OwnsB.base (l := bs) HO.out j e.symm; omega)).trans (HG.out.block j hj hne)⟩
    · have HC := conv_own hown
      obtain rfl : k = z := by omega
      go_wp2
      go_ret
      rw [← hbl]
      exact ⟨rfl, hg⟩
end Go.Proofs.Ytkmeingnhaomaab
/- strandkeep's made, as a function. -/
namespace Go.Proofs.Ytkmeingnhaomaab
open Go.RowKit Go.Shelf

/-- The record that made makes of a block, out of a raw number. -/
def recAt (z : Nat) (c : Int) (wh : Bool) (k : Nat) : List Rc :=
  if pickN c 4 = 0 then [] else if pickN c 4 = 1 then (if wh then [] else [⟨true, k, ⟨#[]⟩⟩]) else [⟨false, k, ⟨(dataR (IntKind.i64.wrap (c.tdiv 4)) z).toArray⟩⟩]
def madeR (z : Nat) (xs : List Int) (wh : Bool) (n : Nat) : List Rc := (List.range n).flatMap fun k => recAt z (xs.getD k 0) wh k
theorem madeR_succ (z : Nat) (xs : List Int) (wh : Bool) (k : Nat) : madeR z xs wh (k + 1) = madeR z xs wh k ++ recAt z (xs.getD k 0) wh k := by
  unfold madeR
  rw [List.range_succ, List.flatMap_append]
  simp
theorem madeR_ok (b z : Nat) (xs : List Int) (wh : Bool) : ∀ n, n ≤ b → recsOk b z (-1) (madeR z xs wh n) = true ∧ lastOf (-1) (madeR z xs wh n) < n ∧ (wh = true → ∀ r ∈ madeR z xs wh n, r.free = false)
  | 0, _ => ⟨rfl, by simp [madeR, lastOf], fun _ r hr => by cases hr⟩
  | n + 1, h => by
    obtain ⟨h1, h2, h3⟩ := madeR_ok b z xs wh n (by omega)
    rw [madeR_succ]
    have step : ∀ fr d, (d.size : Int) = (if fr then 0 else (z : Int)) → (wh = true → fr = false) → recsOk b z (-1) (madeR z xs wh n ++ [⟨fr, (n : Int), d⟩]) = true ∧ lastOf (-1) (madeR z xs wh n ++ [⟨fr, (n : Int), d⟩]) < ((n + 1 : Nat) : Int) ∧ (wh = true → ∀ r ∈ madeR z xs wh n ++ [⟨fr, (n : Int), d⟩], r.free = false) := by
      intro fr d hd hf
      refine ⟨?_, ?_, ?_⟩
      · rw [recsOk_append, h1, Bool.true_and, recsOk, Bool.and_eq_true]
        exact ⟨decide_eq_true ⟨h2, by simp only; omega, hd⟩, rfl⟩
      · rw [lastOf_snoc]
        simp only
        omega
      · intro hw r hr
        rcases List.mem_append.1 hr with h | h
        · exact h3 hw r h
        · rw [List.mem_singleton.1 h]
          exact hf hw
    unfold recAt
    split
    · rw [List.append_nil]
      exact ⟨h1, by omega, h3⟩
    · split
      · split
        · rw [List.append_nil]
          exact ⟨h1, by omega, h3⟩
        · rename_i hw
          exact step true ⟨#[]⟩ rfl (fun h => absurd h hw)
      · exact step false _ (by simp [ByteArray.size, dataR_length]) (fun _ => rfl)

set_option maxRecDepth 100000 in
set_option maxHeartbeats 4000000 in
theorem made_fn (f t : Int) (n z : Nat) (v : Value) (xs : List Int) (wh : Bool) (w : World) (hv : Ints w.heap.size w v xs) (hxs : ∀ x ∈ xs, I64 x) (hxl : xs.length ≤ 9223372036854775807) (hn : n ≤ 100) (hz : z ≤ 64) :
    Calls Try.prog 6 #[.int .i64 f, .int .i64 t, .int .i64 n, .int .i64 z, v, .bool wh] w fun e w' => ∃ sv, e = .returned (.agg #[.int .i64 f, .int .i64 t, .int .i64 n, .int .i64 z, sv]) ∧ OwnsR w.heap.size w' sv (madeR z xs wh n) ∧ w.grownBy w' none := by
  obtain ⟨a, cap, rfl⟩ := hv.slice
  have HV : Hid (∀ W, w.grownBy W none → Ints w.heap.size W (.slice a xs.length cap) xs) := fun W hW => hv.below ⟨hW.os, hW.tape, hW.output, hW.size, fun k hk => hW.block k hk (by simp)⟩
  have HX : Hid (∀ k, I64 (xs.getD k 0)) := by
    intro k
    rw [List.getD_eq_getElem?_getD]
    by_cases hk : k < xs.length
    · rw [List.getElem?_eq_getElem hk, Option.getD_some]
      exact hxs _ (List.getElem_mem hk)
    · rw [List.getElem?_eq_none (by omega), Option.getD_none]
      exact ⟨by omega, by omega⟩
  clear hv hxs
  go_enter Try.func6, Try.ntmps6
  go_wp2
  go_loopw [14] (fun b wr => ∃ (k : Nat) (sv : Value) (rs : List Rc), k ≤ n ∧ b = .int .i64 k ∧ wr.heap[w.heap.size]? = some (.cells #[.int .i64 0, .int .i64 0, .int .i64 0, .int .i64 0, .slice none 0 0] 27 (0, 0)) ∧ wr.heap[w.heap.size + 1]? = some (.cells #[.int .i64 f, .int .i64 t, .int .i64 n, .int .i64 z, sv] 27 (0, 0)) ∧ OwnsR (w.heap.size + 2) wr sv rs ∧ rs = madeR z xs wh k ∧ rs.length ≤ k ∧ w.grownBy wr none) (fun b _ => n - (intOf b).toNat)
  case atStart =>
    obtain ⟨h1, h2, hB⟩ := two_boxes w #[.int .i64 0, .int .i64 0, .int .i64 0, .int .i64 0, .slice none 0 0] #[.int .i64 f, .int .i64 t, .int .i64 n, .int .i64 z, .slice none 0 0] 27
    exact ⟨0, _, [], Nat.zero_le _, rfl, h1, h2, World.ownsRow_nil _ _ _ _, rfl, Nat.le_refl _, gbelow hB⟩
  case round =>
    obtain ⟨k, sv, rs, hk, rfl, h0, h1, ho, hrs, hrl, hg⟩ := hrel
    obtain ⟨sa, sl, sc, rfl⟩ := ho.slice
    by_cases hlt : k < n
    · have HI := HX.out k
      have HMS : Hid (madeR z xs wh (k + 1) = rs ++ recAt z (xs.getD k 0) wh k) := by
        show _ = _
        rw [hrs]
        exact madeR_succ z xs wh k
      unfold recAt at HMS
      clear hrs
      have HN : Hid (∀ u : Unit, _) := fun _ => nth_any w.heap.size _ xs k wr (HV.out _ hg) (by omega) hxl
      generalize xs.getD k 0 = c at *
      have HP : Hid (∀ u : Unit, _) := fun _ => pick_at c 4 4 wr HI rfl (by omega) (by omega)
      have hp := pickN_lt c 4 (by omega)
      generalize pickN c 4 = p at *
      obtain ⟨c0, c1, c2, c3, c4, f0, f1, f2, f3, f4⟩ := box5 h1
      have H0 : Hid _ := h0
      have H1 : Hid _ := h1
      have HO : Hid _ := ho
      have HG : Hid _ := hg
      clear h0 h1 ho hg
      go_wp2_with fail
      go_at_call 11
      refine (HN.out ()).mono ?_
      rintro _ w1 ⟨rfl, rfl⟩
      go_wp2_with fail
      go_at_call 9
      refine (HP.out ()).mono ?_
      rintro _ wr ⟨rfl, rfl⟩
      clear HP HN
      have hz2 : w.heap.size + 1 < wr.heap.size := (Array.getElem?_eq_some_iff.1 H1.out).1
      obtain rfl | rfl | h23 : p = 0 ∨ p = 1 ∨ (p = 2 ∨ p = 3) := by omega
      · have HM2 : Hid (madeR z xs wh (k + 1) = rs) := by
          show _ = _
          rw [HMS.out, if_pos rfl, List.append_nil]
        clear HMS
        go_wp2
        exact ⟨⟨k + 1, _, rs, by omega, by go_num, H0.out, H1.out, HO.out, HM2.out.symm, by omega, HG.out⟩, by simp [intOf]; omega⟩
      · cases wh
        · have HM2 : Hid (madeR z xs false (k + 1) = rs ++ [⟨true, k, ⟨#[]⟩⟩]) := by
            show _ = _
            rw [HMS.out, if_neg (by omega), if_pos rfl]
            rfl
          clear HMS
          go_wp2_with (at_builtin; refine wpList_append_rec _ rfl _ _ rfl (w.heap.size + 2) _ rs rfl (OwnsR.alloc HO.out _) ⟨_, 0, none⟩ ⟨true, k, ⟨#[]⟩⟩ rfl (cells_new2 _ _ _ _ (by simp)) (by omega) (by simp; omega) ?_; intro v' w3 hO3 hg3 _ _; obtain ⟨a3, l3, c3', rfl⟩ := hO3.slice; have G3 : Hid _ := hg3; have O3 : Hid _ := hO3; obtain ⟨-, -, -, -, d4, -, -, -, -, z4⟩ := box5 (made_kept H1.out (by omega) HO.out (World.grownBy_alloc _ _ none) hg3); clear hg3 hO3)
          obtain ⟨p0, p1, p2, p3⟩ := made_step H0.out H1.out HO.out HG.out (gwiden (World.grownBy_alloc _ _ none) G3.out) O3.out
          exact ⟨⟨k + 1, _, _, by omega, by go_num, p0, p1, p2, HM2.out.symm, by rw [List.length_append, List.length_singleton]; omega, p3⟩, by simp [intOf]; omega⟩
        · have HM2 : Hid (madeR z xs true (k + 1) = rs) := by
            show _ = _
            rw [HMS.out, if_neg (by omega), if_pos rfl]
            simp
          clear HMS
          go_wp2
          exact ⟨⟨k + 1, _, rs, by omega, by go_num, H0.out, H1.out, HO.out, HM2.out.symm, by omega, HG.out⟩, by simp [intOf]; omega⟩
      · have HD : Hid (∀ c', -4611686018427387904 ≤ c' ∧ c' ≤ 4611686018427387904 → ∀ W, _) := fun c' hc' W => data_fn c' z W hc' hz
        have HM : Hid (∀ W', wr.drew.grownBy W' (Value.slice sa sl sc).ownBlock → W'.cell? ⟨w.heap.size + 1, 4, none⟩ = some (.slice sa sl sc) ∧ W'.frozen? ⟨w.heap.size + 1, 4, none⟩ = false) := by
          intro W' hW'
          have hb := made_kept H1.out (by omega) HO.out (w2 := wr.drew) ⟨rfl, rfl, rfl, Nat.le_refl _, fun _ _ _ => rfl⟩ hW'
          obtain ⟨-, -, -, -, d4, -, -, -, -, z4⟩ := box5 hb
          exact ⟨d4, z4⟩
        have HB2 : Hid (∀ W' o, wr.drew.grownBy W' none → w.heap.size + 2 ≤ (World.alloc W' o).heap.size) := fun W' o hW' => by
          have h1 : wr.heap.size ≤ W'.heap.size := hW'.size
          simp
          omega
        have HO2 : Hid (∀ W' o, wr.drew.grownBy W' none → OwnsR (w.heap.size + 2) (World.alloc W' o) (.slice sa sl sc) rs) := fun W' o hW' => OwnsR.alloc (OwnsR.kept (W := wr.drew) HO.out hW') o
        have HC2 : Hid (∀ (W : World) (d : ByteArray) j u, [Value.bool false, .int .i64 k, .string d][j]? = some u → (W.alloc (.cells #[.bool false, .int .i64 k, .string d] 35)).cell? (Addr.add ⟨W.heap.size, 0, none⟩ j) = some u) := fun W d => cells_new2 W [.bool false, .int .i64 k, .string d] 35 _ rfl
        have hr2 : rs.length ≤ 2000 := by omega
        have HW : Hid (wr.grownBy wr.drew none) := ⟨rfl, rfl, rfl, Nat.le_refl _, fun _ _ _ => rfl⟩
        obtain ⟨hi1, hi2⟩ := HI
        have HQ : -4611686018427387904 ≤ IntKind.i64.wrap (c.tdiv 4) ∧ IntKind.i64.wrap (c.tdiv 4) ≤ 4611686018427387904 := quo4 c hi1 hi2
        have HM2 : Hid (madeR z xs wh (k + 1) = rs ++ [⟨false, k, ⟨(dataR (IntKind.i64.wrap (c.tdiv 4)) z).toArray⟩⟩]) := by
          show _ = _
          rw [HMS.out, if_neg (by omega), if_neg (by omega)]
        clear HMS
        rcases h23 with rfl | rfl
        all_goals
          go_wp2_with fail
          go_region_law (first | (refine step_rec ?_ (.tmp 46) (.tmp 53) ?_ (w.heap.size + 2) (.slice sa sl sc) rs ⟨false, k, ⟨(dataR (IntKind.i64.wrap (c.tdiv 4)) z).toArray⟩⟩ w2.heap.size ?_ ?_ ?_ ?_ ?_ ?_ ?_; rfl; rfl; rfl; exact HO2.out _ _ G2.out; rfl; exact HC2.out _ _; exact hr2; exact HB2.out _ _ G2.out; intro v' w3 hO3 hg3; obtain ⟨a3, l3, c3', rfl⟩ := hO3.slice; have O3 : Hid _ := hO3; have G3 : Hid _ := hg3; obtain ⟨e4, y4⟩ := HM.out _ (gwiden (gtrans G2.out (World.grownBy_alloc _ _ none)) hg3); clear hO3 hg3) | (go_simp; go_at_call 13; refine (HD.out _ HQ _).mono ?_; rintro e w2 ⟨rfl, hg2⟩; have G2 : Hid _ := hg2; obtain ⟨d4, z4⟩ := HM.out _ (gnone hg2); have hl2 : w.heap.size + 1 < w2.heap.size := Nat.lt_of_lt_of_le hz2 hg2.size; clear hg2; dsimp only))
          all_goals
            go_wp2
            obtain ⟨p0, p1, p2, p3⟩ := made_step H0.out H1.out HO.out HG.out (gwiden HW.out (gwiden (gtrans G2.out (World.grownBy_alloc _ _ none)) G3.out)) O3.out
            exact ⟨⟨k + 1, _, _, by omega, by go_num, p0, p1, p2, HM2.out.symm, by rw [List.length_append, List.length_singleton]; omega, p3⟩, by simp [intOf]; omega⟩
    · obtain rfl : k = n := by omega
      obtain ⟨c0, c1, c2, c3, c4, f0, f1, f2, f3, f4⟩ := box5 h1
      obtain ⟨d0, d1, d2, d3, d4, g0, g1, g2, g3, g4⟩ := box5 h0
      have hz1 : w.heap.size < wr.heap.size := (Array.getElem?_eq_some_iff.1 h0).1
      have HO : Hid _ := ho
      have HG : Hid _ := hg
      clear h0 h1 ho hg
      go_wp2
      refine bodyPost_ret (v := .agg #[.int .i64 f, .int .i64 t, .int .i64 k,   .int .i64 z, .slice sa sl sc]) (by simp [results, Try.results6, go_sem, d0, d1, d2, d3, d4]) rfl ?_
      rw [← hrs]
      exact ⟨_, rfl, OwnsR.base (OwnsR.set (OwnsR.set (OwnsR.set (OwnsR.set (OwnsR.set HO.out (by omega)) (by omega)) (by omega)) (by omega)) (by omega)) (by omega), gfresh (gfresh (gfresh (gfresh (gfresh HG.out (by omega)) (by omega)) (by omega)) (by omega)) (by omega)⟩
end Go.Proofs.Ytkmeingnhaomaab
/- The program's recordBytes and longest. -/
namespace Go.Proofs.Ytkmeingnhaomaab
open Go.RowKit Go.Shelf

attribute [local go_sem] Oper.semAt_some

theorem lenR_fit (z : Int) (r : Rc) (h : RecFit z r) : lenR r = 3 + r.data.size := by
  obtain ⟨_, _, h2⟩ := h
  unfold lenR recB
  cases hf : r.free with
  | true =>
    rw [hf] at h2
    simp at h2
    simp [lowB_length, h2]
  | false =>
    have hs : r.data.data.toList.length = r.data.size := rfl
    simp only [Bool.false_eq_true, if_false, List.length_cons, List.length_append, lowB_length, hs]
    omega

set_option maxRecDepth 100000 in
set_option maxHeartbeats 400000 in
theorem recordBytes_any (r : Rc) (w : World) (hs : r.data.size ≤ 1000) :
    Calls Try.prog 39 #[.agg #[.bool r.free, .int .i64 r.block, .string r.data]] w fun e w' => e = .returned (.int .i64 ((3 + r.data.size : Nat) : Int)) ∧ Below w.heap.size w w' := by
  go_enter Try.func39, Try.ntmps39
  go_wp2
  go_ret
  exact ⟨by simp, (Below.refl _ _).alloc (Nat.le_refl _) _⟩

theorem fit_size (z : Int) (hz : z ≤ 64) (r : Rc) (h : RecFit z r) : r.data.size ≤ 64 := by
  have := h.2.2
  split at this <;> omega

theorem mostR_fit (z : Int) (hz : z ≤ 64) (rs : List Rc) (h : ∀ r ∈ rs, RecFit z r) : mostR rs ≤ 67 := by
  have key : ∀ (xs : List Rc) (m : Nat), (∀ r ∈ xs, lenR r ≤ 67) → m ≤ 67 → xs.foldl (fun m r => max m (lenR r)) m ≤ 67 := by
    intro xs
    induction xs with
    | nil => exact fun m _ h => h
    | cons x xs ih =>
      intro m hx hm
      have := hx x (by simp)
      exact ih (max m (lenR x)) (fun r hr => hx r (by simp [hr])) (by omega)
  refine key rs 0 (fun r hr => ?_) (by omega)
  rw [lenR_fit z r (h r hr)]
  have := fit_size z hz r (h r hr)
  omega

set_option maxRecDepth 100000 in
set_option maxHeartbeats 2000000 in
theorem longest_any (z : Nat) (sv : Value) (rs : List Rc) (Bs : Nat) (w : World) (hR : Recs w.heap.size w sv rs) (hBs : w.cell? ⟨Bs, 0, none⟩ = some sv) (hBl : Bs < w.heap.size) (h9 : (z : Int) ≤ 64) (hn : rs.length ≤ 100) (ho : ∀ r ∈ rs, RecFit z r) :
    Calls Try.prog 19 #[.func (.func 40) #[] #[.pointer (some ⟨Bs, 0, none⟩)]] w fun e w' => e = .returned (.int .i64 (mostR rs : Nat)) ∧ Below w.heap.size w w' := by
  obtain ⟨a, c, rfl⟩ := hR.slice
  refine (callsIn_wide (n := 9)).1 ?_
  refine callsIn_of_wp_marks Try.func19 rfl trivial ?_ rfl
  simp only [Try.ntmps19, List.size_toArray, List.length_cons, List.length_nil, Nat.reduceAdd, Nat.reduceSub, Array.replicate_succ, Array.replicate_zero, List.push_toArray, List.append_toArray, List.nil_append, List.cons_append]
  gi_wp2_with fail
  have hB3 : Below w.heap.size w (w.alloc (.cells #[.int .i64 0] 3)) := (Below.refl _ _).alloc (Nat.le_refl _) _
  have hO3 : (w.alloc (.cells #[.int .i64 0] 3)).heap[w.heap.size]? = some (.cells #[.int .i64 0] 3 (0, 0)) := World.alloc_heap_new _ _
  have hs3 : (w.alloc (.cells #[.int .i64 0] 3)).heap.size = w.heap.size + 1 := by simp
  generalize w.alloc (.cells #[.int .i64 0] 3) = W3 at *
  have hKW : ∀ k, (rs ≠ [] ∧ ∃ off, a = some ⟨k, off, none⟩) → k < w.heap.size := fun k ⟨hne, off, e⟩ => hR.block_lt hne e
  refine range_law (n := 9) rfl (by decide) (gf := 40) (lb := #[.pointer (some ⟨Bs, 0, none⟩)]) rfl trivial (enters_of Try.func40 (by kernel_rfl) rfl)
    (values_seq 8 (by decide) Bs (.slice a rs.length c) rs (by omega) W3 (by omega) ((hB3.cell (p := ⟨Bs, 0, none⟩) hBl).trans hBs) (hR.moved hB3) (fun k => rs ≠ [] ∧ ∃ off, a = some ⟨k, off, none⟩) (fun k hk => by have := hKW k hk; omega) (fun hne b off l cap e => by simp only [Value.slice.injEq] at e; exact ⟨hne, off, e.1⟩))
    (Below.refl _ _) (fun k hk => by have := hKW k hk; omega) (fun b e => by cases e) (fun _ => rfl)
    (fun pre W => W.heap[w.heap.size]? = some (.cells #[.int .i64 (mostR pre : Nat)] 3 (0, 0)) ∧ Below w.heap.size w W)
    (fun _ _ _ => False)
    (OwnIt.and (ownIt_block _ _ (fun pre => .cells #[.int .i64 (mostR pre : Nat)] 3 (0, 0)) (fun _ => rfl)) (ownIt_below (Nat.le_refl _) (by omega)))
    (fun cd => OwnIt.pure _ _ _)
    ⟨hO3, hB3⟩
    (fun (x : Rc) (a' : Act) (W : World) => ∃ Bx : Nat, W.heap[Bx]? = some (.cells #[.bool x.free, .int .i64 x.block, .string x.data] 35 (0, 0)) ∧ a' = { tmps := #[.func (.func 40) #[] #[.pointer (some ⟨Bs, 0, none⟩)], undef, .int .i64 0, .pointer (some ⟨w.heap.size, 0, none⟩), .pointer (some ⟨Bx, 0, none⟩), .func (.func 40) #[] #[.pointer (some ⟨Bs, 0, none⟩)], .agg #[.bool x.free, .int .i64 x.block, .string x.data], undef, undef, undef, undef, undef], defers := [] })
    (fun x a' => ownIt_some _ fun Bx => OwnIt.and (ownIt_block _ _ (fun _ => _) (fun _ => rfl)) (OwnIt.pure _ _ _))
    ?assign ?body ?done ?stop ?panic
  case assign =>
    rintro l pre x W K ⟨h1, h5⟩ hK
    have lt := fun {k : Nat} {o : Obj} (e : W.heap[k]? = some o) => (Array.getElem?_eq_some_iff.1 e).1
    gi_wp2
    refine hK _ _ ((KeepsOthers.alloc _ _).from _) ?_ ⟨(Below.heap_alloc _ _ _ (lt h1)).trans h1, h5.alloc h5.size _⟩ ⟨W.heap.size, World.alloc_heap_new _ _, rfl⟩
    exact (KeptOn.refl _ _).alloc (fun k hk => by have := hKW k hk; have := h5.size; omega) _
  case body =>
    rintro l pre x a' W ⟨h1, h5⟩ ⟨Bx, hx, rfl⟩ hG
    have lt := fun {k : Nat} {o : Obj} (e : W.heap[k]? = some o) => (Array.getElem?_eq_some_iff.1 e).1
    have hfx := ho x (hG.subset (by simp))
    have hpf := mostR_fit z h9 pre (fun r hr => ho r (hG.subset (by simp [hr])))
    have hlx := lenR_fit z x hfx
    have hsx := fit_size z h9 x hfx
    have HM : Hid (mostR (pre ++ [x]) = max (mostR pre) (3 + x.data.size)) := by
      show _ = _
      rw [mostR_snoc, hlx]
    have r0 := boxed_cell (i := 0) hx rfl
    have r1 := boxed_cell (i := 1) hx rfl
    have r2 := boxed_cell (i := 2) hx rfl
    have o0 := boxed_cell (i := 0) h1 rfl
    generalize mostR pre = mp at *
    have hm : Try.prog.follows .mixedOrders = true := by kernel_rfl
    have HW1 : Hid (∀ W1, Below W.drew.heap.size W.drew W1 → W1.heap[w.heap.size]? = some (.cells #[.int .i64 (mp : Nat)] 3 (0, 0)) ∧ KeepsFrom W3.heap.size W W1 ∧ Below w.heap.size w W1 ∧ Below w.heap.size W W1) := fun W1 hb0 => by
      have hb : Below W.heap.size W W1 := (Below.refl _ _).drew.trans hb0
      exact ⟨(hb.block _ (lt h1)).trans h1, ⟨hb.size, fun k o _ hk _ => (hb.block k (lt hk)).trans hk⟩, h5.trans (hb.mono h5.size), hb.mono h5.size⟩
    have hlt := lt h1
    have zf := boxed_frozen (i := 0) h1
    clear h1 hx lt
    gi_wp2_with fail
    gi_region_with_o (refine ⟨trivial, (CallsIn.inRound l (callsIn_wide.2 (recordBytes_any x _ (by omega)))).mono ?_⟩; rintro e W1 ⟨rfl, hb1⟩; obtain ⟨g1, g2, g3, g4⟩ := HW1.out W1 hb1; have o1 := boxed_cell (i := 0) g1 rfl; have z1 := boxed_frozen (i := 0) g1)
    all_goals
      refine ⟨g2.trans ((KeepsOthers.setCell _ _ _).from _), KeptOn.of_below (g4.setCell (p := ⟨w.heap.size, 0, none⟩) (by simp) _) hKW, ?_, g3.setCell (p := ⟨w.heap.size, 0, none⟩) (by simp) _⟩
      rw [show ((mostR (pre ++ [x]) : Nat) : Int) = (if (mp : Int) < 3 + (x.data.size : Int) then 3 + (x.data.size : Int) else (mp : Int)) from by rw [HM.out]; split <;> omega]
      exact block_set (i := 0) g1 _
  case done =>
    rintro D ys W hD rfl ⟨h1, h5⟩ hK
    have o0 := boxed_cell (i := 0) h1 rfl
    gi_wp2
    refine ⟨by simp, .inl ⟨_, _, rfl, run_takeDeferred hK, ?_⟩⟩
    exact ⟨_, results_tmp rfl _ _ _, rfl, h5.trans (belowK_b (w := w) (Nat.le_refl _) _ D _ _ (by omega) hK rfl rfl)⟩
  case stop =>
    rintro D cd pre W _ _ h
    exact h.elim
  case panic =>
    rintro D ch xs W _ hp
    exact hp.elim
end Go.Proofs.Ytkmeingnhaomaab
/- The program's writeChunk. -/
namespace Go.Proofs.Ytkmeingnhaomaab
open Go.RowKit Go.Shelf

theorem chunkB_shut (f t b z all nu many : Nat) (rs : List Rc) : chunkB f t b z all nu many rs = shutB (((([83, 84, 82, 67] ++ headB f t b z all) ++ lowB nu 2) ++ lowB many 2 ++ lowB rs.length 2) ++ recsB rs) := rfl

set_option maxRecDepth 100000 in
set_option maxHeartbeats 4000000 in
theorem writeChunk_any (f t b z all nu many : Nat) (sv : Value) (rs : List Rc) (w : World) (hR : Recs w.heap.size w sv rs) (hf : f < 4294967296) (ht : t < 4294967296) (hb : b < 4294967296) (h9 : (z : Int) ≤ 64) (hall : all < 4294967296) (hnu : nu < 4294967296) (hmany : many < 4294967296) (hn : rs.length ≤ 100) (ho : ∀ r ∈ rs, RecFit z r) :
    Calls Try.prog 41 #[.agg #[.int .i64 f, .int .i64 t, .int .i64 b, .int .i64 z, .int .i64 all, .int .i64 nu, .int .i64 many, sv]] w fun e w' => e = .returned (.string ⟨(chunkB f t b z all nu many rs).toArray⟩) ∧ Below w.heap.size w w' := by
  obtain ⟨a, c, rfl⟩ := hR.slice
  have hzz : z < 4294967296 := by omega
  have HW1 : ∀ W : World, W = w.alloc (.cells #[.int .i64 f, .int .i64 t, .int .i64 b, .int .i64 z, .int .i64 all, .int .i64 nu, .int .i64 many, .slice a rs.length c] 65) → W.heap.size = w.heap.size + 1 ∧ Below w.heap.size w W ∧ W.heap[w.heap.size]? = some (.cells #[.int .i64 f, .int .i64 t, .int .i64 b, .int .i64 z, .int .i64 all, .int .i64 nu, .int .i64 many, .slice a rs.length c] 65 (0, 0)) := by
    rintro W rfl
    exact ⟨by simp, (Below.refl _ _).alloc (Nat.le_refl _) _, World.alloc_heap_new _ _⟩
  have e1 : (nu : Int) % 4294967296 = nu := by omega
  have e2 : (many : Int) % 4294967296 = many := by omega
  have e3 : (rs.length : Int) % 4294967296 = rs.length := by omega
  go_enter Try.func41, Try.ntmps41
  go_wp2_with fail
  obtain ⟨w1, hw1⟩ : ∃ w1, w1 = w.alloc (.cells #[.int .i64 f, .int .i64 t, .int .i64 b, .int .i64 z, .int .i64 all, .int .i64 nu, .int .i64 many, .slice a rs.length c] 65) := ⟨_, rfl⟩
  obtain ⟨hs1, hB1, hx1⟩ := HW1 w1 hw1
  rw [← hw1]
  clear hw1 HW1
  have hsl : w.heap.size < w1.heap.size := by omega
  have HX : Hid (∀ W, Below w1.heap.size w1 W → W.heap[w.heap.size]? = some (.cells #[.int .i64 f, .int .i64 t, .int .i64 b, .int .i64 z, .int .i64 all, .int .i64 nu, .int .i64 many, .slice a rs.length c] 65 (0, 0))) := fun W h => (h.block _ hsl).trans hx1
  have HR : Hid (∀ W, Below w1.heap.size w1 W → Recs w1.heap.size W (.slice a rs.length c) rs) := fun W h => by
    have h1 := hR.moved hB1
    rcases h1 with h1 | ⟨b, off, cap, e, hlt, hc⟩
    · exact .inl h1
    · exact .inr ⟨b, off, cap, e, hlt, fun j hj => ⟨(h.cell (p := ⟨b, _, none⟩) hlt).trans (hc j hj).1, (h.cell (p := ⟨b, _, none⟩) hlt).trans (hc j hj).2.1, (h.cell (p := ⟨b, _, none⟩) hlt).trans (hc j hj).2.2⟩⟩
  clear hR hx1
  refine (appHead_any w1.heap.size _ [] [83, 84, 82, 67] rfl f t b z all w1 hf ht hb hzz hall (Nat.zero_le _) (Nat.le_refl _) (World.ownsRow_nil _ _ _ _)).mono ?_
  rintro e w2 ⟨v2, rfl, ho2, hg2⟩
  rw [List.nil_append] at ho2
  have hb2 : Below w1.heap.size w1 w2 := hg2.below (fun g e => by simp [Value.ownBlock] at e) (Nat.le_refl _)
  have hl2 : ([83, 84, 82, 67] ++ headB f t b z all).length = 18 := by simp [headB_length]
  have HCH : Hid (chunkB f t b z all nu many rs = shutB (((([83, 84, 82, 67] ++ headB f t b z all) ++ lowB nu 2) ++ lowB many 2 ++ lowB rs.length 2) ++ recsB rs)) := rfl
  generalize [83, 84, 82, 67] ++ headB f t b z all = L2 at *
  have x2 := boxed_cell (i := 5) (HX.out _ hb2) rfl
  have hz2 : w.heap.size < w2.heap.size := Nat.lt_of_lt_of_le hsl hb2.size
  have HB2 : Hid _ := hb2
  have HO2 : Hid (OwnsB w1.heap.size w2 v2 L2) := ho2
  clear ho2 hg2 hb2
  go_wp2_with fail
  refine (num_int w1.heap.size v2 _ nu 2 w2 (by omega) (by omega) (by omega) (by omega) (by omega) HB2.out.size HO2.out).mono ?_
  rintro e w3 ⟨v3, rfl, ho3, hg3⟩
  have hb3 : Below w1.heap.size w1 w3 := HB2.out.trans (hg3.below HO2.out.base HB2.out.size)
  have hl3 : (L2 ++ lowB nu 2).length = 20 := by rw [List.length_append, lowB_length]; omega
  rw [show ((nu : Int)).toNat = nu from by omega, show ((2 : Int)).toNat = 2 from rfl] at ho3
  generalize L2 ++ lowB nu 2 = L3 at *
  have x3 := boxed_cell (i := 6) (HX.out _ hb3) rfl
  have hz3 : w.heap.size < w3.heap.size := Nat.lt_of_lt_of_le hsl hb3.size
  have HB3 : Hid _ := hb3
  have HO3 : Hid (OwnsB w1.heap.size w3 v3 L3) := ho3
  clear ho3 hg3 hb3 x2
  go_wp2_with fail
  refine (num_int w1.heap.size v3 _ many 2 w3 (by omega) (by omega) (by omega) (by omega) (by omega) HB3.out.size HO3.out).mono ?_
  rintro e w4 ⟨v4, rfl, ho4, hg4⟩
  have hb4 : Below w1.heap.size w1 w4 := HB3.out.trans (hg4.below HO3.out.base HB3.out.size)
  have hl4 : (L3 ++ lowB many 2).length = 22 := by rw [List.length_append, lowB_length]; omega
  rw [show ((many : Int)).toNat = many from by omega, show ((2 : Int)).toNat = 2 from rfl] at ho4
  generalize L3 ++ lowB many 2 = L4 at *
  have x4 := boxed_cell (i := 7) (HX.out _ hb4) rfl
  have hz4 : w.heap.size < w4.heap.size := Nat.lt_of_lt_of_le hsl hb4.size
  have HB4 : Hid _ := hb4
  have HO4 : Hid (OwnsB w1.heap.size w4 v4 L4) := ho4
  clear ho4 hg4 hb4 x3
  go_wp2_with fail
  refine (num_int w1.heap.size v4 _ rs.length 2 w4 (by omega) (by omega) (by omega) (by omega) (by omega) HB4.out.size HO4.out).mono ?_
  rintro e w5 ⟨v5, rfl, ho5, hg5⟩
  have hb5 : Below w1.heap.size w1 w5 := HB4.out.trans (hg5.below HO4.out.base HB4.out.size)
  have hl5 : (L4 ++ lowB rs.length 2).length = 24 := by rw [List.length_append, lowB_length]; omega
  rw [show ((rs.length : Int)).toNat = rs.length from by omega, show ((2 : Int)).toNat = 2 from rfl] at ho5
  generalize L4 ++ lowB rs.length 2 = L5 at *
  have x5 := boxed_cell (i := 7) (HX.out _ hb5) rfl
  have hz5 : w.heap.size < w5.heap.size := Nat.lt_of_lt_of_le hsl hb5.size
  have HB5 : Hid _ := hb5
  have HO5 : Hid (OwnsB w1.heap.size w5 v5 L5) := ho5
  clear ho5 hg5 hb5 x4
  go_wp2_with fail
  refine (values_any _ _ _ _).mono ?_
  rintro e w6 ⟨rfl, rfl⟩
  have hb6 : Below w1.heap.size w1 (w5.alloc (.cells #[.slice a rs.length c] 25)) := HB5.out.alloc HB5.out.size _
  have hv6 : (w5.alloc (.cells #[.slice a rs.length c] 25)).cell? ⟨w5.heap.size, 0, none⟩ = some (.slice a rs.length c) := by simp [go_sem]
  have HCL : Hid (∀ u : Unit, _) := fun _ => closed_any w1.heap.size z L5 v5 (.slice a rs.length c) rs w5.heap.size _ hb6.size (HR.out _ hb6) hv6 (by simp) (OwnsB.alloc HO5.out _) (by omega) (by omega) h9 hn ho
  have HB6 : Hid _ := hb6
  clear hb6 hv6
  go_wp2_with fail
  refine (HCL.out ()).mono ?_
  rintro e w7 ⟨rfl, hb7⟩
  have HB7 : Hid (Below w.heap.size w w7) := hB1.trans ((HB6.out.trans hb7).mono hB1.size)
  clear hb7
  go_wp2
  go_ret
  exact ⟨by rw [HCH.out]; rfl, HB7.out⟩
end Go.Proofs.Ytkmeingnhaomaab
/- The program's pieces. -/
namespace Go.Proofs.Ytkmeingnhaomaab
open Go.RowKit Go.Shelf

attribute [local go_sem] Oper.semAt_some

/-- A row of one's own abides an iterator without cells. -/
theorem row_it {B B' sz n : Nat} {e : TypeId} {W W' : World} {v : Value} {xs : List Value} {row : Option Nat} (ho : W.ownsRow B e sz v n xs) (hg : W.grownBy W' row) (hr : ItRow none B' W row) : W'.ownsRow B e sz v n xs := by
  refine World.ownsRow.kept ho hg ?_
  rcases ho.2 with ⟨rfl, _⟩ | ⟨g, cap, cur, rfl, _, hgb, _⟩
  · exact .inl rfl
  · refine .inr fun e => ?_
    rcases hr g (by simpa [Value.ownBlock] using e.symm) with e2 | ⟨_, o, ho', hc⟩
    · cases e2
    · rw [hgb] at ho'; cases ho'; cases hc
/-- A piece that is closed: its records, in a block below N. -/
def Pie (B N : Nat) (W : World) (q : Value × List Rc) : Prop := OwnsR B W q.1 q.2 ∧ ∀ g, q.1.ownBlock = some g → g < N
/-- Closed pieces stay where a block is written that is from N on or of another type. -/
theorem Pie.kept {B N N' : Nat} {W W' : World} {q : Value × List Rc} {row : Option Nat} (h : Pie B N W q) (hN : N ≤ N') (hg : W.grownBy W' row) (hr : ∀ r, row = some r → N ≤ r ∨ ∀ cs fr, W.heap[r]? ≠ some (.cells cs 35 fr)) : Pie B N' W' q := by
  refine ⟨World.ownsRow.kept h.1 hg ?_, fun g e => Nat.lt_of_lt_of_le (h.2 g e) hN⟩
  obtain ⟨v, rs⟩ := q
  rcases h.1.2 with ⟨e, _⟩ | ⟨g, cap, cur, e, _, hgb, _⟩
  · exact .inl (by rw [show v = _ from e]; rfl)
  · refine .inr fun e2 => ?_
    have hgl : v.ownBlock = some g := by rw [show v = _ from e]; rfl
    have hlt := h.2 g hgl
    rcases hr g (by rw [← hgl]; exact e2.symm) with h3 | h3
    · omega
    · exact h3 _ _ hgb

/-- The state between two records: the boxes, what they hold, the closed pieces. -/
structure PSt (S0 : Nat) (w : World) (limit : Int) (qs : List (Value × List Rc)) (vl vp : Value) (cur : List Rc) (by_ N : Nat) (W : World) : Prop where
  lim : W.heap[S0]? = some (.cells #[.int .i64 limit] 3 (0, 0))
  lis : W.heap[S0 + 1]? = some (.cells #[vl] 59 (0, 0))
  pie : W.heap[S0 + 2]? = some (.cells #[vp] 25 (0, 0))
  byt : W.heap[S0 + 3]? = some (.cells #[.int .i64 (by_ : Nat)] 3 (0, 0))
  row : Own1 25 (S0 + 4) W vl (qs.map Prod.fst)
  own : OwnsR N W vp cur
  lo : S0 + 4 ≤ N
  hi : N ≤ W.heap.size
  old : ∀ q ∈ qs, Pie S0 N W q
  bel : Below S0 w W

theorem OwnsR.row_ne {B : Nat} {W : World} {v : Value} {rs : List Rc} (h : OwnsR B W v rs) : ∀ r, v.ownBlock = some r → B ≤ r ∧ ∃ cs, W.heap[r]? = some (.cells cs 35 (0, 0)) := by
  intro r e
  rcases h.2 with ⟨rfl, _⟩ | ⟨g, cap, cur, rfl, hb, hgb, _⟩
  · simp [Value.ownBlock] at e
  · obtain rfl : g = r := by simpa [Value.ownBlock] using e
    exact ⟨hb, cur, hgb⟩
theorem Own1.row_ne {t : TypeId} {B : Nat} {W : World} {v : Value} {xs : List Value} (h : Own1 t B W v xs) : ∀ r, v.ownBlock = some r → B ≤ r ∧ ∃ cs, W.heap[r]? = some (.cells cs t (0, 0)) := by
  intro r e
  rcases h.2 with ⟨rfl, _⟩ | ⟨g, cap, cur, rfl, hb, hgb, _⟩
  · simp [Value.ownBlock] at e
  · obtain rfl : g = r := by simpa [Value.ownBlock] using e
    exact ⟨hb, cur, hgb⟩
/-- Two rows of different types: where the one is written the other stays. -/
theorem row_beside {B sz n : Nat} {e e' : TypeId} {W W' : World} {v : Value} {xs : List Value} {row : Option Nat} (ho : W.ownsRow B e sz v n xs) (hg : W.grownBy W' row) (hr : ∀ r, row = some r → ∃ cs, W.heap[r]? = some (.cells cs e' (0, 0))) (hne : e ≠ e') : W'.ownsRow B e sz v n xs := by
  refine World.ownsRow.kept ho hg ?_
  rcases ho.2 with ⟨rfl, _⟩ | ⟨g, cap, cur, rfl, _, hgb, _⟩
  · exact .inl rfl
  · refine .inr fun e2 => ?_
    obtain ⟨cs, h⟩ := hr g (by simpa [Value.ownBlock] using e2.symm)
    rw [hgb] at h
    simp only [Option.some.injEq, Obj.cells.injEq] at h
    exact hne h.2.1

variable {S0 : Nat} {w : World} {limit : Int} {qs : List (Value × List Rc)} {vl vp : Value} {cur : List Rc} {by_ N : Nat} {W : World}

/-- Only new blocks. -/
theorem PSt.more (h : PSt S0 w limit qs vl vp cur by_ N W) {W' : World} (hb : Below W.heap.size W W') : PSt S0 w limit qs vl vp cur by_ N W' := by
  have lt := fun {k : Nat} {o : Obj} (e : W.heap[k]? = some o) => (Array.getElem?_eq_some_iff.1 e).1
  have hg : W.grownBy W' none := gbelow hb
  exact ⟨(hb.block _ (lt h.lim)).trans h.lim, (hb.block _ (lt h.lis)).trans h.lis, (hb.block _ (lt h.pie)).trans h.pie, (hb.block _ (lt h.byt)).trans h.byt, h.row.kept hg, OwnsR.keptN h.own hg, h.lo, Nat.le_trans h.hi hb.size, fun q hq => (h.old q hq).kept (Nat.le_refl _) hg (fun r e => by cases e), h.bel.trans (hb.mono (by have := h.lo; have := h.hi; omega))⟩
/-- An iterator without cells. -/
theorem PSt.it (h : PSt S0 w limit qs vl vp cur by_ N W) {W' : World} {row : Option Nat} {B' : Nat} (hB : S0 ≤ B') (hS : S0 ≤ w.heap.size) (hg : W.grownBy W' row) (hr : ItRow none B' W row) : PSt S0 w limit qs vl vp cur by_ N W' := by
  have bl : ∀ {k : Nat} {cs : Array Value} {t : TypeId} {fr : Nat × Nat}, W.heap[k]? = some (.cells cs t fr) → W'.heap[k]? = some (.cells cs t fr) := fun {k cs t fr} e => (hg.block k (Array.getElem?_eq_some_iff.1 e).1 (fun e2 => by
    rcases hr k e2.symm with e3 | ⟨_, o, ho, hc⟩
    · cases e3
    · rw [e] at ho; cases ho; cases hc)).trans e
  refine ⟨bl h.lim, bl h.lis, bl h.pie, bl h.byt, row_it h.row hg hr, row_it h.own hg hr, h.lo, Nat.le_trans h.hi hg.size, fun q hq => ⟨row_it (h.old q hq).1 hg hr, (h.old q hq).2⟩, h.bel.grown hg (Nat.le_trans hS h.bel.size) (fun k e => ?_)⟩
  rcases hr k e with e2 | ⟨h2, _⟩
  · cases e2
  · omega
/-- The open piece is closed. -/
theorem PSt.shut (h : PSt S0 w limit qs vl vp cur by_ N W) {A W3 : World} {v' : Value} (hA : Below W.heap.size W A) (hown : W3.ownsRow (S0 + 4) 25 1 v' (qs.length + 1) (qs.map Prod.fst ++ [vp])) (hg : A.grownBy W3 vl.ownBlock) (hw : S0 ≤ w.heap.size) :
    PSt S0 w limit (qs ++ [(vp, cur)]) v' (.slice none 0 0) [] 28 W3.heap.size (((W3.setCell ⟨S0 + 1, 0, none⟩ v').setCell ⟨S0 + 2, 0, none⟩ (.slice none 0 0)).setCell ⟨S0 + 3, 0, none⟩ (.int .i64 28)) ∧ W3.heap[S0 + 1]? = some (.cells #[vl] 59 (0, 0)) ∧ (W3.setCell ⟨S0 + 1, 0, none⟩ v').heap[S0 + 2]? = some (.cells #[vp] 25 (0, 0)) ∧ ((W3.setCell ⟨S0 + 1, 0, none⟩ v').setCell ⟨S0 + 2, 0, none⟩ (.slice none 0 0)).heap[S0 + 3]? = some (.cells #[.int .i64 (by_ : Nat)] 3 (0, 0)) ∧ (∀ k cs, S0 + 4 ≤ k → W.heap[k]? = some (.cells cs 35 (0, 0)) → (((W3.setCell ⟨S0 + 1, 0, none⟩ v').setCell ⟨S0 + 2, 0, none⟩ (.slice none 0 0)).setCell ⟨S0 + 3, 0, none⟩ (.int .i64 28)).heap[k]? = some (.cells cs 35 (0, 0))) := by
  have h1 := h.more hA
  have hrow := h1.row.row_ne
  have bl : ∀ {k : Nat} {o : Obj}, k < S0 + 4 → A.heap[k]? = some o → W3.heap[k]? = some o := fun {k o} hk e => (hg.block k (Array.getElem?_eq_some_iff.1 e).1 (fun e2 => by have := (hrow k e2.symm).1; omega)).trans e
  have l3 := bl (by omega) h1.lis
  have p3 := bl (by omega) h1.pie
  have b3 := bl (by omega) h1.byt
  have m3 := bl (by omega) h1.lim
  have hO3 : OwnsR N W3 vp cur := row_beside h1.own hg (fun r e => (hrow r e).2) (by decide)
  have hs : A.heap.size ≤ W3.heap.size := hg.size
  have hlo := h1.lo
  have hhi := h1.hi
  have ne := fun (a b : Nat) (hne : a ≠ b) => hne
  have p4 : (W3.setCell ⟨S0 + 1, 0, none⟩ v').heap[S0 + 2]? = _ := (Below.heap_setCell _ _ _ _ (by show S0 + 2 ≠ S0 + 1; omega)).trans p3
  have b5 : ((W3.setCell ⟨S0 + 1, 0, none⟩ v').setCell ⟨S0 + 2, 0, none⟩ (.slice none 0 0)).heap[S0 + 3]? = _ := (Below.heap_setCell _ _ _ _ (by show S0 + 3 ≠ S0 + 2; omega)).trans ((Below.heap_setCell _ _ _ _ (by show S0 + 3 ≠ S0 + 1; omega)).trans b3)
  have far : ∀ {k : Nat} {o : Obj}, k ≠ S0 + 1 → k ≠ S0 + 2 → k ≠ S0 + 3 → W3.heap[k]? = some o → (((W3.setCell ⟨S0 + 1, 0, none⟩ v').setCell ⟨S0 + 2, 0, none⟩ (.slice none 0 0)).setCell ⟨S0 + 3, 0, none⟩ (.int .i64 28)).heap[k]? = some o := fun {k o} n1 n2 n3 e => (Below.heap_setCell _ _ _ _ n3).trans ((Below.heap_setCell _ _ _ _ n2).trans ((Below.heap_setCell _ _ _ _ n1).trans e))
  have hgs : ∀ (X : World) (k : Nat) (v : Value), X.grownBy (X.setCell ⟨k, 0, none⟩ v) (some k) := fun X k v => gset X k 0 v
  have hbel : Below S0 w W3 := h1.bel.grown hg (Nat.le_trans hw h1.bel.size) (fun k e => by have := (hrow k e).1; omega)
  have keepR : ∀ {B sz n : Nat} {t : TypeId} {v : Value} {xs : List Value}, (∀ g, v.ownBlock = some g → S0 + 4 ≤ g) → W3.ownsRow B t sz v n xs → (((W3.setCell ⟨S0 + 1, 0, none⟩ v').setCell ⟨S0 + 2, 0, none⟩ (.slice none 0 0)).setCell ⟨S0 + 3, 0, none⟩ (.int .i64 28)).ownsRow B t sz v n xs := fun {B sz n t v xs} hge ho => by
    have nb : ∀ k, k < S0 + 4 → v.ownBlock ≠ some k := fun k hk e => by have := hge k e; omega
    exact World.ownsRow.kept (World.ownsRow.kept (World.ownsRow.kept ho (hgs _ _ _) (.inr (nb _ (by omega)))) (hgs _ _ _) (.inr (nb _ (by omega)))) (hgs _ _ _) (.inr (nb _ (by omega)))
  have hge' : ∀ g, v'.ownBlock = some g → S0 + 4 ≤ g := by
    intro g e
    rcases hown.2 with ⟨rfl, _⟩ | ⟨g', cap, cu, rfl, hb, _⟩
    · simp [Value.ownBlock] at e
    · obtain rfl : g' = g := by simpa [Value.ownBlock] using e
      exact hb
  refine ⟨⟨far (by omega) (by omega) (by omega) m3, ?_, ?_, block_set (i := 0) b5 _, ?_, World.ownsRow_nil _ _ _ _, by omega, by simp, ?_, ?_⟩, l3, p4, b5, fun k cs hk e => ?_⟩
  · exact (Below.heap_setCell _ _ _ _ (by show S0 + 1 ≠ S0 + 3; omega)).trans ((Below.heap_setCell _ _ _ _ (by show S0 + 1 ≠ S0 + 2; omega)).trans (block_set (i := 0) l3 _))
  · exact (Below.heap_setCell _ _ _ _ (by show S0 + 2 ≠ S0 + 3; omega)).trans (block_set (i := 0) p4 _)
  · rw [List.map_append]
    refine keepR hge' (own1_snoc ?_)
    rw [List.length_map]
    exact hown
  · intro q hq
    rw [List.mem_append, List.mem_singleton] at hq
    have q3 : Pie S0 W3.heap.size W3 q := by
      rcases hq with hq | rfl
      · refine (h1.old q hq).kept (by omega) hg (fun r e => .inr fun cs fr e2 => ?_)
        obtain ⟨cs', h3⟩ := (hrow r e).2
        rw [h3] at e2
        simp only [Option.some.injEq, Obj.cells.injEq] at e2
        exact absurd e2.2.1 (by decide)
      · refine ⟨OwnsR.base hO3 (by omega), fun g e => ?_⟩
        obtain ⟨_, cs, hcs⟩ := hO3.row_ne g e
        exact (Array.getElem?_eq_some_iff.1 hcs).1
    refine ⟨?_, fun g e => by have := q3.2 g e; simpa using this⟩
    refine keepR ?_ q3.1
    intro g e
    rcases hq with hq | rfl
    · obtain ⟨hgb, cs, hcs⟩ := (h1.old q hq).1.row_ne g e
      have : ∀ k, k < S0 + 4 → S0 ≤ k → k ≠ g := by
        intro k hk hk2 e2
        subst e2
        have hc : ∀ {cs' : Array Value} {t : TypeId}, A.heap[k]? = some (.cells cs' t (0, 0)) → t = 35 := fun e3 => by
          rw [hcs] at e3
          simp only [Option.some.injEq, Obj.cells.injEq] at e3
          exact e3.2.1.symm
        rcases (show k = S0 ∨ k = S0 + 1 ∨ k = S0 + 2 ∨ k = S0 + 3 by omega) with rfl | rfl | rfl | rfl
        · exact absurd (hc h1.lim) (by decide)
        · exact absurd (hc h1.lis) (by decide)
        · exact absurd (hc h1.pie) (by decide)
        · exact absurd (hc h1.byt) (by decide)
      by_cases hlt : g < S0 + 4
      · exact absurd rfl (this g hlt hgb)
      · omega
    · have := (hO3.row_ne g e).1
      omega
  · exact ((hbel.setCell (p := ⟨S0 + 1, 0, none⟩) (by simp) _).setCell (p := ⟨S0 + 2, 0, none⟩) (by simp) _).setCell (p := ⟨S0 + 3, 0, none⟩) (by simp) _
  · have e1 : A.heap[k]? = _ := (hA.block k (Array.getElem?_eq_some_iff.1 e).1).trans e
    refine far (by omega) (by omega) (by omega) ((hg.block k (Array.getElem?_eq_some_iff.1 e1).1 (fun e2 => ?_)).trans e1)
    obtain ⟨cs', h3⟩ := (hrow k e2.symm).2
    rw [e1] at h3
    simp only [Option.some.injEq, Obj.cells.injEq] at h3
    exact absurd h3.2.1 (by decide)
/-- One more record in the open piece. -/
theorem PSt.put (h : PSt S0 w limit qs vl vp cur by_ N W) {A W3 : World} {v' : Value} {x : Rc} (m : Nat) (hA : Below W.heap.size W A) (hown : W3.ownsRow N 35 3 v' (cur.length + 1) (recVals cur ++ [.bool x.free, .int .i64 x.block, .string x.data])) (hg : A.grownBy W3 vp.ownBlock) (hw : S0 ≤ w.heap.size) :
    PSt S0 w limit qs vl v' (cur ++ [x]) m N ((W3.setCell ⟨S0 + 2, 0, none⟩ v').setCell ⟨S0 + 3, 0, none⟩ (.int .i64 (m : Nat))) ∧ W3.heap[S0 + 2]? = some (.cells #[vp] 25 (0, 0)) ∧ (W3.setCell ⟨S0 + 2, 0, none⟩ v').heap[S0 + 3]? = some (.cells #[.int .i64 (by_ : Nat)] 3 (0, 0)) := by
  have h1 := h.more hA
  have hrow := h1.own.row_ne
  have hlo := h1.lo
  have hhi := h1.hi
  have bl : ∀ {k : Nat} {o : Obj}, k < S0 + 4 → A.heap[k]? = some o → W3.heap[k]? = some o := fun {k o} hk e => (hg.block k (Array.getElem?_eq_some_iff.1 e).1 (fun e2 => by have := (hrow k e2.symm).1; omega)).trans e
  have l3 := bl (by omega) h1.lis
  have p3 := bl (by omega) h1.pie
  have b3 := bl (by omega) h1.byt
  have m3 := bl (by omega) h1.lim
  have hs : A.heap.size ≤ W3.heap.size := hg.size
  have b4 : (W3.setCell ⟨S0 + 2, 0, none⟩ v').heap[S0 + 3]? = _ := (Below.heap_setCell _ _ _ _ (by show S0 + 3 ≠ S0 + 2; omega)).trans b3
  have hbel : Below S0 w W3 := h1.bel.grown hg (Nat.le_trans hw h1.bel.size) (fun k e => by have := (hrow k e).1; omega)
  have far : ∀ {k : Nat} {o : Obj}, k ≠ S0 + 2 → k ≠ S0 + 3 → W3.heap[k]? = some o → ((W3.setCell ⟨S0 + 2, 0, none⟩ v').setCell ⟨S0 + 3, 0, none⟩ (.int .i64 (m : Nat))).heap[k]? = some o := fun {k o} n2 n3 e => (Below.heap_setCell _ _ _ _ n3).trans ((Below.heap_setCell _ _ _ _ n2).trans e)
  have hgs : ∀ (X : World) (k : Nat) (v : Value), X.grownBy (X.setCell ⟨k, 0, none⟩ v) (some k) := fun X k v => gset X k 0 v
  have keepR : ∀ {B sz n : Nat} {t : TypeId} {v : Value} {xs : List Value}, (∀ g, v.ownBlock = some g → g ≠ S0 + 2 ∧ g ≠ S0 + 3) → W3.ownsRow B t sz v n xs → ((W3.setCell ⟨S0 + 2, 0, none⟩ v').setCell ⟨S0 + 3, 0, none⟩ (.int .i64 (m : Nat))).ownsRow B t sz v n xs := fun {B sz n t v xs} hge ho =>
    World.ownsRow.kept (World.ownsRow.kept ho (hgs _ _ _) (.inr (fun e => (hge _ e).1 rfl))) (hgs _ _ _) (.inr (fun e => (hge _ e).2 rfl))
  refine ⟨⟨far (by omega) (by omega) m3, far (by omega) (by omega) l3, (Below.heap_setCell _ _ _ _ (by show S0 + 2 ≠ S0 + 3; omega)).trans (block_set (i := 0) p3 _), block_set (i := 0) b4 _, ?_, ?_, hlo, by simp; omega, ?_, ?_⟩, p3, b4⟩
  · refine keepR (fun g e => ?_) (row_beside h1.row hg (fun r e => (hrow r e).2) (by decide))
    have := (h1.row.row_ne g e).1
    exact ⟨by omega, by omega⟩
  · refine keepR (fun g e => ?_) (ownsR_snoc hown)
    rcases hown.2 with ⟨rfl, _⟩ | ⟨g', cap, cu, rfl, hb, _⟩
    · simp [Value.ownBlock] at e
    · obtain rfl : g' = g := by simpa [Value.ownBlock] using e
      exact ⟨by omega, by omega⟩
  · intro q hq
    have q3 := (h1.old q hq).kept (Nat.le_refl N) hg (fun r e => .inl (hrow r e).1)
    refine ⟨keepR (fun g e => ?_) q3.1, q3.2⟩
    obtain ⟨hgb, cs, hcs⟩ := q3.1.row_ne g e
    refine ⟨fun e2 => ?_, fun e2 => ?_⟩
    · rw [e2, p3] at hcs
      simp only [Option.some.injEq, Obj.cells.injEq] at hcs
      exact absurd hcs.2.1 (by decide)
    · rw [e2, b3] at hcs
      simp only [Option.some.injEq, Obj.cells.injEq] at hcs
      exact absurd hcs.2.1 (by decide)
  · exact (hbel.setCell (p := ⟨S0 + 2, 0, none⟩) (by simp) _).setCell (p := ⟨S0 + 3, 0, none⟩) (by simp) _

theorem OwnsR.alloc1 {B : Nat} {W : World} {v : Value} {rs : List Rc} (h : OwnsR B W v rs) (o : Obj) : OwnsR B (W.alloc o) v rs := World.ownsRow.alloc h o
theorem keeps_row {A W3 : World} {row : Option Nat} (hg : A.grownBy W3 row) (hr : ∀ r, row = some r → ∃ t cs, A.heap[r]? = some (.cells cs t (0, 0))) : KeepsOthers A W3 :=
  KeepsOthers.of_grownBy hg fun j o ej hj => by
    obtain ⟨t, cs, h⟩ := hr j ej
    rw [h] at hj
    cases hj
    rfl
theorem PSt.keptOn (h : PSt S0 w limit qs vl vp cur by_ N W) {qs' : List (Value × List Rc)} {vl' vp' : Value} {cur' : List Rc} {by' N' : Nat} {W' : World} (h' : PSt S0 w limit qs' vl' vp' cur' by' N' W') {K : Nat → Prop} (hK : ∀ k, K k → k < S0) : KeptOn K W W' :=
  fun k hk => (h'.bel.block k (hK k hk)).trans (h.bel.block k (hK k hk)).symm
end Go.Proofs.Ytkmeingnhaomaab
/- The program's pieces: the walk. -/
namespace Go.Proofs.Ytkmeingnhaomaab
open Go.RowKit Go.Shelf

attribute [local go_sem] Oper.semAt_some

set_option maxRecDepth 100000 in
set_option maxHeartbeats 4000000 in
theorem pieces_any (z : Nat) (limit : Int) (sv : Value) (rs : List Rc) (Bs : Nat) (w : World) (hR : Recs w.heap.size w sv rs) (hBs : w.cell? ⟨Bs, 0, none⟩ = some sv) (hBl : Bs < w.heap.size) (h9 : (z : Int) ≤ 64) (hn : rs.length ≤ 100) (ho : ∀ r ∈ rs, RecFit z r) (hlo : -9223372036854775808 ≤ limit) (hhi : limit ≤ 9223372036854775807) :
    Calls Try.prog 23 #[.func (.func 40) #[] #[.pointer (some ⟨Bs, 0, none⟩)], .int .i64 limit] w fun e w' => ∃ (v : Value) (qs : List (Value × List Rc)), e = .returned v ∧ Own1 25 w.heap.size w' v (qs.map Prod.fst) ∧ qs.map Prod.snd = (cutS limit rs).1 ++ [(cutS limit rs).2.1] ∧ (∀ q ∈ qs, Recs w'.heap.size w' q.1 q.2) ∧ Below w.heap.size w w' := by
  obtain ⟨a, c, rfl⟩ := hR.slice
  obtain ⟨i0, hi, hz0, hz1, hz2⟩ := info_parts Try.infoRec
  obtain ⟨j0, hj, jz0, jz1, jz2⟩ := info_parts Try.infoRecs
  refine (callsIn_wide (n := 9)).1 ?_
  refine callsIn_of_wp_marks Try.func23 rfl trivial ?_ rfl
  simp only [Try.ntmps23, List.size_toArray, List.length_cons, List.length_nil, Nat.reduceAdd, Nat.reduceSub, Array.replicate_succ, Array.replicate_zero, List.push_toArray, List.append_toArray, List.nil_append, List.cons_append]
  gi_wp2_with fail
  obtain ⟨W3, hW3⟩ : ∃ W3, W3 = (((w.alloc (.cells #[.int .i64 limit] 3)).alloc (.cells #[.slice none 0 0] 59)).alloc (.cells #[.slice none 0 0] 25)).alloc (.cells #[.int .i64 28] 3) := ⟨_, rfl⟩
  have hs3 : W3.heap.size = w.heap.size + 4 := by rw [hW3]; simp
  have hB3 : Below w.heap.size w W3 := by rw [hW3]; exact ((((Below.refl _ _).alloc (Nat.le_refl _) _).alloc (by simp) _).alloc (by simp; omega) _).alloc (by simp; omega) _
  have q0 : W3.heap[w.heap.size]? = some (.cells #[.int .i64 limit] 3 (0, 0)) := by
    rw [hW3]
    exact (Below.heap_alloc _ _ _ (by simp; omega)).trans ((Below.heap_alloc _ _ _ (by simp; omega)).trans ((Below.heap_alloc _ _ _ (by simp)).trans (World.alloc_heap_new _ _)))
  have q1 : W3.heap[w.heap.size + 1]? = some (.cells #[.slice none 0 0] 59 (0, 0)) := by
    rw [hW3]
    refine (Below.heap_alloc _ _ _ (by simp)).trans ((Below.heap_alloc _ _ _ (by simp)).trans ?_)
    have h := World.alloc_heap_new (w.alloc (.cells #[.int .i64 limit] 3)) (.cells #[.slice none 0 0] 59)
    rwa [World.size_alloc] at h
  have q2 : W3.heap[w.heap.size + 2]? = some (.cells #[.slice none 0 0] 25 (0, 0)) := by
    rw [hW3]
    refine (Below.heap_alloc _ _ _ (by simp)).trans ?_
    have h := World.alloc_heap_new ((w.alloc (.cells #[.int .i64 limit] 3)).alloc (.cells #[.slice none 0 0] 59)) (.cells #[.slice none 0 0] 25)
    rwa [World.size_alloc, World.size_alloc] at h
  have q3 : W3.heap[w.heap.size + 3]? = some (.cells #[.int .i64 28] 3 (0, 0)) := by
    rw [hW3]
    have h := World.alloc_heap_new (((w.alloc (.cells #[.int .i64 limit] 3)).alloc (.cells #[.slice none 0 0] 59)).alloc (.cells #[.slice none 0 0] 25)) (.cells #[.int .i64 28] 3)
    rwa [World.size_alloc, World.size_alloc, World.size_alloc] at h
  rw [← hW3]
  clear hW3
  have hst : PSt w.heap.size w limit [] (.slice none 0 0) (.slice none 0 0) [] 28 W3.heap.size W3 := ⟨q0, q1, q2, q3, own1_nil _ _ _, World.ownsRow_nil _ _ _ _, by omega, Nat.le_refl _, fun q hq => (by cases hq), hB3⟩
  have hKW : ∀ k, (rs ≠ [] ∧ ∃ off, a = some ⟨k, off, none⟩) → k < w.heap.size := fun k ⟨hne, off, e⟩ => hR.block_lt hne e
  clear q0 q1 q2 q3
  refine range_law (n := 9) rfl (by decide) (gf := 40) (lb := #[.pointer (some ⟨Bs, 0, none⟩)]) rfl trivial (enters_of Try.func40 (by kernel_rfl) rfl)
    (values_seq 8 (by decide) Bs (.slice a rs.length c) rs (by omega) W3 (by omega) ((hB3.cell (p := ⟨Bs, 0, none⟩) hBl).trans hBs) (hR.moved hB3) (fun k => rs ≠ [] ∧ ∃ off, a = some ⟨k, off, none⟩) (fun k hk => by have := hKW k hk; omega) (fun hne b off l cap e => by simp only [Value.slice.injEq] at e; exact ⟨hne, off, e.1⟩))
    (Below.refl _ _) (fun k hk => by have := hKW k hk; omega) (fun b e => by cases e) (fun _ => rfl)
    (fun pre W => ∃ (qs : List (Value × List Rc)) (vl vp : Value) (N : Nat), PSt w.heap.size w limit qs vl vp (cutS limit pre).2.1 (cutS limit pre).2.2 N W ∧ qs.map Prod.snd = (cutS limit pre).1)
    (fun _ _ _ => False)
    ?hI (fun cd => OwnIt.pure _ _ _)
    ⟨[], _, _, _, hst, rfl⟩
    (fun (x : Rc) (a' : Act) (W : World) => ∃ Bx : Nat, W3.heap.size ≤ Bx ∧ W.heap[Bx]? = some (.cells #[.bool x.free, .int .i64 x.block, .string x.data] 35 (0, 0)) ∧ a' = { tmps := #[.func (.func 40) #[] #[.pointer (some ⟨Bs, 0, none⟩)], .int .i64 limit, undef, .pointer (some ⟨w.heap.size, 0, none⟩), .slice none 0 0, .pointer (some ⟨w.heap.size + 1, 0, none⟩), .pointer (some ⟨w.heap.size + 2, 0, none⟩), .pointer (some ⟨w.heap.size + 3, 0, none⟩), .pointer (some ⟨Bx, 0, none⟩), undef, .func (.func 40) #[] #[.pointer (some ⟨Bs, 0, none⟩)], .agg #[.bool x.free, .int .i64 x.block, .string x.data], undef, undef, undef, undef, undef, undef, undef, undef, undef, undef, undef, undef, undef, undef, undef, undef, undef, undef, undef, undef, undef, undef], defers := [] })
    (fun x a' => ownIt_some _ fun Bx => OwnIt.and (OwnIt.pure _ _ _) (OwnIt.and (ownIt_block _ _ (fun _ => _) (fun _ => rfl)) (OwnIt.pure _ _ _)))
    ?assign ?body ?done ?stop ?panic
  case hI =>
    rintro s W W' row ⟨qs, vl, vp, N, h1, h2⟩ hg hr
    exact ⟨qs, vl, vp, N, h1.it (by omega) (Nat.le_refl _) hg hr, h2⟩
  case assign =>
    rintro l pre x W K ⟨qs, vl, vp, N, h1, h2⟩ hK
    gi_wp2
    refine hK _ _ ((KeepsOthers.alloc _ _).from _) ?_ ⟨qs, vl, vp, N, h1.more ((Below.refl _ _).alloc (Nat.le_refl _) _), h2⟩ ⟨W.heap.size, by have := h1.lo; have := h1.hi; omega, World.alloc_heap_new _ _, rfl⟩
    exact (KeptOn.refl _ _).alloc (fun k hk => by have := hKW k hk; have := h1.bel.size; omega) _
  case body =>
    rintro l pre x a' W ⟨qs, vl, vp, N, h1, h2⟩ ⟨Bx, hBx, hx, rfl⟩ hG
    have lt := fun {k : Nat} {o : Obj} (e : W.heap[k]? = some o) => (Array.getElem?_eq_some_iff.1 e).1
    have hfx := ho x (hG.subset (by simp))
    have hlx := lenR_fit z x hfx
    have hsx := fit_size z h9 x hfx
    have hpl := hG.length_le
    rw [List.length_append] at hpl
    have hcl := cut_len limit pre
    have HQ : Hid (qs.map Prod.snd = (cutS limit pre).1) := h2
    have hql : qs.length ≤ 100 := by
      have := congrArg List.length h2
      rw [List.length_map] at this
      simp at hpl
      omega
    have r0 := boxed_cell (i := 0) hx rfl
    have r1 := boxed_cell (i := 1) hx rfl
    have r2 := boxed_cell (i := 2) hx rfl
    have HC : Hid (cutS limit (pre ++ [x]) = cutStep limit (cutS limit pre) x) := cutS_snoc limit pre x
    obtain ⟨hnb, hcur⟩ := cut_small limit pre (fun r hr => by
      rw [lenR_fit z r (ho r (hG.subset (by simp [hr])))]
      have := fit_size z h9 r (ho r (hG.subset (by simp [hr])))
      omega)
    have hpl2 : pre.length < 100 := by simp at hpl; omega
    generalize cutS limit pre = cs at *
    obtain ⟨ps, cur, nb⟩ := cs
    have H1 : Hid (PSt w.heap.size w limit qs vl vp cur nb N W) := h1
    clear h1 h2 hcl
    refine wpIn_block ?_
    refine wpIn_seq_k (fun K hK => ?_)
    have HK : Hid (∀ a w, _ → K a w) := hK
    clear hK
    gi_wp2_with fail
    refine ⟨trivial, (CallsIn.inRound l (callsIn_wide.2 (recordBytes_any x _ (by omega)))).mono ?_⟩
    rintro e W1 ⟨rfl, hb1⟩
    have hx1 := (hb1.block Bx (lt hx)).trans hx
    have h1 := H1.out.more hb1
    have hKF : Hid (KeepsFrom W3.heap.size W W1) := ⟨hb1.size, fun k o _ hk _ => (hb1.block k (lt hk)).trans hk⟩
    clear r0 r1 r2
    gi_wp2
    refine HK.out _ _ ?_
    clear HK
    refine wpIn_seq_k (fun K hK => ?_)
    have HK : Hid (∀ a w, _ → K a w) := hK
    clear hK
    have c0 := boxed_cell (i := 0) h1.lim rfl
    have c1 := boxed_cell (i := 0) h1.lis rfl
    have c2 := boxed_cell (i := 0) h1.pie rfl
    have c3 := boxed_cell (i := 0) h1.byt rfl
    obtain ⟨pa, pn, pk, rfl⟩ : ∃ a ln cp, vp = .slice a ln cp := by
      rcases h1.own.2 with ⟨rfl, _⟩ | ⟨g, cap, cur, rfl, _⟩
      · exact ⟨_, _, _, rfl⟩
      · exact ⟨_, _, _, rfl⟩
    have hlo := h1.lo
    have hhi := h1.hi
    have hml1 : (qs.map Prod.fst).length + 1 ≤ maxLen := Nat.le_trans (show (qs.map Prod.fst).length + 1 ≤ 101 by rw [List.length_map]; omega) (by decide)
    have hml2 : cur.length + 1 ≤ maxLen := Nat.le_trans (show cur.length + 1 ≤ 1000 by omega) (by decide)
    have hml3 : ([] : List Rc).length + 1 ≤ maxLen := by decide
    by_cases hc : limit < ((nb + lenR x : Nat) : Int)
    · have e1 : decide (limit < (nb : Int) + (3 + (x.data.size : Int))) = true := by simp; omega
      have hA1 : Below W1.heap.size W1 (W1.alloc (.cells #[.slice pa pn pk] 25)) := (Below.refl _ _).alloc (Nat.le_refl _) _
      gi_wp2_with (have hA2 := hA1; gi_at_builtin; refine wpListIn_append_own_at _ rfl _ _ 59 rfl (w.heap.size + 4) 25 j0 _ 1 24 Try.underlying59 hj jz0 jz1 jz2 rfl (by decide) _ _ _ rfl (World.ownsRow.alloc h1.row _) ⟨W1.heap.size, 0, none⟩ 1 1 [.slice pa pn pk] rfl rfl (cells_new _ _ _) (by simp [Value.oneCell']) hml1 (by rw [List.length_map]; omega) (by simp; omega) ?_; intro v' w3 hown' hg3' hnil' hat'; rw [List.length_map] at hown'; obtain ⟨h2, g1, g2, g3, g4⟩ := PSt.shut h1 hA1 hown' hg3' (Nat.le_refl _); obtain ⟨lg, lcap, rfl⟩ := ownsRow_succ hown'; have p1 := boxed_cell (i := 0) g1 rfl; have f1 := boxed_frozen (i := 0) g1; have p2 := boxed_cell (i := 0) g2 rfl; have f2 := boxed_frozen (i := 0) g2; have p3 := boxed_cell (i := 0) g3 rfl; have f3 := boxed_frozen (i := 0) g3)
      have hx2 := g4 Bx _ (by omega) hx1
      refine HK.out _ _ ?_
      obtain ⟨X2, hX2⟩ : ∃ X2, X2 = ((w3.setCell ⟨w.heap.size + 1, 0, none⟩ (.slice (some ⟨lg, 0, none⟩) (qs.length + 1) lcap)).setCell ⟨w.heap.size + 2, 0, none⟩ (.slice none 0 0)).setCell ⟨w.heap.size + 3, 0, none⟩ (.int .i64 28) := ⟨_, rfl⟩
      have KF2 : KeepsFrom W3.heap.size W X2 := by
        rw [hX2]
        exact hKF.out.trans ((((KeepsOthers.alloc _ _).trans (keeps_row hg3' (fun r e => ⟨_, ((Own1.alloc h1.row _).row_ne r e).2⟩))).trans ((KeepsOthers.setCell _ _ _).trans ((KeepsOthers.setCell _ _ _).trans (KeepsOthers.setCell _ _ _)))).from _)
      rw [← hX2] at h2 hx2
      rw [← hX2]
      clear hX2 g1 g2 g3 g4 hown' hnil' hat' p1 f1 p2 f2 p3 f3 c0 c1 c2 c3 h1 hA1 hx1 HK
      obtain ⟨vp2, hvp2⟩ : ∃ v : Value, v = .slice none 0 0 := ⟨_, rfl⟩
      rw [← hvp2] at h2
      clear hvp2
      have u0 := boxed_cell (i := 0) hx2 rfl
      have u1 := boxed_cell (i := 1) hx2 rfl
      have u2 := boxed_cell (i := 2) hx2 rfl
      have s2 := boxed_cell (i := 0) (v := vp2) h2.pie rfl
      have s3 := boxed_cell (i := 0) (v := .int .i64 28) h2.byt rfl
      have hsX := h2.hi
      have hsL := h2.lo
      have hA2 : Below X2.heap.size X2 (X2.alloc (.cells #[.bool x.free, .int .i64 x.block, .string x.data] 35)) := (Below.refl _ _).alloc (Nat.le_refl _) _
      gi_wp2_with (have hA3 := hA2; gi_at_builtin; refine wpListIn_append_own_at _ rfl _ _ 25 rfl w3.heap.size 35 i0 _ 3 32 Try.underlying25 hi hz0 hz1 hz2 rfl (by decide) _ _ _ rfl (World.ownsRow.alloc h2.own _) ⟨X2.heap.size, 0, none⟩ 1 1 [.bool x.free, .int .i64 x.block, .string x.data] rfl rfl (cells_new _ _ _) (by simp [Value.oneCell']) hml3 (by decide) (by simp; omega) ?_; intro v' w5 hown2 hg5 hn5 ha5; obtain ⟨h3, k1, k2⟩ := PSt.put h2 (28 + (3 + x.data.size)) hA2 hown2 hg5 (Nat.le_refl _); have KO5 := keeps_row hg5 (fun r e => ⟨_, ((OwnsR.alloc1 h2.own _).row_ne r e).2⟩); obtain ⟨pg, pcap, rfl⟩ := ownsRow_succ hown2; simp only [List.length_nil, Nat.zero_add] at k2 h3; have t1 := boxed_cell (i := 0) k1 rfl; have y1 := boxed_frozen (i := 0) k1; have t2 := boxed_cell (i := 0) k2 rfl; have y2 := boxed_frozen (i := 0) k2; clear hA2 hA3)
      have hst2 : cutStep limit (ps, cur, nb) x = (ps ++ [cur], [x], 28 + lenR x) := if_pos hc
      refine ⟨KF2.trans ((((KeepsOthers.alloc _ _).trans KO5).trans ((KeepsOthers.setCell _ _ _).trans (KeepsOthers.setCell _ _ _))).from _), H1.out.keptOn h3 hKW, qs ++ [(.slice pa pn pk, cur)], .slice (some ⟨lg, 0, none⟩) (qs.length + 1) lcap, .slice (some ⟨pg, 0, none⟩) 1 pcap, w3.heap.size, ?_, ?_⟩
      · rw [HC.out, hst2, hlx]
        simpa using h3
      · rw [HC.out, hst2]
        simp [← HQ.out]
    · have e1 : decide (limit < (nb : Int) + (3 + (x.data.size : Int))) = false := by simp; omega
      gi_wp2
      refine HK.out _ _ ?_
      have h2 := h1
      have hx2 := hx1
      clear c0 c1 c2 c3 h1 hx1 HK
      have u0 := boxed_cell (i := 0) hx2 rfl
      have u1 := boxed_cell (i := 1) hx2 rfl
      have u2 := boxed_cell (i := 2) hx2 rfl
      have s2 := boxed_cell (i := 0) (v := .slice pa pn pk) h2.pie rfl
      have s3 := boxed_cell (i := 0) (v := .int .i64 nb) h2.byt rfl
      have hsX := h2.hi
      have hsL := h2.lo
      have hA2 : Below W1.heap.size W1 (W1.alloc (.cells #[.bool x.free, .int .i64 x.block, .string x.data] 35)) := (Below.refl _ _).alloc (Nat.le_refl _) _
      gi_wp2_with (have hA3 := hA2; gi_at_builtin; refine wpListIn_append_own_at _ rfl _ _ 25 rfl N 35 i0 _ 3 32 Try.underlying25 hi hz0 hz1 hz2 rfl (by decide) _ _ _ rfl (World.ownsRow.alloc h2.own _) ⟨W1.heap.size, 0, none⟩ 1 1 [.bool x.free, .int .i64 x.block, .string x.data] rfl rfl (cells_new _ _ _) (by simp [Value.oneCell']) hml2 (by omega) (by simp; omega) ?_; intro v' w5 hown2 hg5 hn5 ha5; obtain ⟨h3, k1, k2⟩ := PSt.put h2 (nb + (3 + x.data.size)) hA2 hown2 hg5 (Nat.le_refl _); have KO5 := keeps_row hg5 (fun r e => ⟨_, ((OwnsR.alloc1 h2.own _).row_ne r e).2⟩); obtain ⟨pg, pcap, rfl⟩ := ownsRow_succ hown2; have t1 := boxed_cell (i := 0) k1 rfl; have y1 := boxed_frozen (i := 0) k1; have t2 := boxed_cell (i := 0) k2 rfl; have y2 := boxed_frozen (i := 0) k2; clear hA2 hA3)
      have hst2 : cutStep limit (ps, cur, nb) x = (ps, cur ++ [x], nb + lenR x) := if_neg (by simpa using hc)
      refine ⟨hKF.out.trans ((((KeepsOthers.alloc _ _).trans KO5).trans ((KeepsOthers.setCell _ _ _).trans (KeepsOthers.setCell _ _ _))).from _), H1.out.keptOn h3 hKW, qs, vl, .slice (some ⟨pg, 0, none⟩) (cur.length + 1) pcap, N, ?_, ?_⟩
      · rw [HC.out, hst2, hlx]
        simpa using h3
      · rw [HC.out, hst2]
        simp [← HQ.out]
  case done =>
    rintro D ys W hD rfl ⟨qs, vl, vp, N, h1, h2⟩ hK
    obtain ⟨pa, pn, pk, rfl⟩ : ∃ a ln cp, vp = .slice a ln cp := by
      rcases h1.own.2 with ⟨rfl, _⟩ | ⟨g, cap, cur, rfl, _⟩
      · exact ⟨_, _, _, rfl⟩
      · exact ⟨_, _, _, rfl⟩
    have hcl := cut_len limit ys
    have hql : qs.length ≤ 100 := by
      have := congrArg List.length h2
      rw [List.length_map] at this
      omega
    have hlo := h1.lo
    have hhi := h1.hi
    have hml1 : (qs.map Prod.fst).length + 1 ≤ maxLen := Nat.le_trans (show (qs.map Prod.fst).length + 1 ≤ 101 by rw [List.length_map]; omega) (by decide)
    have c1 := boxed_cell (i := 0) h1.lis rfl
    have c2 := boxed_cell (i := 0) h1.pie rfl
    have H1 : Hid (PSt w.heap.size w limit qs vl (.slice pa pn pk) (cutS limit ys).2.1 (cutS limit ys).2.2 N W) := h1
    have HQ : Hid _ := h2
    have hA1 : Below W.heap.size W (W.alloc (.cells #[.slice pa pn pk] 25)) := (Below.refl _ _).alloc (Nat.le_refl _) _
    clear h2
    gi_wp2_with (have hA2 := hA1; gi_at_builtin; refine wpListIn_append_own_at _ rfl _ _ 59 rfl (w.heap.size + 4) 25 j0 _ 1 24 Try.underlying59 hj jz0 jz1 jz2 rfl (by decide) _ _ _ rfl (World.ownsRow.alloc h1.row _) ⟨W.heap.size, 0, none⟩ 1 1 [.slice pa pn pk] rfl rfl (cells_new _ _ _) (by simp [Value.oneCell']) hml1 (by rw [List.length_map]; omega) (by simp; omega) ?_; intro v' w3 hown' hg3' hnil' hat'; rw [List.length_map] at hown'; obtain ⟨lg, lcap, rfl⟩ := ownsRow_succ hown'; clear hA1 hA2)
    have h1' := H1.out.more ((Below.refl W.heap.size W).alloc (Nat.le_refl _) (.cells #[.slice pa pn pk] 25))
    have hrow := (Own1.alloc h1.row (.cells #[.slice pa pn pk] 25)).row_ne
    have hK3 : w3.heap[D]? = some (.deferred (some [])) := by
      have e1 := (Below.heap_alloc W (.cells #[.slice pa pn pk] 25) D (Array.getElem?_eq_some_iff.1 hK).1).trans hK
      refine (hg3'.block D (Array.getElem?_eq_some_iff.1 e1).1 (fun e => ?_)).trans e1
      obtain ⟨_, cs, h⟩ := hrow D e.symm
      rw [e1] at h
      cases h
    refine ⟨by simp, .inl ⟨_, _, rfl, run_takeDeferred hK3, ?_⟩⟩
    have hbel : Below w.heap.size w w3 := h1'.bel.grown hg3' h1'.bel.size (fun k e => by have := (hrow k e).1; omega)
    have hownE : Own1 25 (w.heap.size + 4) w3 (.slice (some ⟨lg, 0, none⟩) (qs.length + 1) lcap) ((qs ++ [((Value.slice pa pn pk), (cutS limit ys).2.1)]).map Prod.fst) := by
      rw [List.map_append]
      refine own1_snoc ?_
      rw [List.length_map]
      exact hown'
    have hlD : D < w3.heap.size := (Array.getElem?_eq_some_iff.1 hK3).1
    have recs : ∀ q : Value × List Rc, OwnsR w.heap.size w3 q.1 q.2 → Recs (w3.putObj D (.deferred none)).heap.size (w3.putObj D (.deferred none)) q.1 q.2 := fun q hq => OwnsR.recs (ownsRow_putObj hq _ hK3 rfl)
    refine ⟨_, results_tmp rfl _ _ _, _, qs ++ [(.slice pa pn pk, (cutS limit ys).2.1)], rfl, ?_, ?_, ?_, hbel.trans (belowK_b (w := w) (Nat.le_refl _) _ D _ _ (by omega) hK3 rfl rfl)⟩
    · exact Own1.base (B := w.heap.size + 4) (ownsRow_putObj hownE _ hK3 rfl) (Nat.le_add_right _ _)
    · rw [List.map_append, HQ.out]
      rfl
    · intro q hq
      rw [List.mem_append, List.mem_singleton] at hq
      rcases hq with hq | rfl
      · refine recs q ((h1'.old q hq).kept (N' := N) (Nat.le_refl _) hg3' (fun r e => .inr fun cs fr e2 => ?_)).1
        obtain ⟨cs', h3⟩ := (hrow r e).2
        rw [h3] at e2
        simp only [Option.some.injEq, Obj.cells.injEq] at e2
        exact absurd e2.2.1 (by decide)
      · exact recs _ (OwnsR.base (row_beside h1'.own hg3' (fun r e => (hrow r e).2) (by decide)) (by omega))
  case stop =>
    rintro D cd pre W _ _ h
    exact h.elim
  case panic =>
    rintro D ch xs W _ hp
    exact hp.elim
end Go.Proofs.Ytkmeingnhaomaab
/- The reference's Split. -/
namespace Go.Proofs.Ytkmeingnhaomaab
open Go.RowKit Go.Shelf

def intV (n : Nat) : Value := .int .i64 n
theorem own1_lit (e : TypeId) (B : Nat) (W : World) (x : Value) (hB : B ≤ W.heap.size) : Own1 e B (W.alloc (.cells #[x] e)) (.slice (some ⟨W.heap.size, 0, none⟩) 1 1) [x] :=
  ⟨rfl, .inr ⟨W.heap.size, 1, #[x], rfl, hB, World.alloc_heap_new _ _, Nat.le_refl _, by decide, rfl, rfl⟩⟩
def texV (q : List UInt8) : Value := .string ⟨q.toArray⟩
theorem OwnsR.fits {B : Nat} {W : World} {a : Option Addr} {ln cp : Nat} {rs : List Rc} (h : OwnsR B W (.slice a ln cp) rs) : rs.length ≤ cp := by
  rcases h.2 with ⟨e, h0⟩ | ⟨g, cap, cur, e, _, _, hc, _⟩
  · omega
  · simp only [Value.slice.injEq] at e
    omega
theorem Recs.part {B : Nat} {W : World} {a : Option Addr} {cap cap' : Nat} {rs : List Rc} (h : Recs B W (.slice a rs.length cap) rs) (hcap : rs.length ≤ cap) (lo hi : Nat) (h1 : lo ≤ hi) (h2 : hi ≤ rs.length) : Recs B W (.slice (if cap = lo then a else Option.map (fun x => x.add (lo * 3)) a) (hi - lo) cap') ((rs.take hi).drop lo) := by
  have hl : ((rs.take hi).drop lo).length = hi - lo := by rw [List.length_drop, List.length_take]; omega
  by_cases he : hi = lo
  · subst he
    exact .inl ⟨List.eq_nil_of_length_eq_zero (by omega), _, _, congrArg (fun x => Value.slice _ x _) (Nat.sub_self hi)⟩
  · rcases h with ⟨rfl, _⟩ | ⟨b, o, cap2, e, hb, hc⟩
    · simp at h2; omega
    · simp only [Value.slice.injEq] at e
      obtain ⟨rfl, -, rfl⟩ := e
      refine .inr ⟨b, o + lo * 3, cap', ?_, hb, fun j hj => ?_⟩
      · rw [if_neg (by omega), hl]
        simp only [Option.map_some, Addr.add_lit]
      · rw [hl] at hj
        have := hc (lo + j) (by omega)
        simp only [List.getElem_drop, List.getElem_take]
        rw [show o + lo * 3 + j * 3 = o + (lo + j) * 3 from by omega]
        exact this
/-- What Split tells. -/
def ToldP (l : List UInt8) (limit : Int) (w : World) (e : Ending) (w' : World) : Prop :=
  w.grownBy w' none ∧
    ((∃ k, splitR l limit = .inl k ∧ e = .returned (.tuple #[.slice none 0 0, .int .i64 k])) ∨
     (∃ ts v, splitR l limit = .inr ts ∧ e = .returned (.tuple #[v, .int .i64 0]) ∧ Own1 9 w.heap.size w' v (ts.map texV)))

end Go.Proofs.Ytkmeingnhaomaab
/- The program's chunkTexts. -/
namespace Go.Proofs.Ytkmeingnhaomaab
open Go.RowKit Go.Shelf

theorem Own1.set {e : TypeId} {B : Nat} {W : World} {g l cp : Nat} {xs : List Value} (h : Own1 e B W (.slice (some ⟨g, 0, none⟩) l cp) xs) (k : Nat) (x : Value) : Own1 e B (W.setCell ⟨g, k, none⟩ x) (.slice (some ⟨g, 0, none⟩) l cp) (xs.set k x) := by
  have h1 := h.1
  rcases h.2 with ⟨e0, h0⟩ | ⟨g', cap, cur, e0, hb, hg, hc, hm, hs, ht⟩
  · cases e0
  · have e1 := e0
    simp only [Value.slice.injEq, Option.some.injEq, Addr.mk.injEq] at e1
    obtain ⟨⟨rfl, -, -⟩, -, -⟩ := e1
    refine ⟨by simp, .inr ⟨g, cap, cur.setIfInBounds k x, by simpa using e0, hb, block_set (i := k) hg x, by simpa using hc, hm, by simpa using hs, ?_⟩⟩
    rw [Array.toList_setIfInBounds, List.length_set, List.take_set, ht]

/-- The texts of the first k pieces, the others still empty. -/
def texK (F : Nat → Value) (n k : Nat) : List Value := (List.range k).map F ++ List.replicate (n - k) (.string ⟨#[]⟩)
theorem texK_set (F : Nat → Value) (n k : Nat) (h : k < n) : (texK F n k).set k (F k) = texK F n (k + 1) := by
  unfold texK
  rw [List.set_append_right _ _ (by simp), List.length_map, List.length_range, Nat.sub_self, show n - k = (n - (k + 1)) + 1 from by omega, List.replicate_succ, List.set_cons_zero, List.range_succ, List.map_append, List.append_assoc]
  rfl
theorem texK_length (F : Nat → Value) (n k : Nat) (h : k ≤ n) : (texK F n k).length = n := by
  simp [texK]
  omega
theorem made_texts (n : Nat) : (madeCells #[.string ⟨#[]⟩] n).toList = List.replicate n (.string ⟨#[]⟩) := by
  apply List.ext_getElem?
  intro i
  rw [Array.getElem?_toList]
  by_cases hi : i < n
  · rw [List.getElem?_replicate, if_pos hi]
    simp [madeCells, hi, Nat.mod_one]
  · rw [List.getElem?_eq_none (by simp; omega), Array.getElem?_eq_none (by simp [size_madeCells]; omega)]

set_option maxRecDepth 100000 in
set_option maxHeartbeats 4000000 in
theorem chunkTexts_any (f t b z all : Nat) (v : Value) (qs : List (Value × List Rc)) (B : Nat) (w : World) (hv : Own1 25 B w v (qs.map Prod.fst)) (hq : ∀ q ∈ qs, Recs w.heap.size w q.1 q.2) (hf : f < 4294967296) (ht : t < 4294967296) (hb : b < 4294967296) (h9 : (z : Int) ≤ 64) (hall : all < 4294967296) (hn : qs.length ≤ 200) (hn1 : ∀ q ∈ qs, q.2.length ≤ 100) (ho : ∀ q ∈ qs, ∀ r ∈ q.2, RecFit z r) :
    Calls Try.prog 21 #[.agg #[.int .i64 f, .int .i64 t, .int .i64 b, .int .i64 z, .int .i64 all], v] w fun e w' => ∃ v', e = .returned v' ∧ Own1 9 w.heap.size w' v' ((List.range qs.length).map fun i => texV (chunkB f t b z all i qs.length ((qs[i]?.map Prod.snd).getD []))) ∧ Below w.heap.size w w' := by
  obtain ⟨i0, hi, hz0, hz1, hz2⟩ := info_parts Try.infoStr
  obtain ⟨va, vc, rfl⟩ := hv.slice
  rw [List.length_map] at hv
  rw [List.length_map]
  have hmk : ∀ W : World, (Instr.makeSlice 37 (.int .i64 qs.length) (.int .i64 qs.length)).run Try.prog W = .ok (.slice (some ⟨W.heap.size, 0, none⟩) qs.length qs.length) (W.alloc (.cells (madeCells (Value.string ⟨#[]⟩).cells (qs.length * 1)) 9)) := by
    intro W
    have := run_make (P := Try.prog) W 37 9 i0 _ Try.underlying37 hi hz0 .i64 .i64 (qs.length : Int) (qs.length : Int) (by omega) (Int.le_refl _) (by rw [hz2]; omega) (by omega)
    rw [hz1, show ((qs.length : Int)).toNat = qs.length from by omega] at this
    exact this
  go_enter Try.func21, Try.ntmps21
  go_wp2
  obtain ⟨M, hM⟩ : ∃ M, M = madeCells #[.string ⟨#[]⟩] qs.length := ⟨_, rfl⟩
  obtain ⟨W1, hW1⟩ : ∃ W1, W1 = (w.alloc (.cells #[.int .i64 f, .int .i64 t, .int .i64 b, .int .i64 z, .int .i64 all] 57)).alloc (.cells (madeCells #[.string ⟨#[]⟩] qs.length) 9) := ⟨_, rfl⟩
  have hs1 : W1.heap.size = w.heap.size + 2 := by rw [hW1]; simp
  have hB1 : Below w.heap.size w W1 := by rw [hW1]; exact ((Below.refl _ _).alloc (Nat.le_refl _) _).alloc (by simp) _
  have hh1 : W1.heap[w.heap.size]? = some (.cells #[.int .i64 f, .int .i64 t, .int .i64 b, .int .i64 z, .int .i64 all] 57 (0, 0)) := by rw [hW1]; exact (Below.heap_alloc _ _ _ (by simp)).trans (World.alloc_heap_new _ _)
  obtain ⟨F, hF⟩ : ∃ F : Nat → Value, F = fun i => texV (chunkB f t b z all i qs.length ((qs[i]?.map Prod.snd).getD [])) := ⟨_, rfl⟩
  have hO1 : Own1 9 (w.heap.size + 1) W1 (.slice (some ⟨w.heap.size + 1, 0, none⟩) qs.length qs.length) (texK F qs.length 0) := by
    have hl : (texK F qs.length 0).length = qs.length := texK_length F _ _ (Nat.zero_le _)
    refine ⟨by rw [Nat.mul_one], .inr ⟨w.heap.size + 1, qs.length, M, by rw [hl], Nat.le_refl _, ?_, by rw [hl]; exact Nat.le_refl _, ?_, ?_, ?_⟩⟩
    · rw [hW1, hM]
      have h := World.alloc_heap_new (w.alloc (.cells #[.int .i64 f, .int .i64 t, .int .i64 b, .int .i64 z, .int .i64 all] 57)) (.cells (madeCells #[.string ⟨#[]⟩] qs.length) 9)
      rwa [World.size_alloc] at h
    · exact Nat.le_trans hn (by decide)
    · rw [hM, size_madeCells, Nat.mul_one]
    · rw [hM, made_texts, hl, Nat.mul_one, List.take_of_length_le (by simp)]
      simp [texK]
  rw [← hW1]
  have HV : Hid (Own1 25 B w (.slice va qs.length vc) (qs.map Prod.fst)) := hv
  have HQ : Hid _ := hq
  have HO : Hid _ := ho
  have HN1 : Hid _ := hn1
  have HF : Hid _ := hF
  clear hW1 hM hmk hz0 hz1 hz2 hi hv hq ho hn1 hF
  go_loopw [13] (fun i wr => ∃ k : Nat, k ≤ qs.length ∧ i = .int .i64 k ∧ Own1 9 (w.heap.size + 1) wr (.slice (some ⟨w.heap.size + 1, 0, none⟩) qs.length qs.length) (texK F qs.length k) ∧ wr.heap[w.heap.size]? = some (.cells #[.int .i64 f, .int .i64 t, .int .i64 b, .int .i64 z, .int .i64 all] 57 (0, 0)) ∧ Below w.heap.size w wr) (fun i _ => qs.length - (intOf i).toNat)
  case atStart => exact ⟨0, Nat.zero_le _, rfl, hO1, hh1, hB1⟩
  case round =>
    obtain ⟨k, hk, rfl, hO, hh, hB⟩ := hrel
    have H_O : Hid (Own1 9 (w.heap.size + 1) wr (.slice (some ⟨w.heap.size + 1, 0, none⟩) qs.length qs.length) (texK F qs.length k)) := hO
    have H_H : Hid _ := hh
    have H_B : Hid (Below w.heap.size w wr) := hB
    have d0 := boxed_cell (i := 0) (v := .int .i64 f) hh rfl
    have d1 := boxed_cell (i := 1) (v := .int .i64 t) hh rfl
    have d2 := boxed_cell (i := 2) (v := .int .i64 b) hh rfl
    have d3 := boxed_cell (i := 3) (v := .int .i64 z) hh rfl
    have d4 := boxed_cell (i := 4) (v := .int .i64 all) hh rfl
    have hwl : w.heap.size < wr.heap.size := (Array.getElem?_eq_some_iff.1 hh).1
    clear hO hh hB hO1 hh1 hB1
    by_cases hlt : k < qs.length
    · obtain ⟨g, rfl, hgB, hc, -⟩ := Own1.at HV.out (k := k) (by rw [List.length_map]; exact hlt)
      have hgl : g < w.heap.size := World.block_lt_of_cell? _ _ hc
      have hc' : wr.cell? ⟨g, k, none⟩ = some qs[k].1 := by
        rw [H_B.out.cell (p := ⟨g, k, none⟩) hgl, hc]
        simp
      have hmem : qs[k] ∈ qs := List.getElem_mem hlt
      have hR : Recs wr.heap.size wr qs[k].1 qs[k].2 := (HQ.out _ hmem).moved H_B.out
      have HW : Hid (∀ u : Unit, _) := fun _ => writeChunk_any f t b z all k qs.length qs[k].1 qs[k].2 wr hR hf ht hb h9 hall (by omega) (by omega) (HN1.out _ hmem) (HO.out _ hmem)
      have HFK : Hid (F k = .string ⟨(chunkB f t b z all k qs.length qs[k].2).toArray⟩) := by
        show _ = _
        rw [HF.out]
        simp [texV, hlt]
      obtain ⟨qa, qc, hqv⟩ := hR.slice
      have hql := HN1.out _ hmem
      clear hR hmem hc
      generalize qs[k].2 = qr at *
      rw [hqv] at hc' HW
      clear hqv
      generalize qr.length = qn at *
      go_wp2_with fail
      refine (HW.out ()).mono ?_
      rintro e w2 ⟨rfl, hb2⟩
      have o2 := H_O.out.kept (gbelow hb2)
      have O2 : Hid (Own1 9 (w.heap.size + 1) w2 (.slice (some ⟨w.heap.size + 1, 0, none⟩) qs.length qs.length) (texK F qs.length k)) := o2
      obtain ⟨g2, hg2, -, hc2, hz2⟩ := Own1.at o2 (k := k) (by rw [texK_length F _ _ hk]; exact hlt)
      simp only [Option.some.injEq, Addr.mk.injEq] at hg2
      obtain ⟨rfl, -, -⟩ := hg2
      have H2 : Hid _ := (hb2.block _ hwl).trans H_H.out
      have B2 : Hid (Below w.heap.size w w2) := H_B.out.trans (hb2.mono H_B.out.size)
      have hset := texK_set F qs.length k hlt
      rw [HFK.out] at hset
      have HSET : Hid _ := hset
      clear o2 hb2 d0 d1 d2 d3 d4 HW hset hc'
      go_wp2
      go_roundw
      case rel =>
        have o3 := Own1.set O2.out k (.string ⟨(chunkB f t b z all k qs.length qr).toArray⟩)
        rw [HSET.out] at o3
        exact ⟨k + 1, by omega, by go_num, o3, (Below.heap_setCell _ _ _ _ (by show w.heap.size ≠ w.heap.size + 1; omega)).trans H2.out, B2.out.setCell (p := ⟨w.heap.size + 1, k, none⟩) (by simp) _⟩
      case measure => simp [intOf]; omega
    · obtain rfl : k = qs.length := by omega
      have hfin : texK F qs.length qs.length = (List.range qs.length).map F := by simp [texK]
      have o3 := H_O.out
      rw [hfin, HF.out] at o3
      have O3 : Hid (Own1 9 (w.heap.size + 1) wr (.slice (some ⟨w.heap.size + 1, 0, none⟩) qs.length qs.length) ((List.range qs.length).map fun i => texV (chunkB f t b z all i qs.length ((qs[i]?.map Prod.snd).getD [])))) := o3
      clear hfin o3 d0 d1 d2 d3 d4
      go_wp2
      go_ret
      exact ⟨_, rfl, O3.out.base (by omega), H_B.out⟩
end Go.Proofs.Ytkmeingnhaomaab
/- The program's Split. -/
namespace Go.Proofs.Ytkmeingnhaomaab
open Go.RowKit Go.Shelf

theorem splitR_cut (f t b z : Nat) (rs : List Rc) (limit : Int) (qs : List (Value × List Rc)) (hq : qs.map Prod.snd = (cutS limit rs).1 ++ [(cutS limit rs).2.1]) :
    ((List.range qs.length).map fun i => texV (chunkB f t b z rs.length i qs.length ((qs[i]?.map Prod.snd).getD []))) = (chunksR f t b z rs (startsR limit rs)).map texV := by
  have hp := cut_parts limit rs
  rw [← hq] at hp
  have hl : qs.length = (startsR limit rs).length := by
    have := congrArg List.length hp
    simpa using this
  unfold chunksR
  rw [List.map_map, hl]
  refine List.map_congr_left fun i hi => ?_
  rw [List.mem_range] at hi
  have h2 : (qs.map Prod.snd)[i]? = some (partR (startsR limit rs) rs i) := by
    rw [hp]
    simp [hi]
  rw [List.getElem?_map] at h2
  simp only [Function.comp_apply]
  rw [h2]
  rfl

theorem pieces_ok (z : Int) (rs : List Rc) (limit : Int) (qs : List (Value × List Rc)) (hq : qs.map Prod.snd = (cutS limit rs).1 ++ [(cutS limit rs).2.1]) (ho : ∀ r ∈ rs, RecFit z r) :
    qs.length ≤ rs.length + 1 ∧ (∀ q ∈ qs, q.2.length ≤ rs.length) ∧ ∀ q ∈ qs, ∀ r ∈ q.2, RecFit z r := by
  have hp := cut_parts limit rs
  rw [← hq] at hp
  have hl := cut_len limit rs
  have h1 := congrArg List.length hq
  simp only [List.length_map, List.length_append, List.length_cons, List.length_nil] at h1
  have key : ∀ q ∈ qs, ∃ i, q.2 = partR (startsR limit rs) rs i := fun q hqm => by
    have : q.2 ∈ qs.map Prod.snd := List.mem_map_of_mem hqm
    rw [hp, List.mem_map] at this
    obtain ⟨i, -, e⟩ := this
    exact ⟨i, e.symm⟩
  refine ⟨by omega, fun q hqm => ?_, fun q hqm r hr => ?_⟩
  · obtain ⟨i, e⟩ := key q hqm
    rw [e, partR, List.length_drop, List.length_take]
    omega
  · obtain ⟨i, e⟩ := key q hqm
    rw [e, partR] at hr
    exact ho r (List.mem_of_mem_take (List.mem_of_mem_drop hr))

set_option maxRecDepth 100000 in
set_option maxHeartbeats 4000000 in
theorem psplit (l : List UInt8) (limit : Int) (w : World) (hl : l.length ≤ 4611686018427387904) (hlo : -9223372036854775808 ≤ limit) (hhi : limit ≤ 9223372036854775807) :
    Calls Try.prog 10 #[.string ⟨l.toArray⟩, .int .i64 limit] w (ToldP l limit w) := by
  have HP : Hid (∀ W, _) := fun W => pparse l W hl
  go_enter Try.func10, Try.ntmps10
  go_wp2_with fail
  refine (HP.out _).mono ?_
  rintro e w1 ⟨hg1, (⟨k, hk, rfl⟩ | ⟨f, t, b, z, rs, v, hk, rfl, hown⟩)⟩
  · have hke := parse_err l k hk
    have e1 : (k != 0) = true := by simp; omega
    have HA : Hid (splitR l limit = .inl k) := by
      show _ = _
      unfold splitR
      rw [hk]
    have G1 : Hid _ := hg1
    clear hk hg1 hke
    go_wp2
    refine bodyPost_ret (results_tmp2 rfl _ _ _) rfl ?_
    exact ⟨gallocR G1.out _, .inl ⟨k, HA.out, rfl⟩⟩
  obtain ⟨-, hw, ho⟩ := parse_exact l f t b z rs hk
  obtain ⟨h1, h2, h3, h4, h5, h6, h7, h8, h9⟩ : (0 : Int) ≤ f ∧ (f : Int) ≤ 2147483647 ∧ (1 : Int) ≤ t ∧ (t : Int) ≤ 2147483647 ∧ (f : Int) ≠ t ∧ (1 : Int) ≤ b ∧ (b : Int) ≤ 100 ∧ (1 : Int) ≤ z ∧ (z : Int) ≤ 64 := of_decide_eq_true hw
  have hn : rs.length ≤ 100 := by have := recsOk_length b z rs ho (by omega); omega
  have hfit := recsOk_fit b z (-1) rs h7 (by omega) ho
  obtain ⟨av, lv, cv, rfl⟩ := hown.slice
  have hlv : lv = rs.length := by
    obtain ⟨a', c', e⟩ := (OwnsR.recs hown).slice
    cases e
    rfl
  subst hlv
  obtain ⟨W1, hW1⟩ : ∃ W1, W1 = w1.alloc (.cells #[.int .i64 f, .int .i64 t, .int .i64 b, .int .i64 z, .slice av rs.length cv] 27) := ⟨_, rfl⟩
  have s1 : Hid (W1.heap[w1.heap.size]? = some (.cells #[.int .i64 f, .int .i64 t, .int .i64 b, .int .i64 z, .slice av rs.length cv] 27 (0, 0))) := by rw [hW1]; exact World.alloc_heap_new _ _
  have g1 : Hid (w.grownBy W1 none) := by rw [hW1]; exact gallocR hg1 _
  have R1 : Hid (Recs W1.heap.size W1 (.slice av rs.length cv) rs) := by rw [hW1]; exact (OwnsR.alloc hown _).recs
  have HK : Hid _ := hk
  have hz1 : w1.heap.size < W1.heap.size := by rw [hW1]; simp
  clear hg1 hown hk hw h1 h3 h5 h6 h8 ho
  go_wp2_with fail
  rw [← hW1]
  clear hW1
  refine (values_any av rs.length cv W1).mono ?_
  rintro e W2 ⟨rfl, hW2⟩
  have b2 : Below W1.heap.size W1 W2 := by rw [hW2]; exact (Below.refl _ _).alloc (Nat.le_refl _) _
  have c2 : W2.cell? ⟨W1.heap.size, 0, none⟩ = some (.slice av rs.length cv) := by rw [hW2]; simp [go_sem]
  have z2 : W1.heap.size < W2.heap.size := by rw [hW2]; simp
  have HL : Hid (∀ u : Unit, _) := fun _ => longest_any z (.slice av rs.length cv) rs W1.heap.size W2 (R1.out.moved b2) c2 z2 h9 hn hfit
  have B2 : Hid (Below W1.heap.size W1 W2) := b2
  clear hW2 b2 c2 z2
  go_wp2_with fail
  refine (HL.out ()).mono ?_
  rintro e W3 ⟨rfl, hb3⟩
  have B3 : Hid (Below W1.heap.size W1 W3) := B2.out.trans (hb3.mono B2.out.size)
  have hmost := mostR_fit z h9 rs hfit
  obtain ⟨c0, c1, c2, c3, c4, -⟩ := box5_cells ((B3.out.block _ hz1).trans s1.out)
  have hz3 : w1.heap.size < W3.heap.size := Nat.lt_of_lt_of_le hz1 B3.out.size
  have HSP : Hid (splitR l limit = if limit < ((28 + mostR rs : Nat) : Int) then .inl 12 else .inr (chunksR f t b z rs (startsR limit rs))) := by
    show _ = _
    unfold splitR
    rw [HK.out]
  clear hb3 HL
  generalize mostR rs = mo at *
  by_cases hc : limit < ((28 + mo : Nat) : Int)
  · have e1 : decide (limit < 28 + (mo : Int)) = true := by simp; omega
    have HA : Hid (splitR l limit = .inl 12) := by
      show _ = _
      rw [HSP.out, if_pos hc]
    go_wp2
    refine bodyPost_ret (results_tmp2 rfl _ _ _) rfl ?_
    exact ⟨gtrans g1.out (gbelow B3.out), .inl ⟨12, HA.out, rfl⟩⟩
  · have e1 : decide (limit < 28 + (mo : Int)) = false := by simp; omega
    have HA : Hid (splitR l limit = .inr (chunksR f t b z rs (startsR limit rs))) := by
      show _ = _
      rw [HSP.out, if_neg hc]
    go_wp2_with fail
    have hS3 : W3.heap[w1.heap.size]? = some (.cells #[.int .i64 f, .int .i64 t, .int .i64 b, .int .i64 z, .slice av rs.length cv] 27 (0, 0)) := (B3.out.block _ hz1).trans s1.out
    have HS4 : Hid (∀ w4 : World, Below W3.drew.heap.size W3.drew w4 → w4.heap[w1.heap.size]? = some (.cells #[.int .i64 f, .int .i64 t, .int .i64 b, .int .i64 z, .slice av rs.length cv] 27 (0, 0)) ∧ Below W1.heap.size W1 w4) := fun w4 h => by
      have hb : Below W3.heap.size W3 w4 := (Below.refl _ _).drew.trans h
      exact ⟨(hb.block _ hz3).trans hS3, B3.out.trans (hb.mono B3.out.size)⟩
    have HS5 : Hid (∀ w4 : World, w4.heap[w1.heap.size]? = some (.cells #[.int .i64 f, .int .i64 t, .int .i64 b, .int .i64 z, .slice av rs.length cv] 27 (0, 0)) → (w4.alloc (.cells #[.slice av rs.length cv] 25)).heap[w1.heap.size]? = some (.cells #[.int .i64 f, .int .i64 t, .int .i64 b, .int .i64 z, .slice av rs.length cv] 27 (0, 0))) := fun w4 h => (Below.heap_alloc _ _ _ (Array.getElem?_eq_some_iff.1 h).1).trans h
    have HS6 : Hid (∀ w5 w6 : World, w5.heap[w1.heap.size]? = some (.cells #[.int .i64 f, .int .i64 t, .int .i64 b, .int .i64 z, .slice av rs.length cv] 27 (0, 0)) → Below w5.heap.size w5 w6 → w6.heap[w1.heap.size]? = some (.cells #[.int .i64 f, .int .i64 t, .int .i64 b, .int .i64 z, .slice av rs.length cv] 27 (0, 0))) := fun w5 w6 h hb => (hb.block _ (Array.getElem?_eq_some_iff.1 h).1).trans h
    have HPC : Hid (∀ w4 : World, Below W1.heap.size W1 w4 → _) := fun w4 h => pieces_any z limit (.slice av rs.length cv) rs w4.heap.size (w4.alloc (.cells #[.slice av rs.length cv] 25)) ((R1.out.moved h).moved ((Below.refl _ _).alloc (Nat.le_refl _) _)) (by simp [go_sem]) (by simp) h9 hn hfit hlo hhi
    have HCT : Hid (∀ (w6 : World) (vp : Value) (qs : List (Value × List Rc)) (B : Nat), Own1 25 B w6 vp (qs.map Prod.fst) → qs.map Prod.snd = (cutS limit rs).1 ++ [(cutS limit rs).2.1] → (∀ q ∈ qs, Recs w6.heap.size w6 q.1 q.2) → Calls Try.prog 21 #[.agg #[.int .i64 f, .int .i64 t, .int .i64 b, .int .i64 z, .int .i64 rs.length], vp] w6 fun e w' => ∃ a c, e = .returned (.slice a ((chunksR f t b z rs (startsR limit rs)).map texV).length c) ∧ Own1 9 w6.heap.size w' (.slice a ((chunksR f t b z rs (startsR limit rs)).map texV).length c) ((chunksR f t b z rs (startsR limit rs)).map texV) ∧ Below w6.heap.size w6 w') := fun w6 vp qs B h1 h2 h3 => by
      obtain ⟨k1, k2, k3⟩ := pieces_ok z rs limit qs h2 hfit
      refine (chunkTexts_any f t b z rs.length vp qs B w6 h1 h3 (by omega) (by omega) (by omega) h9 (by omega) (by omega) (fun q hq => Nat.le_trans (k2 q hq) hn) k3).mono ?_
      rintro e w' ⟨v', rfl, o, hb⟩
      rw [splitR_cut f t b z rs limit qs h2] at o
      obtain ⟨a, c, rfl⟩ := o.slice
      exact ⟨a, c, rfl, o, hb⟩
    generalize hN : ((chunksR f t b z rs (startsR limit rs)).map texV).length = nT at HCT
    go_region_held3 (fun w' => w'.cell? ⟨w1.heap.size, 0, none⟩ = some (.int .i64 f) ∧ w'.cell? ⟨w1.heap.size, 1, none⟩ = some (.int .i64 t) ∧ w'.cell? ⟨w1.heap.size, 2, none⟩ = some (.int .i64 b) ∧ w'.cell? ⟨w1.heap.size, 3, none⟩ = some (.int .i64 z) ∧ w'.cell? ⟨w1.heap.size, 4, none⟩ = some (.slice av rs.length cv) ∧ w'.heap[w1.heap.size]? = some (.cells #[.int .i64 f, .int .i64 t, .int .i64 b, .int .i64 z, .slice av rs.length cv] 27 (0, 0)))
      (first | with_reducible exact box5_cells hS7 | with_reducible exact box5_cells hS6 | with_reducible exact box5_cells hS5 | with_reducible exact box5_cells hS4 | exact box5_cells hS3)
      (first | (go_at_call 22; refine (headOf_any _ _ _ _ _ _ _ _).mono ?_; rintro e w4 ⟨rfl, hb4⟩; obtain ⟨hS4, hB4⟩ := HS4.out w4 hb4) | (go_at_call 20; refine (values_any _ _ _ _).mono ?_; rintro e w5 ⟨rfl, rfl⟩; have hS5 := HS5.out w4 hS4) | (go_at_call 23; refine (HPC.out w4 hB4).mono ?_; rintro e w6 ⟨vp, qs, rfl, hown6, hqs, hrec6, hb6⟩; have hS6 := HS6.out _ w6 hS5 hb6) | (go_at_call 21; refine (HCT.out w6 vp qs _ hown6 hqs hrec6).mono ?_; rintro e w7 ⟨ta, tc, rfl, o7, hb7⟩; have hS7 := HS6.out w6 w7 hS6 hb7))
    have B6 : Below W1.heap.size W1 w6 := hB4.trans (((Below.refl w4.heap.size w4).alloc (Nat.le_refl _) _).mono hB4.size |>.trans (hb6.mono (by have := hB4.size; simp; omega)))
    have B7 : Below W1.heap.size W1 w7 := B6.trans (hb7.mono B6.size)
    have O7 : Hid (Own1 9 w6.heap.size w7 (.slice ta nT tc) ((chunksR f t b z rs (startsR limit rs)).map texV)) := o7
    have G7 : Hid (w.grownBy w7 none) := gtrans g1.out (gbelow B7)
    have hz6 : w.heap.size ≤ w6.heap.size := Nat.le_trans g1.out.size B6.size
    clear o7 hb7 hown6 hqs hrec6 hb6 B6 B7 hS4 hS5 hS6 hS7
    go_wp2
    refine bodyPost_ret (results_tmp2 rfl _ _ _) rfl ?_
    exact ⟨G7.out, .inr ⟨_, _, HA.out, rfl, O7.out.base hz6⟩⟩
end Go.Proofs.Ytkmeingnhaomaab
/- The program's chunkHead. -/
namespace Go.Proofs.Ytkmeingnhaomaab
open Go.RowKit Go.Shelf

/-- What a chunk's first bytes tell: the error, or its numbers. -/
def chunkO (l : List UInt8) : Int ⊕ (Nat × Nat × Nat × Nat × Nat) :=
  match openG [83, 84, 82, 67] 24 0 l with
  | .inl k => .inl k
  | .inr (f, t, b, z, all) => if num ((l.drop 20).take 2) ≤ num ((l.drop 18).take 2) ∨ all < num ((l.drop 22).take 2) then .inl 4 else .inr (f, t, b, z, all)

set_option maxRecDepth 100000 in
set_option maxHeartbeats 4000000 in
theorem chunkHead_any (R : Nat) (l : List UInt8) (w : World) (hr : Rd w R l 0) (hl : l.length ≤ 4611686018427387904) :
    Calls Try.prog 45 #[.pointer (some ⟨R, 0, none⟩)] w fun e w' => w.grownBy w' (some R) ∧
      ((∃ k, chunkO l = .inl k ∧ e = .panicked (gave k)) ∨
       (∃ f t b z all : Nat, chunkO l = .inr (f, t, b, z, all) ∧ 24 ≤ l.length ∧ headOk f t b z all = true ∧ num ((l.drop 22).take 2) ≤ all ∧ e = .returned (.tuple #[.agg #[.int .i64 f, .int .i64 t, .int .i64 b, .int .i64 z, .int .i64 all, .int .i64 (num ((l.drop 18).take 2) : Nat), .int .i64 (num ((l.drop 20).take 2) : Nat), .slice none 0 0], .int .i64 (num ((l.drop 22).take 2) : Nat)]) ∧ Rd w' R l 24)) := by
  have hlt := hr.lt
  have HB : Hid (∀ o : Obj, _) := fun o => pbegin R l [83, 84, 82, 67] rfl 24 (w.alloc o) (Rd.alloc hr o) hl (by omega)
  clear hr
  go_enter Try.func45, Try.ntmps45
  go_wp2_with fail
  refine (HB.out _).mono ?_
  rintro e w1 ⟨hg1, (⟨h1, rfl⟩ | ⟨h1, h2, rfl⟩ | ⟨h1, h2, f, t, b, z, all, hh, rfl, hr1⟩)⟩
  · exact ⟨rfl, gtrans (galloc _ _ _) hg1, .inl ⟨2, by unfold chunkO openG; rw [if_pos h1], rfl⟩⟩
  · exact ⟨rfl, gtrans (galloc _ _ _) hg1, .inl ⟨3, by unfold chunkO openG; rw [if_neg (by omega), if_pos h2], rfl⟩⟩
  have HO2 : Hid (chunkO l = if headOk f t b z all = true then (if num ((l.drop 20).take 2) ≤ num ((l.drop 18).take 2) ∨ all < num ((l.drop 22).take 2) then .inl 4 else .inr (f, t, b, z, all)) else .inl 4) := by
    show _ = _
    unfold chunkO openG
    rw [if_neg (by omega), if_neg (by simpa using h2), hh]
    simp only [if_true]
    unfold headOk
    cases hk : (wellHead f t b z && decide (all ≤ b)) with
    | true =>
      have : (wellHead (f : Int) t b z && decide ((all : Int) ≤ b)) = true := by simpa using hk
      rw [this]
      rfl
    | false =>
      have : (wellHead (f : Int) t b z && decide ((all : Int) ≤ b)) = false := by
        rw [← hk]
        simp
      rw [this]
      rfl
  obtain ⟨hb1, hlb1⟩ := resBox hlt hg1 (⟨rfl, rfl, rfl, Nat.le_refl _, fun _ _ _ => rfl⟩ : w1.grownBy w1 (some R))
  have c0 := boxed_cell (i := 0) hb1 rfl
  have f0 := boxed_frozen (i := 0) hb1
  have c1 := boxed_cell (i := 1) hb1 rfl
  have f1 := boxed_frozen (i := 1) hb1
  have c2 := boxed_cell (i := 2) hb1 rfl
  have f2 := boxed_frozen (i := 2) hb1
  have c3 := boxed_cell (i := 3) hb1 rfl
  have f3 := boxed_frozen (i := 3) hb1
  have c4 := boxed_cell (i := 4) hb1 rfl
  have f4 := boxed_frozen (i := 4) hb1
  have G1 : Hid (w.grownBy w1 (some R)) := gtrans (galloc _ _ _) hg1
  have R1 : Hid (Rd w1 R l 18) := hr1
  have B1 : Hid _ := hb1
  have n1 := num2_lt l 18
  have n2 := num2_lt l 20
  have n3 := num2_lt l 22
  have H1 : Hid (∀ W, Rd W R l 18 → _) := fun W h => number_ok R l 18 2 W h hl (by omega) (by omega)
  have H2 : Hid (∀ W, Rd W R l 20 → _) := fun W h => number_ok R l 20 2 W h hl (by omega) (by omega)
  have H3 : Hid (∀ W, Rd W R l 22 → _) := fun W h => number_ok R l 22 2 W h hl (by omega) (by omega)
  clear hg1 hr1 hb1 HB hh h2
  obtain ⟨nu, hnu⟩ : ∃ x, x = num ((l.drop 18).take 2) := ⟨_, rfl⟩
  obtain ⟨many, hmany⟩ : ∃ x, x = num ((l.drop 20).take 2) := ⟨_, rfl⟩
  obtain ⟨here, hhere⟩ : ∃ x, x = num ((l.drop 22).take 2) := ⟨_, rfl⟩
  rw [← hnu] at H1 n1 HO2
  rw [← hmany] at H2 n2 HO2
  rw [← hhere] at H3 n3 HO2
  have HNU : Hid _ := hnu
  have HMA : Hid _ := hmany
  have HHE : Hid _ := hhere
  clear hnu hmany hhere
  go_wp2_with fail
  obtain ⟨X1, hX1⟩ : ∃ X1, X1 = ((((w1.setCell ⟨w.heap.size, 0, none⟩ (.int .i64 f)).setCell ⟨w.heap.size, 1, none⟩ (.int .i64 t)).setCell ⟨w.heap.size, 2, none⟩ (.int .i64 b)).setCell ⟨w.heap.size, 3, none⟩ (.int .i64 z)).setCell ⟨w.heap.size, 4, none⟩ (.int .i64 all) := ⟨_, rfl⟩
  have x1 : Hid (X1.heap[w.heap.size]? = some (.cells #[.int .i64 f, .int .i64 t, .int .i64 b, .int .i64 z, .int .i64 all, .int .i64 0, .int .i64 0, .slice none 0 0] 65 (0, 0))) := by
    rw [hX1]
    exact block_set (i := 4) (block_set (i := 3) (block_set (i := 2) (block_set (i := 1) (block_set (i := 0) B1.out _) _) _) _) _
  have xr : Rd X1 R l 18 := by rw [hX1]; exact Rd.set (Rd.set (Rd.set (Rd.set (Rd.set R1.out (by omega)) (by omega)) (by omega)) (by omega)) (by omega)
  have xg : w.grownBy X1 (some R) := by rw [hX1]; exact gfresh (gfresh (gfresh (gfresh (gfresh G1.out (Nat.le_refl _)) (Nat.le_refl _)) (Nat.le_refl _)) (Nat.le_refl _)) (Nat.le_refl _)
  rw [← hX1]
  have XG : Hid _ := xg
  clear c0 c1 c2 c3 c4 f0 f1 f2 f3 f4 hX1 B1 R1 G1 xg
  refine (H1.out _ xr).mono ?_
  rintro e w2 ⟨rfl, hr2, hg2⟩
  have R2 : Hid (Rd w2 R l 20) := hr2
  have G2 : Hid (w.grownBy w2 (some R)) := gtrans XG.out hg2
  have B2 : Hid _ := box5_grown x1.out hg2 (by simp; omega)
  have c5 := boxed_cell (i := 5) B2.out rfl
  have f5 := boxed_frozen (i := 5) B2.out
  clear hr2 hg2 xr
  go_wp2_with fail
  obtain ⟨X2, hX2⟩ : ∃ X2, X2 = w2.setCell ⟨w.heap.size, 5, none⟩ (.int .i64 nu) := ⟨_, rfl⟩
  have x2 : Hid (X2.heap[w.heap.size]? = some (.cells #[.int .i64 f, .int .i64 t, .int .i64 b, .int .i64 z, .int .i64 all, .int .i64 nu, .int .i64 0, .slice none 0 0] 65 (0, 0))) := by
    rw [hX2]
    exact block_set (i := 5) B2.out _
  have xr : Rd X2 R l 20 := by rw [hX2]; exact Rd.set R2.out (by omega)
  have xg : w.grownBy X2 (some R) := by rw [hX2]; exact gfresh G2.out (Nat.le_refl _)
  rw [← hX2]
  have XG2 : Hid _ := xg
  clear c5 f5 hX2 B2 R2 G2 xg
  refine (H2.out _ xr).mono ?_
  rintro e w3 ⟨rfl, hr3, hg3⟩
  have R3 : Hid (Rd w3 R l 22) := hr3
  have G3 : Hid (w.grownBy w3 (some R)) := gtrans XG2.out hg3
  have B3 : Hid _ := box5_grown x2.out hg3 (by simp; omega)
  have c6 := boxed_cell (i := 6) B3.out rfl
  have f6 := boxed_frozen (i := 6) B3.out
  clear hr3 hg3 xr
  go_wp2_with fail
  obtain ⟨X3, hX3⟩ : ∃ X3, X3 = w3.setCell ⟨w.heap.size, 6, none⟩ (.int .i64 many) := ⟨_, rfl⟩
  have x3 : Hid (X3.heap[w.heap.size]? = some (.cells #[.int .i64 f, .int .i64 t, .int .i64 b, .int .i64 z, .int .i64 all, .int .i64 nu, .int .i64 many, .slice none 0 0] 65 (0, 0))) := by
    rw [hX3]
    exact block_set (i := 6) B3.out _
  have xr : Rd X3 R l 22 := by rw [hX3]; exact Rd.set R3.out (by omega)
  have xg : w.grownBy X3 (some R) := by rw [hX3]; exact gfresh G3.out (Nat.le_refl _)
  rw [← hX3]
  have XG3 : Hid _ := xg
  clear c6 f6 hX3 B3 R3 G3 xg
  refine (H3.out _ xr).mono ?_
  rintro e w4 ⟨rfl, hr4, hg4⟩
  have R4 : Hid (Rd w4 R l 24) := hr4
  have G4 : Hid (w.grownBy w4 (some R)) := gtrans XG3.out hg4
  have B4 : Hid (w4.heap[w.heap.size]? = some (.cells #[.int .i64 f, .int .i64 t, .int .i64 b, .int .i64 z, .int .i64 all, .int .i64 nu, .int .i64 many, .slice none 0 0] 65 (0, 0))) := box5_grown x3.out hg4 (by simp; omega)
  have c0 := boxed_cell (i := 0) B4.out rfl
  have c1 := boxed_cell (i := 1) B4.out rfl
  have c2 := boxed_cell (i := 2) B4.out rfl
  have c3 := boxed_cell (i := 3) B4.out rfl
  have c4 := boxed_cell (i := 4) B4.out rfl
  clear hr4 hg4 xr
  go_wp2_with fail
  refine (hwell_any f t b z all _).mono ?_
  rintro e w5 ⟨rfl, hb5⟩
  have G5 : Hid (w.grownBy w5 (some R)) := gtrans G4.out (gbelow hb5)
  have R5 : Hid (Rd w5 R l 24) := (hb5.block R R4.out.lt).trans R4.out
  have b5 := (hb5.block _ (Array.getElem?_eq_some_iff.1 B4.out).1).trans B4.out
  clear c0 c1 c2 c3 c4 hb5
  have c0 := boxed_cell (i := 0) (v := .int .i64 f) b5 rfl
  have c1 := boxed_cell (i := 1) (v := .int .i64 t) b5 rfl
  have c2 := boxed_cell (i := 2) (v := .int .i64 b) b5 rfl
  have c3 := boxed_cell (i := 3) (v := .int .i64 z) b5 rfl
  have c4 := boxed_cell (i := 4) (v := .int .i64 all) b5 rfl
  have c5 := boxed_cell (i := 5) (v := .int .i64 nu) b5 rfl
  have c6 := boxed_cell (i := 6) (v := .int .i64 many) b5 rfl
  have c7 := boxed_cell (i := 7) (v := .slice none 0 0) b5 rfl
  have y0 := boxed_frozen (i := 0) b5
  have y1 := boxed_frozen (i := 1) b5
  have y2 := boxed_frozen (i := 2) b5
  have y3 := boxed_frozen (i := 3) b5
  have y4 := boxed_frozen (i := 4) b5
  have y5 := boxed_frozen (i := 5) b5
  have y6 := boxed_frozen (i := 6) b5
  have y7 := boxed_frozen (i := 7) b5
  have B5 : Hid _ := b5
  clear b5
  cases hok : headOk f t b z all with
  | false =>
    have HX : Hid (chunkO l = .inl 4) := by show _ = _; rw [HO2.out, hok]; rfl
    clear hok
    go_wp2
    exact ⟨rfl, G5.out, .inl ⟨4, HX.out, rfl⟩⟩
  | true =>
    have HK : Hid (headOk f t b z all = true) := hok
    by_cases hm : many ≤ nu
    · have e1 : decide ((many : Int) ≤ nu) = true := by simp; omega
      have HX : Hid (chunkO l = .inl 4) := by show _ = _; rw [HO2.out, hok, if_pos rfl, if_pos (.inl hm)]
      clear hok
      go_wp2
      exact ⟨rfl, G5.out, .inl ⟨4, HX.out, rfl⟩⟩
    · have e1 : decide ((many : Int) ≤ nu) = false := by simp; omega
      by_cases hq : all < here
      · have e2 : decide ((all : Int) < here) = true := by simp; omega
        have HX : Hid (chunkO l = .inl 4) := by show _ = _; rw [HO2.out, hok, if_pos rfl, if_pos (.inr hq)]
        clear hok
        go_wp2
        exact ⟨rfl, G5.out, .inl ⟨4, HX.out, rfl⟩⟩
      · have e2 : decide ((all : Int) < here) = false := by simp; omega
        have HX : Hid (chunkO l = .inr (f, t, b, z, all)) := by show _ = _; rw [HO2.out, hok, if_pos rfl, if_neg (by omega)]
        clear hok
        go_wp2
        refine bodyPost_ret (v := .tuple #[.agg #[.int .i64 f, .int .i64 t, .int .i64 b, .int .i64 z, .int .i64 all, .int .i64 nu, .int .i64 many, .slice none 0 0], .int .i64 here]) (by simp [results, Try.results45, go_sem, c0, c1, c2, c3, c4, c5, c6, c7]) rfl ?_
        exact ⟨gfresh (gfresh (gfresh (gfresh (gfresh (gfresh (gfresh (gfresh (G5.out) (Nat.le_refl _)) (Nat.le_refl _)) (Nat.le_refl _)) (Nat.le_refl _)) (Nat.le_refl _)) (Nat.le_refl _)) (Nat.le_refl _)) (Nat.le_refl _), .inr ⟨f, t, b, z, all, HX.out, h1, HK.out, by rw [← HHE.out]; omega, by rw [← HHE.out, ← HMA.out, ← HNU.out], Rd.set (Rd.set (Rd.set (Rd.set (Rd.set (Rd.set (Rd.set (Rd.set (R5.out) (by omega)) (by omega)) (by omega)) (by omega)) (by omega)) (by omega)) (by omega)) (by omega)⟩⟩
end Go.Proofs.Ytkmeingnhaomaab
/- The program's readChunk. -/
namespace Go.Proofs.Ytkmeingnhaomaab
open Go.RowKit Go.Shelf

theorem chunkR_recs (l : List UInt8) : chunkR l = match chunkO l with
    | .inl k => .inl k
    | .inr (f, t, b, z, all) => match recsR b z (num ((l.drop 22).take 2)) 24 l with
      | .inl k => .inl k
      | .inr rs => .inr ⟨f, t, b, z, all, num ((l.drop 18).take 2), num ((l.drop 20).take 2), rs⟩ := by
  unfold chunkR chunkO recsR
  rcases openG [83, 84, 82, 67] 24 0 l with k | ⟨f, t, b, z, all⟩
  · rfl
  · simp only []
    by_cases h : num ((l.drop 20).take 2) ≤ num ((l.drop 18).take 2) ∨ all < num ((l.drop 22).take 2)
    · rw [if_pos h, if_pos h]
    · rw [if_neg h, if_neg h]
      simp only []
      rcases walkR b z (num ((l.drop 22).take 2)) (-1) (l.drop 24) with ⟨rs, (k | q)⟩
      · rfl
      · simp only []
        cases endR l (l.length - q.length) with
        | none => rfl
        | some k => rfl

set_option maxRecDepth 100000 in
set_option maxHeartbeats 4000000 in
theorem readChunk_any (l : List UInt8) (w : World) (hl : l.length ≤ 4611686018427387904) :
    Calls Try.prog 25 #[.string ⟨l.toArray⟩] w fun e w' => w.grownBy w' none ∧
      ((∃ k, chunkR l = .inl k ∧ e = .panicked (gave k)) ∨ (∃ c v, chunkR l = .inr c ∧ e = .returned (.agg #[.int .i64 c.f, .int .i64 c.t, .int .i64 c.b, .int .i64 c.z, .int .i64 c.all, .int .i64 c.nu, .int .i64 c.many, v]) ∧ OwnsR w.heap.size w' v c.rs)) := by
  go_enter Try.func25, Try.ntmps25
  go_wp2_with fail
  obtain ⟨W1, hW1⟩ : ∃ W1, W1 = (w.alloc (.cells #[.int .i64 0, .int .i64 0, .int .i64 0, .int .i64 0, .int .i64 0, .int .i64 0, .int .i64 0, .slice none 0 0] 65)).alloc (.cells #[.string ⟨l.toArray⟩, .int .i64 0] 74) := ⟨_, rfl⟩
  have hs1 : W1.heap.size = w.heap.size + 2 := by rw [hW1]; simp
  have hb1 : W1.heap[w.heap.size]? = some (.cells #[.int .i64 0, .int .i64 0, .int .i64 0, .int .i64 0, .int .i64 0, .int .i64 0, .int .i64 0, .slice none 0 0] 65 (0, 0)) := by rw [hW1]; exact (Below.heap_alloc _ _ _ (by simp)).trans (World.alloc_heap_new _ _)
  have hr1 : Rd W1 (w.heap.size + 1) l 0 := by
    rw [hW1]
    have h := World.alloc_heap_new (w.alloc (.cells #[.int .i64 0, .int .i64 0, .int .i64 0, .int .i64 0, .int .i64 0, .int .i64 0, .int .i64 0, .slice none 0 0] 65)) (.cells #[.string ⟨l.toArray⟩, .int .i64 0] 74)
    rw [World.size_alloc] at h
    exact h
  have hg1 : w.grownBy W1 none := by rw [hW1]; exact gallocR (galloc _ _ _) _
  rw [← hW1]
  clear hW1
  refine (chunkHead_any (w.heap.size + 1) l W1 hr1 hl).mono ?_
  clear hr1
  rintro e W2 ⟨hg2, (⟨k, hk, rfl⟩ | ⟨f, t, b, z, all, ho, h24, hok, hhe, rfl, hr2⟩)⟩
  · refine ⟨rfl, grown_fresh hg1 hg2 (by omega), .inl ⟨k, ?_, rfl⟩⟩
    rw [chunkR_recs, hk]
  have HCR : Hid (chunkR l = match recsR b z (num ((l.drop 22).take 2)) 24 l with
      | .inl k => .inl k
      | .inr rs => .inr ⟨f, t, b, z, all, num ((l.drop 18).take 2), num ((l.drop 20).take 2), rs⟩) := by
    show _ = _
    rw [chunkR_recs, ho]
  have HB2 : Hid (W2.heap[w.heap.size]? = _) := (hg2.block w.heap.size (by omega) (by simp)).trans hb1
  have HG2 : Hid (w.grownBy W2 none) := grown_fresh hg1 hg2 (by omega)
  have HR2 : Hid (Rd W2 (w.heap.size + 1) l 24) := hr2
  have hs2 : w.heap.size + 2 ≤ W2.heap.size := by have := hg2.size; omega
  have hhd := hok
  simp only [headOk, wellHead, Bool.and_eq_true, decide_eq_true_eq] at hhd
  obtain ⟨nu, hnu⟩ : ∃ x, x = num ((l.drop 18).take 2) := ⟨_, rfl⟩
  obtain ⟨many, hmany⟩ : ∃ x, x = num ((l.drop 20).take 2) := ⟨_, rfl⟩
  obtain ⟨here, hhere⟩ : ∃ x, x = num ((l.drop 22).take 2) := ⟨_, rfl⟩
  rw [← hnu, ← hmany, ← hhere] at HCR
  rw [← hhere] at hhe
  rw [← hnu, ← hmany, ← hhere]
  have hm100 : here ≤ 100 := by omega
  have hz64 : z ≤ 64 := by omega
  clear ho hg2 hg1 hr2 hb1 hok hhd hnu hmany hhere
  go_wp2_with fail
  obtain ⟨W3, hW3⟩ : ∃ W3, W3 = W2.alloc (.cells #[.int .i64 f, .int .i64 t, .int .i64 b, .int .i64 z, .int .i64 all, .int .i64 nu, .int .i64 many, .slice none 0 0] 65) := ⟨_, rfl⟩
  have hg3 : W2.grownBy W3 none := by rw [hW3]; exact galloc _ _ _
  have hc3 : W3.heap[W2.heap.size]? = some (.cells #[.int .i64 f, .int .i64 t, .int .i64 b, .int .i64 z, .int .i64 all, .int .i64 nu, .int .i64 many, .slice none 0 0] 65 (0, 0)) := by rw [hW3]; exact World.alloc_heap_new _ _
  have hs3 : W3.heap.size = W2.heap.size + 1 := by rw [hW3]; simp
  rw [← hW3]
  clear hW3
  refine (records_told (w.heap.size + 1) f t b z all here 24 l W3 (Rd.kept HR2.out hg3) h24 (by decide) hl hz64 hm100).mono ?_
  rintro e W4 ⟨fv, rfl, hg4, hC⟩
  have HC : Hid (∀ u : Unit, _) := fun _ => hC
  have G4 : Hid (w.grownBy W4 none) := gtrans HG2.out (gtrans hg3 hg4)
  have C4 : Hid (W4.heap[W2.heap.size]? = some (.cells #[.int .i64 f, .int .i64 t, .int .i64 b, .int .i64 z, .int .i64 all, .int .i64 nu, .int .i64 many, .slice none 0 0] 65 (0, 0))) := box5_grown hc3 hg4 (by simp)
  have B4 : Hid (W4.heap[w.heap.size]? = _) := box5_grown (box5_grown HB2.out hg3 (by simp)) hg4 (by simp)
  have hs4 : W2.heap.size < W4.heap.size := by have := hg4.size; omega
  clear hC hg4 hg3 hc3
  go_wp2_with fail
  refine (HC.out ()).mono ?_
  rintro e W5 ⟨hg5, (⟨k, hk, rfl⟩ | ⟨rs, v, hk, rfl, hown⟩)⟩
  · exact ⟨rfl, grown_fresh G4.out hg5 (by omega), .inl ⟨k, by rw [HCR.out, hk], rfl⟩⟩
  have HP : Hid (chunkR l = .inr ⟨f, t, b, z, all, nu, many, rs⟩) := by
    show _ = _
    rw [HCR.out, hk]
  obtain ⟨a, ln, cp, rfl⟩ : ∃ a ln cp, v = .slice a ln cp := by
    rcases hown.2 with ⟨rfl, _⟩ | ⟨g, cap, cur, rfl, _⟩
    · exact ⟨_, _, _, rfl⟩
    · exact ⟨_, _, _, rfl⟩
  have c5 := box5_grown C4.out hg5 (by simp; omega)
  have b5 := box5_grown B4.out hg5 (by simp)
  have HOW : Hid (OwnsR W4.heap.size W5 (.slice a ln cp) rs) := hown
  have G5 : Hid (w.grownBy W5 none) := grown_fresh G4.out hg5 (by omega)
  have hl5 : w.heap.size < W5.heap.size := by have := hg5.size; omega
  have d0 := boxed_cell (i := 0) c5 rfl
  have d1 := boxed_cell (i := 1) c5 rfl
  have d2 := boxed_cell (i := 2) c5 rfl
  have d3 := boxed_cell (i := 3) c5 rfl
  have d4 := boxed_cell (i := 4) c5 rfl
  have d5 := boxed_cell (i := 5) c5 rfl
  have d6 := boxed_cell (i := 6) c5 rfl
  have d7 := boxed_cell (i := 7) c5 rfl
  have df := boxed_frozen (i := 7) c5
  have r0 := boxed_cell (i := 0) b5 rfl
  have z0 := boxed_frozen (i := 0) b5
  have r1 := boxed_cell (i := 1) b5 rfl
  have z1 := boxed_frozen (i := 1) b5
  have r2 := boxed_cell (i := 2) b5 rfl
  have z2 := boxed_frozen (i := 2) b5
  have r3 := boxed_cell (i := 3) b5 rfl
  have z3 := boxed_frozen (i := 3) b5
  have r4 := boxed_cell (i := 4) b5 rfl
  have z4 := boxed_frozen (i := 4) b5
  have r5 := boxed_cell (i := 5) b5 rfl
  have z5 := boxed_frozen (i := 5) b5
  have r6 := boxed_cell (i := 6) b5 rfl
  have z6 := boxed_frozen (i := 6) b5
  have r7 := boxed_cell (i := 7) b5 rfl
  have z7 := boxed_frozen (i := 7) b5
  clear hown hg5 c5 b5 hk
  go_wp2
  refine bodyPost_ret (v := .agg #[.int .i64 f, .int .i64 t, .int .i64 b, .int .i64 z, .int .i64 all, .int .i64 nu, .int .i64 many, .slice a ln cp]) (by simp [results, Try.results25, go_sem, r0, r1, r2, r3, r4, r5, r6, r7]) rfl ?_
  have hs5 : w.heap.size < W4.heap.size := by omega
  exact ⟨gfresh (gfresh (gfresh (gfresh (gfresh (gfresh (gfresh (gfresh (gfresh G5.out (by omega)) (Nat.le_refl _)) (Nat.le_refl _)) (Nat.le_refl _)) (Nat.le_refl _)) (Nat.le_refl _)) (Nat.le_refl _)) (Nat.le_refl _)) (Nat.le_refl _), .inr ⟨⟨f, t, b, z, all, nu, many, rs⟩, _, HP.out, rfl, OwnsR.base (OwnsR.set (OwnsR.set (OwnsR.set (OwnsR.set (OwnsR.set (OwnsR.set (OwnsR.set (OwnsR.set (OwnsR.set HOW.out hs4) hs5) hs5) hs5) hs5) hs5) hs5) hs5) hs5) (by omega)⟩⟩
end Go.Proofs.Ytkmeingnhaomaab
/- Rows of chunks, eight cells each. -/
namespace Go.Proofs.Ytkmeingnhaomaab
open Go.RowKit Go.Shelf

/-- A chunk's cells, as the program lays them. -/
def pcCells (p : Ck × Value) : List Value := [.int .i64 p.1.f, .int .i64 p.1.t, .int .i64 p.1.b, .int .i64 p.1.z, .int .i64 p.1.all, .int .i64 p.1.nu, .int .i64 p.1.many, p.2]
def OwnsP (B : Nat) (w : World) (v : Value) (ps : List (Ck × Value)) : Prop := w.ownsRow B 65 8 v ps.length (ps.flatMap pcCells)
def pcZero : Ck × Value := (⟨0, 0, 0, 0, 0, 0, 0, []⟩, .slice none 0 0)
theorem Try.infoChunk : (Try.prog.info? 65).map (fun i => (i.zero, i.size, i.bytes)) = some (some (.agg #[.int .i64 0, .int .i64 0, .int .i64 0, .int .i64 0, .int .i64 0, .int .i64 0, .int .i64 0, .slice none 0 0]), 8, 80) := by kernel_rfl

theorem pcCells_length (ps : List (Ck × Value)) : (ps.flatMap pcCells).length = ps.length * 8 := by
  induction ps with
  | nil => rfl
  | cons p ps ih => rw [List.flatMap_cons, List.length_append, ih, List.length_cons]; simp [pcCells]; omega
theorem pcCells_at : ∀ (ps : List (Ck × Value)) (k : Nat) (h : k < ps.length) (j : Nat) (_ : j < 8), (ps.flatMap pcCells)[k * 8 + j]? = (pcCells ps[k])[j]?
  | p :: ps, 0, _, j, hj => by
    rw [List.flatMap_cons, List.getElem?_append_left (by simp [pcCells]; omega)]
    simp
  | p :: ps, k + 1, h, j, hj => by
    rw [List.flatMap_cons, List.getElem?_append_right (by simp [pcCells]; omega)]
    rw [show (k + 1) * 8 + j - (pcCells p).length = k * 8 + j from by simp [pcCells]; omega]
    rw [pcCells_at ps k (by simpa using h) j hj]
    rfl
/-- One after the other, from o on. -/
def seqSet (l : List Value) (o : Nat) : List Value → List Value
  | [] => l
  | y :: ys => seqSet (l.set o y) (o + 1) ys
theorem seqSet_eq : ∀ (ys l : List Value) (o : Nat), o + ys.length ≤ l.length → seqSet l o ys = l.take o ++ ys ++ l.drop (o + ys.length)
  | [], l, o, _ => by simp [seqSet]
  | y :: ys, l, o, h => by
    rw [List.length_cons] at h
    rw [seqSet, seqSet_eq ys (l.set o y) (o + 1) (by rw [List.length_set]; omega), List.take_set, List.drop_set_of_lt (by omega), List.length_cons]
    rw [List.take_succ_eq_append_getElem (by omega), List.set_append_right _ _ (by rw [List.length_take]; omega), List.length_take, Nat.min_eq_left (by omega), Nat.sub_self, List.set_cons_zero, show o + 1 + ys.length = o + (ys.length + 1) from by omega]
    simp
theorem pcCells_set (ps : List (Ck × Value)) (k : Nat) (h : k < ps.length) (p : Ck × Value) : seqSet (ps.flatMap pcCells) (k * 8) (pcCells p) = (ps.set k p).flatMap pcCells := by
  have hl := pcCells_length ps
  rw [seqSet_eq _ _ _ (by rw [hl]; show k * 8 + 8 ≤ _; omega)]
  have e1 : (ps.flatMap pcCells).take (k * 8) = (ps.take k).flatMap pcCells := by
    conv => lhs; rw [← List.take_append_drop k ps, List.flatMap_append]
    rw [List.take_append_of_le_length (by rw [pcCells_length, List.length_take]; omega), List.take_of_length_le (by rw [pcCells_length, List.length_take]; omega)]
  have e2 : (ps.flatMap pcCells).drop (k * 8 + (pcCells p).length) = (ps.drop (k + 1)).flatMap pcCells := by
    conv => lhs; rw [← List.take_append_drop (k + 1) ps, List.flatMap_append]
    have : ((ps.take (k + 1)).flatMap pcCells).length = k * 8 + (pcCells p).length := by
      rw [pcCells_length, List.length_take]
      show min (k + 1) ps.length * 8 = k * 8 + 8
      omega
    rw [← this, List.drop_left]
  rw [e1, e2, List.set_eq_take_append_cons_drop, if_pos h, List.flatMap_append, List.flatMap_cons, List.append_assoc]

theorem OwnsP.at {B : Nat} {W : World} {g l cp : Nat} {ps : List (Ck × Value)} (h : OwnsP B W (.slice (some ⟨g, 0, none⟩) l cp) ps) {k : Nat} (hk : k < ps.length) :
    ∃ cur, W.heap[g]? = some (.cells cur 65 (0, 0)) ∧ ∀ j v, (pcCells ps[k])[j]? = some v → j < 8 → cur[k * 8 + j]? = some v := by
  rcases h.2 with ⟨e0, h0⟩ | ⟨g', cap, cur, e0, hb, hg, hc, hm, hs, ht⟩
  · cases e0
  · have e1 := e0
    simp only [Value.slice.injEq, Option.some.injEq, Addr.mk.injEq] at e1
    obtain ⟨⟨rfl, -, -⟩, -, -⟩ := e1
    refine ⟨cur, hg, fun j v hv hj => ?_⟩
    have h2 : (cur.toList.take (ps.length * 8))[k * 8 + j]? = some v := by
      rw [ht, pcCells_at ps k hk j hj, hv]
    rw [List.getElem?_take_of_lt (by omega)] at h2
    simpa using h2
theorem OwnsP.set {B : Nat} {W : World} {g l cp : Nat} {ps : List (Ck × Value)} (h : OwnsP B W (.slice (some ⟨g, 0, none⟩) l cp) ps) (k : Nat) (hk : k < ps.length) (p : Ck × Value) :
    OwnsP B ((((((((W.setCell ⟨g, k * 8, none⟩ (.int .i64 p.1.f)).setCell ⟨g, k * 8 + 1, none⟩ (.int .i64 p.1.t)).setCell ⟨g, k * 8 + 2, none⟩ (.int .i64 p.1.b)).setCell ⟨g, k * 8 + 3, none⟩ (.int .i64 p.1.z)).setCell ⟨g, k * 8 + 4, none⟩ (.int .i64 p.1.all)).setCell ⟨g, k * 8 + 5, none⟩ (.int .i64 p.1.nu)).setCell ⟨g, k * 8 + 6, none⟩ (.int .i64 p.1.many)).setCell ⟨g, k * 8 + 7, none⟩ p.2) (.slice (some ⟨g, 0, none⟩) l cp) (ps.set k p) := by
  rcases h.2 with ⟨e0, h0⟩ | ⟨g', cap, cur, e0, hb, hg, hc, hm, hs, ht⟩
  · cases e0
  · have e1 := e0
    simp only [Value.slice.injEq, Option.some.injEq, Addr.mk.injEq] at e1
    obtain ⟨⟨rfl, -, -⟩, -, -⟩ := e1
    refine ⟨pcCells_length _, .inr ⟨g, cap, _, by simpa using e0, hb, block_set (block_set (block_set (block_set (block_set (block_set (block_set (block_set hg _) _) _) _) _) _) _) _, by simpa using hc, hm, by simpa using hs, ?_⟩⟩
    rw [List.length_set, ← pcCells_set ps k hk p, ← ht]
    simp only [Array.toList_setIfInBounds]
    show _ = seqSet _ _ [_, _, _, _, _, _, _, _]
    simp only [seqSet, ← List.take_set]
end Go.Proofs.Ytkmeingnhaomaab
