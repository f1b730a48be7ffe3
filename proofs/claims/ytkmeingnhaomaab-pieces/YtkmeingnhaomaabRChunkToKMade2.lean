/- RChunk, RJoinM, JoinM, KPick, KMade, KText, KInts, KData, KMade2 -/
import Derived.Test.YtkmeingnhaomaabCutMToRCanon
import Derived.Test.YtkmeingnhaomaabRWrite
import Derived.Laws.AppendOwnNone
import Derived.Test.YtkmeingnhaomaabPRead
import Derived.Test.YtkmeingnhaomaabLOwn
import Derived.Deep.RegionLaw
import Derived.ChangeSlices
/- The reference's chunk. -/
namespace Go.Proofs.Ytkmeingnhaomaab
open Go.RowKit Go.Shelf

/-- What a chunk's text says. -/
structure Ck where
  f : Nat
  t : Nat
  b : Nat
  z : Nat
  all : Nat
  nu : Nat
  many : Nat
  rs : List Rc
def chunkR (l : List UInt8) : Int ⊕ Ck :=
  match openG [83, 84, 82, 67] 24 0 l with
  | .inl k => .inl k
  | .inr (f, t, b, z, all) =>
    if num ((l.drop 20).take 2) ≤ num ((l.drop 18).take 2) ∨ all < num ((l.drop 22).take 2) then .inl 4 else
    match walkR b z (num ((l.drop 22).take 2)) (-1) (l.drop 24) with
    | (_, .inl k) => .inl k
    | (rs, .inr q) => match endR l (l.length - q.length) with
      | some k => .inl k
      | none => .inr ⟨f, t, b, z, all, num ((l.drop 18).take 2), num ((l.drop 20).take 2), rs⟩
/-- The value of a chunk. -/
def ckV (c : Ck) (v : Value) : Value := .agg #[.int .i64 c.f, .int .i64 c.t, .int .i64 c.b, .int .i64 c.z, v, .int .i64 c.all, .int .i64 c.nu, .int .i64 c.many]
def ToldK (l : List UInt8) (w : World) (e : Ending) (w' : World) : Prop :=
  w.grownBy w' none ∧
    ((∃ k, chunkR l = .inl k ∧ e = .returned (.tuple #[ckV ⟨0, 0, 0, 0, 0, 0, 0, []⟩ (.slice none 0 0), .int .i64 k])) ∨
     (∃ c v, chunkR l = .inr c ∧ e = .returned (.tuple #[ckV c v, .int .i64 0]) ∧ OwnsR w.heap.size w' v c.rs))

theorem num2_lt (l : List UInt8) (p : Nat) : num ((l.drop p).take 2) < 65536 := by
  have h := num_lt ((l.drop p).take 2)
  have h2 : ((l.drop p).take 2).length ≤ 2 := by simp; omega
  have h3 : 256 ^ ((l.drop p).take 2).length ≤ 256 ^ 2 := Nat.pow_le_pow_right (by decide) h2
  omega

theorem box8z {W : World} {k : Nat} {t : TypeId} {cs : Array Value} (h : W.heap[k]? = some (.cells cs t (0, 0))) : ∀ i, W.frozen? ⟨k, i, none⟩ = false := fun _ => boxed_frozen h

theorem gfresh8 {w W : World} {k : Nat} (h : w.grownBy W none) (hk : w.heap.size ≤ k) (v0 v1 v2 v3 v4 v5 v6 v7 : Value) : w.grownBy ((((((((W.setCell ⟨k, 0, none⟩ v0).setCell ⟨k, 1, none⟩ v1).setCell ⟨k, 2, none⟩ v2).setCell ⟨k, 3, none⟩ v3).setCell ⟨k, 4, none⟩ v4).setCell ⟨k, 5, none⟩ v5).setCell ⟨k, 6, none⟩ v6).setCell ⟨k, 7, none⟩ v7) none :=
  gfresh (gfresh (gfresh (gfresh (gfresh (gfresh (gfresh (gfresh h hk) hk) hk) hk) hk) hk) hk) hk
theorem OwnsR.set8 {B : Nat} {W : World} {v : Value} {rs : List Rc} (h : OwnsR B W v rs) {k : Nat} (hk : k < B) (v0 v1 v2 v3 v4 v5 v6 v7 : Value) : OwnsR B ((((((((W.setCell ⟨k, 0, none⟩ v0).setCell ⟨k, 1, none⟩ v1).setCell ⟨k, 2, none⟩ v2).setCell ⟨k, 3, none⟩ v3).setCell ⟨k, 4, none⟩ v4).setCell ⟨k, 5, none⟩ v5).setCell ⟨k, 6, none⟩ v6).setCell ⟨k, 7, none⟩ v7) v rs :=
  (((((((h.set hk).set hk).set hk).set hk).set hk).set hk).set hk).set hk

end Go.Proofs.Ytkmeingnhaomaab
/- The reference's Join. -/
namespace Go.Proofs.Ytkmeingnhaomaab
open Go.RowKit Go.Shelf

/-- A list of texts that is handed in. -/
def Txs (B : Nat) (W : World) (sv : Value) (ts : List (List UInt8)) : Prop :=
  (ts = [] ∧ ∃ a cap, sv = .slice a 0 cap) ∨ ∃ b off cap, sv = .slice (some ⟨b, off, none⟩) ts.length cap ∧ b < B ∧ ∀ j (h : j < ts.length), W.cell? ⟨b, off + j, none⟩ = some (.string ⟨ts[j].toArray⟩)
theorem Txs.moved {W W' : World} {sv : Value} {ts : List (List UInt8)} (h : Txs W.heap.size W sv ts) (hb : Below W.heap.size W W') : Txs W'.heap.size W' sv ts := by
  rcases h with h | ⟨b, off, cap, e, hlt, hc⟩
  · exact .inl h
  · exact .inr ⟨b, off, cap, e, Nat.lt_of_lt_of_le hlt hb.size, fun j hj => (hb.cell (p := ⟨b, _, none⟩) hlt).trans (hc j hj)⟩
theorem Txs.slice {B : Nat} {W : World} {sv : Value} {ts : List (List UInt8)} (h : Txs B W sv ts) : ∃ a cap, sv = .slice a ts.length cap := by
  rcases h with ⟨rfl, a, cap, e⟩ | ⟨b, off, cap, e, _⟩
  · exact ⟨a, cap, e⟩
  · exact ⟨_, cap, e⟩
theorem Txs.at {B : Nat} {W : World} {a : Option Addr} {l cap : Nat} {ts : List (List UInt8)} (h : Txs B W (.slice a l cap) ts) {k : Nat} (hk : k < ts.length) :
    ∃ b off, a = some ⟨b, off, none⟩ ∧ b < B ∧ W.cell? ⟨b, off + k, none⟩ = some (.string ⟨ts[k].toArray⟩) := by
  rcases h with ⟨rfl, _⟩ | ⟨b, off, cap', e, hlt, hc⟩
  · simp at hk
  · simp only [Value.slice.injEq] at e
    exact ⟨b, off, e.1, hlt, hc k hk⟩

/-- The chunks of texts. -/
def chunksOf : List (List UInt8) → Int ⊕ List Ck
  | [] => .inr []
  | t :: ts => match chunkR t with
    | .inl k => .inl k
    | .inr c => match chunksOf ts with
      | .inl k => .inl k
      | .inr cs => .inr (c :: cs)
theorem chunksOf_ok : ∀ (xs : List (List UInt8)) (cs : List Ck) (t : List UInt8) (c : Ck), chunksOf xs = .inr cs → chunkR t = .inr c → chunksOf (xs ++ [t]) = .inr (cs ++ [c])
  | [], cs, t, c, h, hc => by
    simp only [chunksOf, Sum.inr.injEq] at h
    subst h
    simp [chunksOf, hc]
  | x :: xs, cs, t, c, h, hc => by
    rw [List.cons_append, chunksOf]
    rw [chunksOf] at h
    cases hx : chunkR x with
    | inl k => rw [hx] at h; cases h
    | inr c0 =>
      rw [hx] at h
      simp only [] at h
      cases h2 : chunksOf xs with
      | inl k => rw [h2] at h; cases h
      | inr cs0 =>
        rw [h2] at h
        simp only [Sum.inr.injEq] at h
        subst h
        simp only [chunksOf_ok xs cs0 t c h2 hc, List.cons_append]
theorem chunksOf_bad : ∀ (xs : List (List UInt8)) (cs : List Ck) (t : List UInt8) (ys : List (List UInt8)) (k : Int), chunksOf xs = .inr cs → chunkR t = .inl k → chunksOf (xs ++ t :: ys) = .inl k
  | [], cs, t, ys, k, h, hc => by simp [chunksOf, hc]
  | x :: xs, cs, t, ys, k, h, hc => by
    rw [List.cons_append, chunksOf]
    rw [chunksOf] at h
    cases hx : chunkR x with
    | inl k => rw [hx] at h; cases h
    | inr c0 =>
      rw [hx] at h
      simp only [] at h
      cases h2 : chunksOf xs with
      | inl k => rw [h2] at h; cases h
      | inr cs0 => simp only [chunksOf_bad xs cs0 t ys k h2 hc]
theorem chunksOf_length : ∀ (xs : List (List UInt8)) (cs : List Ck), chunksOf xs = .inr cs → cs.length = xs.length
  | [], cs, h => by
    simp only [chunksOf, Sum.inr.injEq] at h
    subst h
    rfl
  | x :: xs, cs, h => by
    rw [chunksOf] at h
    cases hx : chunkR x with
    | inl k => rw [hx] at h; cases h
    | inr c0 =>
      rw [hx] at h
      simp only [] at h
      cases h2 : chunksOf xs with
      | inl k => rw [h2] at h; cases h
      | inr cs0 =>
        rw [h2] at h
        simp only [Sum.inr.injEq] at h
        subst h
        simp [chunksOf_length xs cs0 h2]
theorem chunkR_err (l : List UInt8) (k : Int) (h : chunkR l = .inl k) : 2 ≤ k ∧ k ≤ 8 := by
  unfold chunkR at h
  split at h
  · rename_i k' ho
    simp only [Sum.inl.injEq] at h
    rw [← h]
    exact openG_err _ _ _ l k' ho
  · rename_i f t b z all ho
    split at h
    · simp only [Sum.inl.injEq] at h
      omega
    · split at h
      · rename_i k' hw
        simp only [Sum.inl.injEq] at h
        rw [← h]
        exact walk_err b z _ (-1) _ hw
      · split at h
        · rename_i k' he
          simp only [Sum.inl.injEq] at h
          rw [← h]
          exact endR_err l _ k' he
        · cases h

/-- What Join answers, purely. -/
def sameHead (a c : Ck) : Bool := decide (c.f = a.f ∧ c.t = a.t ∧ c.b = a.b ∧ c.z = a.z ∧ c.all = a.all ∧ c.many = a.many)
def gathered (cs : List Ck) (n : Nat) : List Rc := (cs.filter (fun c => c.nu == n)).flatMap Ck.rs
def gatherAll (cs : List Ck) (n : Nat) : List Rc := (List.range n).flatMap (gathered cs)
def joinOk (a : Ck) (cs : List Ck) : Bool :=
  decide (cs.length = a.many) && cs.all (sameHead a) && (List.range a.many).all (fun n => decide ((cs.filter (fun c => c.nu == n)).length = 1)) && (recsOk a.b a.z (-1) (gatherAll cs a.many) && decide ((gatherAll cs a.many).length = a.all))
theorem joinOk_iff (a : Ck) (cs : List Ck) : joinOk a cs = true ↔ cs.length = a.many ∧ (∀ c ∈ cs, sameHead a c = true) ∧ (∀ n, n < a.many → (cs.filter (fun c => c.nu == n)).length = 1) ∧ recsOk a.b a.z (-1) (gatherAll cs a.many) = true ∧ (gatherAll cs a.many).length = a.all := by
  simp only [joinOk, Bool.and_eq_true, decide_eq_true_eq, List.all_eq_true, List.mem_range, and_assoc]
def joinC : Int ⊕ List Ck → Int ⊕ (Nat × Nat × Nat × Nat × List Rc)
  | .inl k => .inl k
  | .inr [] => .inl 1
  | .inr (a :: cs) => if joinOk a (a :: cs) = true then .inr (a.f, a.t, a.b, a.z, gatherAll (a :: cs) a.many) else .inl 13
def joinR (ts : List (List UInt8)) : Int ⊕ (Nat × Nat × Nat × Nat × List Rc) := if ts.length < 1 ∨ 100 < ts.length then .inl 1 else joinC (chunksOf ts)
def ToldJ (ts : List (List UInt8)) (w : World) (e : Ending) (w' : World) : Prop :=
  w.grownBy w' none ∧
    ((∃ k, joinR ts = .inl k ∧ e = .returned (.tuple #[.string ⟨#[]⟩, .int .i64 k])) ∨
     (∃ f t b z rs, joinR ts = .inr (f, t, b, z, rs) ∧ e = .returned (.tuple #[.string ⟨(serB f t b z rs).toArray⟩, .int .i64 0])))

/-- Chunks in a row that a call owns. -/
def ckCells (p : Ck × Value) : List Value := [.int .i64 p.1.f, .int .i64 p.1.t, .int .i64 p.1.b, .int .i64 p.1.z, p.2, .int .i64 p.1.all, .int .i64 p.1.nu, .int .i64 p.1.many]
theorem ckCells_length (ps : List (Ck × Value)) : (ps.flatMap ckCells).length = ps.length * 8 := by
  induction ps with
  | nil => rfl
  | cons p ps ih => rw [List.flatMap_cons, List.length_append, ih, List.length_cons]; simp [ckCells]; omega
theorem ckCells_at : ∀ (ps : List (Ck × Value)) (k : Nat) (h : k < ps.length) (j : Nat) (_ : j < 8), (ps.flatMap ckCells)[k * 8 + j]? = (ckCells ps[k])[j]?
  | p :: ps, 0, _, j, hj => by
    rw [List.flatMap_cons, List.getElem?_append_left (by simp [ckCells]; omega)]
    simp
  | p :: ps, k + 1, h, j, hj => by
    rw [List.flatMap_cons, List.getElem?_append_right (by simp [ckCells]; omega)]
    rw [show (k + 1) * 8 + j - (ckCells p).length = k * 8 + j from by simp [ckCells]; omega]
    rw [ckCells_at ps k (by simpa using h) j hj]
    rfl
theorem OwnsR.beside {B : Nat} {W W' : World} {v : Value} {rs : List Rc} (h : OwnsR B W v rs) {o : Option Nat} (hg : W.grownBy W' o) (hne : ∀ k cs fr, W.heap[k]? = some (.cells cs 35 fr) → some k ≠ o) : OwnsR B W' v rs := by
  refine World.ownsRow.kept h hg ?_
  rcases h.2 with ⟨rfl, _⟩ | ⟨g, cap, cur, rfl, _, hg2, _⟩
  · exact .inl rfl
  · exact .inr (hne g cur (0, 0) hg2)
theorem recVals_append (xs ys : List Rc) : recVals (xs ++ ys) = recVals xs ++ recVals ys := by simp [recVals]
theorem recVals_one (rs : List Rc) : ∀ u ∈ recVals rs, u.oneCell' = true := by
  intro u hu
  simp only [recVals, List.mem_flatMap] at hu
  obtain ⟨r, _, hr⟩ := hu
  simp at hr
  rcases hr with rfl | rfl | rfl <;> rfl
theorem wpList_append_recs (w : World) {ops : Array Oper} {rest : List Oper} {o : Oper} {a : Act} {Q : Exit → Act → World → Prop} (hgd : o.guard = none) (s x : Operand)
    (ho : o.op = .call { callee := .builtin .append, args := #[s, x], argTypes := #[25, 25] })
    (B : Nat) (v : Value) (rs : List Rc) (B' : Nat) (xv : Value) (ys : List Rc) (hs : a.eval s = v) (hown : OwnsR B w v rs) (hx : a.eval x = xv) (hys : OwnsR B' w xv ys) (hl : rs.length + ys.length ≤ 200000) (hB : B ≤ w.heap.size)
    (h : ∀ v' w', OwnsR B w' v' (rs ++ ys) → w.grownBy w' v.ownBlock → wpList Try.prog ops Q rest (a.put o.dst v') w') : wpList Try.prog ops Q (o :: rest) a w := by
  obtain ⟨i0, hi, hz0, hz1, hz2⟩ := info_parts Try.infoRec
  have hys' : w.ownsRow B' 35 3 xv ys.length (recVals ys) := hys
  rcases hys'.2 with ⟨rfl, h0⟩ | ⟨g, cap, cur, rfl, _⟩
  · obtain rfl : ys = [] := List.eq_nil_of_length_eq_zero h0
    refine wpList_append_own_none hgd s x 25 ho B 35 i0 3 Try.underlying25 hi v rs.length (recVals rs) hs hown hx ?_
    exact h v w (by rw [List.append_nil]; exact hown) ⟨rfl, rfl, rfl, Nat.le_refl _, fun _ _ _ => rfl⟩
  · have hml : rs.length + ys.length ≤ maxLen := Nat.le_trans hl (by decide)
    refine wpList_append_own w hgd s x 25 ho B 35 i0 _ 3 32 Try.underlying25 hi hz0 hz1 hz2 rfl (by decide) _ _ _ hs hown ⟨g, 0, none⟩ ys.length cap (recVals ys) hx hys'.1 (fun j u hj => hys'.cells (g := g) rfl j u hj) (recVals_one ys) hml (by omega) hB ?_
    intro v' w' ho' hg' _
    refine h v' w' ?_ hg'
    unfold OwnsR
    rw [recVals_append, List.length_append]
    exact ho'
/-- What is known of a chunk that was read. -/
structure CkOk (c : Ck) : Prop where
  head : wellHead c.f c.t c.b c.z = true
  all : c.all ≤ 100
  many : c.many ≤ 65535
  nu : c.nu ≤ 65535
  len : c.rs.length ≤ 100
  recs : recsOk c.b c.z (-1) c.rs = true
theorem openG_ok (M : List UInt8) (least : Nat) (l : List UInt8) (f t b z m : Nat) (h : openG M least 0 l = .inr (f, t, b, z, m)) : wellHead f t b z = true ∧ m ≤ b := by
  unfold openG at h
  rw [if_pos (rfl : (0 : Nat) = 0)] at h
  split at h
  · cases h
  split at h
  · cases h
  split at h
  · rename_i hc
    simp only [Sum.inr.injEq] at h
    rw [h] at hc
    simpa using hc
  · cases h
theorem chunkR_ok (l : List UInt8) (c : Ck) (h : chunkR l = .inr c) : CkOk c := by
  unfold chunkR at h
  split at h
  · cases h
  · rename_i f t b z all ho
    obtain ⟨hw, hm⟩ := openG_ok _ _ l f t b z all ho
    obtain ⟨h1, h2, h3, h4, h5, h6, h7, h8, h9⟩ : (0 : Int) ≤ f ∧ (f : Int) ≤ 2147483647 ∧ (1 : Int) ≤ t ∧ (t : Int) ≤ 2147483647 ∧ (f : Int) ≠ t ∧ (1 : Int) ≤ b ∧ (b : Int) ≤ 100 ∧ (1 : Int) ≤ z ∧ (z : Int) ≤ 64 := of_decide_eq_true hw
    split at h
    · cases h
    · rename_i hc
      split at h
      · cases h
      · rename_i rs q hwk
        split at h
        · cases h
        · simp only [Sum.inr.injEq] at h
          subst h
          have n18 := num2_lt l 18
          have n20 := num2_lt l 20
          obtain ⟨_, e2⟩ := walk_bytes b z _ (-1) _ hwk
          have hln := recsOk_length b z rs e2 (by omega)
          exact ⟨hw, by show all ≤ 100; omega, by show num _ ≤ 65535; omega, by show num _ ≤ 65535; omega, by show rs.length ≤ 100; omega, e2⟩
theorem chunksOf_mem : ∀ (xs : List (List UInt8)) (cs : List Ck), chunksOf xs = .inr cs → ∀ c ∈ cs, CkOk c
  | [], cs, h, c, hc => by
    simp only [chunksOf, Sum.inr.injEq] at h
    subst h
    cases hc
  | x :: xs, cs, h, c, hc => by
    rw [chunksOf] at h
    cases hx : chunkR x with
    | inl k => rw [hx] at h; cases h
    | inr c0 =>
      rw [hx] at h
      simp only [] at h
      cases h2 : chunksOf xs with
      | inl k => rw [h2] at h; cases h
      | inr cs0 =>
        rw [h2] at h
        simp only [Sum.inr.injEq] at h
        subst h
        rcases List.mem_cons.1 hc with rfl | hc
        · exact chunkR_ok x _ hx
        · exact chunksOf_mem xs cs0 h2 c hc
theorem gathered_length (n : Nat) : ∀ (cs : List Ck), (∀ c ∈ cs, CkOk c) → (gathered cs n).length ≤ 100 * (cs.filter (fun c => c.nu == n)).length
  | [], _ => by simp [gathered]
  | c :: cs, h => by
    have ih := gathered_length n cs (fun c hc => h c (by simp [hc]))
    have hc := (h c (by simp)).len
    unfold gathered at *
    by_cases e : (c.nu == n) = true
    · rw [List.filter_cons_of_pos (by simpa using e), List.flatMap_cons, List.length_append, List.length_cons]
      omega
    · rw [List.filter_cons_of_neg (by simpa using e)]
      exact ih
theorem gatherAll_succ (cs : List Ck) (n : Nat) : gatherAll cs (n + 1) = gatherAll cs n ++ gathered cs n := by
  unfold gatherAll
  rw [List.range_succ, List.flatMap_append]
  simp
theorem gathered_take (cs : List Ck) (n j : Nat) (h : j < cs.length) : gathered (cs.take (j + 1)) n = gathered (cs.take j) n ++ (if cs[j].nu == n then cs[j].rs else []) ∧ ((cs.take (j + 1)).filter (fun c => c.nu == n)).length = ((cs.take j).filter (fun c => c.nu == n)).length + (if cs[j].nu == n then 1 else 0) := by
  rw [List.take_succ_eq_append_getElem h]
  unfold gathered
  rw [List.filter_append, List.flatMap_append, List.length_append]
  by_cases e : (cs[j].nu == n) = true
  · rw [List.filter_cons_of_pos (by simpa using e), if_pos e, if_pos e]
    simp
  · rw [List.filter_cons_of_neg (by simpa using e), if_neg e, if_neg e]
    simp

end Go.Proofs.Ytkmeingnhaomaab
/- Join, purely: the chunks sorted by their numbers. -/
namespace Go.Proofs.Ytkmeingnhaomaab
open Go.RowKit Go.Shelf

theorem chunkR_nu (l : List UInt8) (c : Ck) (h : chunkR l = .inr c) : c.nu < c.many := by
  unfold chunkR at h
  split at h
  · cases h
  · split at h
    · cases h
    · rename_i hn
      split at h
      · cases h
      · split at h
        · cases h
        · simp only [Sum.inr.injEq] at h
          rw [← h]
          show num ((l.drop 18).take 2) < num ((l.drop 20).take 2)
          omega
theorem chunksOf_nu : ∀ (xs : List (List UInt8)) (cs : List Ck), chunksOf xs = .inr cs → ∀ c ∈ cs, c.nu < c.many
  | [], cs, h, c, hc => by
    simp only [chunksOf, Sum.inr.injEq] at h
    subst h
    simp at hc
  | x :: xs, cs, h, c, hc => by
    rw [chunksOf] at h
    cases hx : chunkR x with
    | inl k => rw [hx] at h; cases h
    | inr c0 =>
      rw [hx] at h
      simp only [] at h
      cases h2 : chunksOf xs with
      | inl k => rw [h2] at h; cases h
      | inr cs0 =>
        rw [h2] at h
        simp only [Sum.inr.injEq] at h
        subst h
        rcases List.mem_cons.1 hc with rfl | hc
        · exact chunkR_nu x _ hx
        · exact chunksOf_nu xs cs0 h2 c hc

/-- In ascending order and each number once: each stands at its number. -/
theorem asc_ge : ∀ (ds : List Ck) (s : Nat), ds.Pairwise (fun a b => a.nu < b.nu) → (∀ c ∈ ds, s ≤ c.nu) → ∀ (k : Nat) (c : Ck), ds[k]? = some c → s + k ≤ c.nu
  | [], _, _, _, k, c, h => by simp at h
  | d :: ds, s, hp, hs, 0, c, h => by
    simp only [List.getElem?_cons_zero, Option.some.injEq] at h
    subst h
    exact hs d (by simp)
  | d :: ds, s, hp, hs, k + 1, c, h => by
    rw [List.getElem?_cons_succ] at h
    rw [List.pairwise_cons] at hp
    have := asc_ge ds (s + 1) hp.2 (fun c hc => by have := hp.1 c hc; have := hs d (by simp); omega) k c h
    omega
theorem asc_le (ds : List Ck) (N : Nat) (hp : ds.Pairwise (fun a b => a.nu < b.nu)) (hN : ∀ c ∈ ds, c.nu < N) : ∀ (k : Nat) (c : Ck), ds[k]? = some c → c.nu + (ds.length - k) ≤ N := by
  induction ds with
  | nil => intro k c h; simp at h
  | cons d ds ih =>
    rw [List.pairwise_cons] at hp
    intro k c h
    cases k with
    | zero =>
      simp only [List.getElem?_cons_zero, Option.some.injEq] at h
      subst h
      cases ds with
      | nil => have := hN d (by simp); simp; omega
      | cons e es =>
        have h1 := ih hp.2 (fun c hc => hN c (by simp at hc ⊢; exact .inr hc)) 0 e rfl
        have h2 := hp.1 e (by simp)
        simp only [List.length_cons] at h1 ⊢
        omega
    | succ k =>
      rw [List.getElem?_cons_succ] at h
      have h1 := ih hp.2 (fun c hc => hN c (List.mem_cons_of_mem _ hc)) k c h
      simp only [List.length_cons]
      omega
theorem asc_at (ds : List Ck) (hp : ds.Pairwise (fun a b => a.nu < b.nu)) (hN : ∀ c ∈ ds, c.nu < ds.length) (k : Nat) (c : Ck) (h : ds[k]? = some c) : c.nu = k := by
  have h1 := asc_ge ds 0 hp (fun _ _ => Nat.zero_le _) k c h
  have h2 := asc_le ds ds.length hp hN k c h
  have h3 := (List.getElem?_eq_some_iff.1 h).1
  omega
theorem once_ne : ∀ (ds : List Ck), (∀ c ∈ ds, (ds.filter (fun x => x.nu == c.nu)).length ≤ 1) → ds.Pairwise (fun a b => a.nu ≠ b.nu)
  | [], _ => List.Pairwise.nil
  | d :: ds, h => by
    rw [List.pairwise_cons]
    refine ⟨fun e he hne => ?_, once_ne ds fun c hc => ?_⟩
    · have h1 := h d (by simp)
      rw [List.filter_cons, if_pos (by simp), List.length_cons] at h1
      have : e ∈ ds.filter (fun x => x.nu == d.nu) := List.mem_filter.2 ⟨he, by simp [hne]⟩
      have := List.length_pos_of_mem this
      omega
    · have h1 := h c (by simp [hc])
      rw [List.filter_cons] at h1
      split at h1
      · rw [List.length_cons] at h1; omega
      · exact h1
/-- Each at its number: of each number just that one. -/
theorem filter_at (ds : List Ck) (h : ∀ (k : Nat) (c : Ck), ds[k]? = some c → c.nu = k) (n : Nat) (c : Ck) (hc : ds[n]? = some c) : ds.filter (fun x => x.nu == n) = [c] := by
  obtain ⟨hn, rfl⟩ := List.getElem?_eq_some_iff.1 hc
  have e : ds = ds.take n ++ (ds[n] :: ds.drop (n + 1)) := by rw [← List.drop_eq_getElem_cons hn, List.take_append_drop]
  have h1 : (ds.take n).filter (fun x => x.nu == n) = [] := by
    rw [List.filter_eq_nil_iff]
    intro a ha
    obtain ⟨i, hi, rfl⟩ := List.mem_iff_getElem.1 ha
    rw [List.length_take] at hi
    have := h i _ (List.getElem?_eq_getElem (by omega : i < ds.length))
    rw [List.getElem_take]
    simp
    omega
  have h2 : (ds.drop (n + 1)).filter (fun x => x.nu == n) = [] := by
    rw [List.filter_eq_nil_iff]
    intro a ha
    obtain ⟨i, hi, rfl⟩ := List.mem_iff_getElem.1 ha
    rw [List.length_drop] at hi
    have := h (n + 1 + i) _ (List.getElem?_eq_getElem (by omega : n + 1 + i < ds.length))
    rw [List.getElem_drop]
    simp
    omega
  have h3 := h n _ (List.getElem?_eq_getElem hn)
  conv => lhs; rw [e]
  rw [List.filter_append, h1, List.nil_append, List.filter_cons, if_pos (by simp [h3]), h2]

/-- The sorted chunks are just those of one stream. -/
def wholeC (ds : List Ck) : Prop := ∀ (k : Nat) (c : Ck), ds[k]? = some c → (∃ a, ds[0]? = some a ∧ (c.f = a.f ∧ c.t = a.t ∧ c.b = a.b ∧ c.z = a.z ∧ c.all = a.all)) ∧ c.many = ds.length ∧ c.nu = k

theorem whole_gather {cs ds : List Ck} (hp : ds.Perm cs) (h : wholeC ds) (n : Nat) (c : Ck) (hc : ds[n]? = some c) : cs.filter (fun x => x.nu == n) = [c] := by
  have h1 := filter_at ds (fun k c hk => (h k c hk).2.2) n c hc
  have h2 := hp.filter (fun x => x.nu == n)
  rw [h1] at h2
  exact (List.perm_singleton.1 h2.symm)
theorem gather_all {cs ds : List Ck} (hp : ds.Perm cs) (h : wholeC ds) : gatherAll cs ds.length = ds.flatMap Ck.rs := by
  unfold gatherAll
  rw [List.flatMap_def, List.flatMap_def]
  congr 1
  apply List.ext_getElem
  · simp
  · intro i h1 h2
    rw [List.length_map] at h2
    rw [List.getElem_map, List.getElem_map, List.getElem_range]
    unfold gathered
    rw [whole_gather hp h i _ (List.getElem?_eq_getElem h2)]
    simp
theorem whole_ok {cs ds : List Ck} (a : Ck) (ha : a ∈ cs) (hp : ds.Perm cs) (h : wholeC ds) (hm : ∀ c, ds[0]? = some c → recsOk c.b c.z (-1) (ds.flatMap Ck.rs) = true ∧ (ds.flatMap Ck.rs).length = c.all) : joinOk a cs = true := by
  obtain ⟨i, hi, hia⟩ := List.mem_iff_getElem.1 (hp.mem_iff.2 ha)
  obtain ⟨⟨a0, h0, e1, e2, e3, e4, e5⟩, e6, e7⟩ := h i a (by rw [List.getElem?_eq_getElem hi, hia])
  have hl := hp.length_eq
  rw [joinOk_iff, e6, gather_all hp h, e3, e4, e5]
  refine ⟨hl.symm, fun c hc => ?_, fun n hn => ?_, (hm a0 h0).1, (hm a0 h0).2⟩
  · obtain ⟨j, hj, hjc⟩ := List.mem_iff_getElem.1 (hp.mem_iff.2 hc)
    obtain ⟨⟨a1, h1, d1, d2, d3, d4, d5⟩, d6, d7⟩ := h j c (by rw [List.getElem?_eq_getElem hj, hjc])
    rw [h0] at h1
    cases h1
    unfold sameHead
    exact decide_eq_true ⟨by omega, by omega, by omega, by omega, by omega, by omega⟩
  · rw [whole_gather hp h n _ (List.getElem?_eq_getElem hn)]
    rfl
theorem ok_whole {cs ds : List Ck} (a : Ck) (ha : a ∈ cs) (hp : ds.Perm cs) (hs : ds.Pairwise (fun a b => a.nu ≤ b.nu)) (hnu : ∀ c ∈ cs, c.nu < c.many) (hok : joinOk a cs = true) : wholeC ds ∧ ∃ c, ds[0]? = some c ∧ recsOk c.b c.z (-1) (ds.flatMap Ck.rs) = true ∧ (ds.flatMap Ck.rs).length = c.all := by
  obtain ⟨h1, h2, h3, h4, h5⟩ := (joinOk_iff a cs).1 hok
  have hl := hp.length_eq
  have hsame : ∀ c ∈ ds, c.f = a.f ∧ c.t = a.t ∧ c.b = a.b ∧ c.z = a.z ∧ c.all = a.all ∧ c.many = a.many := fun c hc => of_decide_eq_true (h2 c (hp.mem_iff.1 hc))
  have hlt : ∀ c ∈ ds, c.nu < ds.length := fun c hc => by
    have := hnu c (hp.mem_iff.1 hc)
    have := (hsame c hc).2.2.2.2.2
    omega
  have hne : ds.Pairwise (fun a b => a.nu ≠ b.nu) := once_ne ds fun c hc => by
    have := h3 c.nu (by have := hlt c hc; omega)
    rw [(hp.filter (fun x => x.nu == c.nu)).length_eq]
    omega
  have hasc : ds.Pairwise (fun a b => a.nu < b.nu) := (hs.and hne).imp (fun ⟨h, h'⟩ => by omega)
  have hat := asc_at ds hasc hlt
  have hpos : 0 < ds.length := by rw [hl]; exact List.length_pos_of_mem ha
  have hw : wholeC ds := fun k c hk => by
    have hc : c ∈ ds := List.mem_of_getElem? hk
    obtain ⟨c1, c2, c3, c4, c5, c6⟩ := hsame c hc
    obtain ⟨d1, d2, d3, d4, d5, d6⟩ := hsame ds[0] (List.getElem_mem hpos)
    exact ⟨⟨ds[0], List.getElem?_eq_getElem hpos, by omega, by omega, by omega, by omega, by omega⟩, by omega, hat k c hk⟩
  obtain ⟨d1, d2, d3, d4, d5, d6⟩ := hsame ds[0] (List.getElem_mem hpos)
  refine ⟨hw, ds[0], List.getElem?_eq_getElem hpos, ?_, ?_⟩
  · rw [d3, d4, ← gather_all hp hw, hl, h1]
    exact h4
  · rw [d5, ← gather_all hp hw, hl, h1]
    exact h5
theorem join_good {cs ds : List Ck} (hp : ds.Perm cs) (h : wholeC ds) (d : Ck) (hd : ds[0]? = some d) (h1 : recsOk d.b d.z (-1) (ds.flatMap Ck.rs) = true) (h2 : (ds.flatMap Ck.rs).length = d.all) : joinC (.inr cs) = .inr (d.f, d.t, d.b, d.z, ds.flatMap Ck.rs) := by
  have hpos : 0 < ds.length := (List.getElem?_eq_some_iff.1 hd).1
  cases cs with
  | nil => have := hp.length_eq; rw [List.length_nil] at this; omega
  | cons a cs =>
    have hok : joinOk a (a :: cs) = true := whole_ok a (by simp) hp h (fun c hc => by rw [hd] at hc; cases hc; exact ⟨h1, h2⟩)
    obtain ⟨i, hi, hia⟩ := List.mem_iff_getElem.1 (hp.mem_iff.2 (by simp : a ∈ a :: cs))
    obtain ⟨⟨a0, h0, e1, e2, e3, e4, e5⟩, e6, e7⟩ := h i a (by rw [List.getElem?_eq_getElem hi, hia])
    rw [hd] at h0
    cases h0
    show (if joinOk a (a :: cs) = true then _ else _) = _
    rw [if_pos hok, e6, gather_all hp h, e1, e2, e3, e4]
theorem join_bad {cs ds : List Ck} (hp : ds.Perm cs) (hs : ds.Pairwise (fun a b => a.nu ≤ b.nu)) (hnu : ∀ c ∈ cs, c.nu < c.many) (h1 : 1 ≤ cs.length) (h : ¬ (wholeC ds ∧ ∃ c, ds[0]? = some c ∧ recsOk c.b c.z (-1) (ds.flatMap Ck.rs) = true ∧ (ds.flatMap Ck.rs).length = c.all)) : joinC (.inr cs) = .inl 13 := by
  cases cs with
  | nil => simp at h1
  | cons a cs =>
    show (if joinOk a (a :: cs) = true then _ else _) = _
    rw [if_neg (fun hok => h (ok_whole a (by simp) hp hs hnu hok))]
end Go.Proofs.Ytkmeingnhaomaab
/- strandkeep's pick, nth and shape. -/
namespace Go.Proofs.Ytkmeingnhaomaab
open Go.RowKit

/-- An int as there are. -/
def I64 (c : Int) : Prop := -9223372036854775808 ≤ c ∧ c ≤ 9223372036854775807
/-- Which of n things. -/
def pickN (c : Int) (n : Nat) : Nat := (if c < 0 then (-(c + 1)) else c).toNat % n

theorem pickN_lt (c : Int) (n : Nat) (hn : 0 < n) : pickN c n < n := Nat.mod_lt _ hn

set_option maxRecDepth 100000 in
theorem pick_any (c : Int) (n : Nat) (w : World) (hc : I64 c) (h0 : 0 < n) (hn : n ≤ 2147483647) :
    Calls Try.prog 9 #[.int .i64 c, .int .i64 n] w fun e w' => e = .returned (.int .i64 (pickN c n : Nat)) ∧ w' = w := by
  obtain ⟨hc1, hc2⟩ := hc
  go_enter Try.func9, Try.ntmps9
  by_cases hlt : c < 0
  · obtain ⟨m, rfl⟩ : ∃ m : Nat, c = -(m : Int) - 1 := ⟨(-(c + 1)).toNat, by omega⟩
    have e : (pickN (-(m : Int) - 1) n : Int) = (m : Int) % n := by
      unfold pickN
      rw [if_pos hlt, Int.natCast_emod]
      congr 1
      omega
    rw [e]
    go_wp2
    go_ret
    exact ⟨rfl, rfl⟩
  · obtain ⟨m, rfl⟩ := Int.eq_ofNat_of_zero_le (show 0 ≤ c by omega)
    have e : (pickN (m : Int) n : Int) = (m : Int) % n := by
      unfold pickN
      rw [if_neg hlt, Int.natCast_emod]
      rfl
    rw [e]
    go_wp2
    go_ret
    exact ⟨rfl, rfl⟩

/-- A list of ints that lies below B. -/
def Ints (B : Nat) (W : World) (v : Value) (xs : List Int) : Prop :=
  (xs = [] ∧ ∃ a cap, v = .slice a 0 cap) ∨ ∃ b o cap, v = .slice (some ⟨b, o, none⟩) xs.length cap ∧ b < B ∧ ∀ j (h : j < xs.length), W.cell? ⟨b, o + j, none⟩ = some (.int .i64 xs[j])
theorem Ints.below {B : Nat} {W W' : World} {v : Value} {xs : List Int} (h : Ints B W v xs) (hb : Below B W W') : Ints B W' v xs := by
  rcases h with h | ⟨b, o, cap, e, hlt, hc⟩
  · exact .inl h
  · exact .inr ⟨b, o, cap, e, hlt, fun j hj => (hb.cell (p := ⟨b, o + j, none⟩) hlt).trans (hc j hj)⟩
theorem Ints.slice {B : Nat} {W : World} {v : Value} {xs : List Int} (h : Ints B W v xs) : ∃ a cap, v = .slice a xs.length cap := by
  rcases h with ⟨rfl, a, cap, e⟩ | ⟨b, o, cap, e, _⟩
  · exact ⟨a, cap, e⟩
  · exact ⟨_, cap, e⟩

set_option maxRecDepth 100000 in
theorem nth_any (B : Nat) (v : Value) (xs : List Int) (i : Nat) (w : World) (h : Ints B w v xs) (_hi : i ≤ 1000) (hl : xs.length ≤ 9223372036854775807) :
    Calls Try.prog 11 #[v, .int .i64 i] w fun e w' => e = .returned (.int .i64 (xs.getD i 0)) ∧ w' = w := by
  obtain ⟨a, cap, rfl⟩ := h.slice
  go_enter Try.func11, Try.ntmps11
  by_cases hlt : i < xs.length
  · obtain ⟨b, o, rfl, hc⟩ : ∃ b o, a = some ⟨b, o, none⟩ ∧ w.cell? ⟨b, o + i, none⟩ = some (.int .i64 xs[i]) := by
      rcases h with ⟨rfl, _⟩ | ⟨b, o, cap', e, _, hc⟩
      · simp at hlt
      · simp only [Value.slice.injEq] at e
        exact ⟨b, o, e.1, hc i hlt⟩
    rw [List.getD_eq_getElem?_getD, List.getElem?_eq_getElem hlt, Option.getD_some]
    clear h
    go_wp2
    go_ret
    exact ⟨rfl, rfl⟩
  · rw [List.getD_eq_getElem?_getD, List.getElem?_eq_none (by omega), Option.getD_none]
    clear h
    go_wp2
    go_ret
    exact ⟨rfl, rfl⟩

theorem pick_at (c n : Int) (m : Nat) (w : World) (hc : I64 c) (e : n = m) (h0 : 0 < m) (hn : m ≤ 2147483647) :
    Calls Try.prog 9 #[.int .i64 c, .int .i64 n] w fun e w' => e = .returned (.int .i64 (pickN c m : Nat)) ∧ w' = w := by
  subst e
  exact pick_any c m w hc h0 hn

set_option maxRecDepth 100000 in
set_option maxHeartbeats 1000000 in
theorem shape_any (x y : Int) (w : World) (hx : I64 x) (hy : I64 y) :
    Calls Try.prog 5 #[.int .i64 x, .int .i64 y] w fun e w' => e = .returned (.tuple #[.int .i64 (pickN x 100 + 1 : Nat), .int .i64 (pickN y 64 + 1 : Nat)]) ∧ w' = w := by
  have H1 : Hid (∀ u : Unit, Calls Try.prog 9 #[.int .i64 x, .int .i64 100] w fun e w' => e = .returned (.int .i64 (pickN x 100 : Nat)) ∧ w' = w) := fun _ => pick_at x 100 100 w hx rfl (by omega) (by omega)
  have H2 : Hid (∀ u : Unit, Calls Try.prog 9 #[.int .i64 y, .int .i64 64] w fun e w' => e = .returned (.int .i64 (pickN y 64 : Nat)) ∧ w' = w) := fun _ => pick_at y 64 64 w hy rfl (by omega) (by omega)
  have h1 := pickN_lt x 100 (by omega)
  have h2 := pickN_lt y 64 (by omega)
  generalize pickN x 100 = n1 at *
  generalize pickN y 64 = n2 at *
  go_enter Try.func5, Try.ntmps5
  go_wp2_with fail
  go_at_call 9
  refine (H1.out ()).mono ?_
  rintro _ _ ⟨rfl, rfl⟩
  go_wp2_with fail
  go_at_call 9
  refine (H2.out ()).mono ?_
  rintro _ _ ⟨rfl, rfl⟩
  go_wp2
  refine bodyPost_ret (results_tmp2 rfl _ _ _) rfl ?_
  refine ⟨?_, rfl⟩
  simp
  omega

set_option maxRecDepth 100000 in
set_option maxHeartbeats 1000000 in
theorem data_any (c : Int) (z : Nat) (w : World) (hc : -4611686018427387904 ≤ c ∧ c ≤ 4611686018427387904) (hz : z ≤ 64) :
    Calls Try.prog 13 #[.int .i64 c, .int .i64 z] w fun e w' => ∃ bs : List UInt8, bs.length = z ∧ e = .returned (.string ⟨bs.toArray⟩) ∧ w.grownBy w' none := by
  obtain ⟨hc1, hc2⟩ := hc
  go_enter Try.func13, Try.ntmps13
  go_wp2
  go_loopw [5, 6] (fun b i wr => ∃ (k : Nat) (bs : List UInt8), k ≤ z ∧ i = .int .i64 k ∧ bs.length = k ∧ OwnsB w.heap.size wr b bs ∧ w.grownBy wr none) (fun _ i _ => z - (intOf i).toNat)
  case atStart => exact ⟨0, [], Nat.zero_le _, rfl, rfl, World.ownsRow_nil _ _ _ _, drew_grown w 0 _⟩
  case round =>
    obtain ⟨k, bs, hk, rfl, hbl, hown, hg⟩ := hrel
    by_cases hlt : k < z
    · have H1 : Hid (∀ W, _) := fun W => pick_at (c + k) 26 26 W ⟨by omega, by omega⟩ rfl (by omega) (by omega)
      have h1 := pickN_lt (c + k) 26 (by omega)
      have HR : Hid (∀ x : Int, x = ((97 + pickN (c + k) 26 : Nat) : Int) → ∀ v' w1, w1.ownsRow w.heap.size 5 1 v' (bs.length + 1) (byteVals bs ++ [.int .u8 x]) → OwnsB w.heap.size w1 v' (bs ++ [UInt8.ofNat (97 + pickN (c + k) 26)])) := by
        intro x hx v' w1 ho
        unfold OwnsB
        rw [byteVals_append, List.length_append]
        rw [hx] at ho
        have e : ((UInt8.ofNat (97 + pickN (c + k) 26)).toNat : Int) = ((97 + pickN (c + k) 26 : Nat) : Int) := by
          rw [UInt8.toNat_ofNat']
          omega
        unfold byteVals at *
        rw [List.map_cons, List.map_nil, e]
        exact ho
      have HO : Hid (wr.ownsRow w.heap.size 5 1 _ bs.length (byteVals bs)) := hown
      have HG : Hid _ := hg
      have hsz : w.heap.size ≤ wr.heap.size := hg.size
      clear hown hg
      generalize pickN (c + k) 26 = n1 at *
      obtain ⟨i0, hi, hz0, hz1, hz2⟩ := info_parts Try.infoU8
      go_wp2_with (first
        | (go_at_call 9; refine (H1.out _).mono ?_; rintro _ _ ⟨rfl, rfl⟩)
        | (at_builtin; refine wpList_append_own_at _ rfl _ _ 69 rfl w.heap.size 5 i0 (.int .u8 0) 1 1 Try.underlying69 hi hz0 hz1 hz2 rfl (by decide) _ _ _ rfl (HO.out.alloc _) ⟨_, 0, none⟩ 1 1 [_] rfl rfl (cell_one_new _ _ _) (by intro u hu; simp at hu; subst hu; rfl) (by unfold maxLen; omega) (by omega) (by simp; omega) ?_; intro v' w1 hown' hgrow _ hat))
      refine ⟨⟨k + 1, _, by omega, by go_num, by simp; omega, HR.out _ (by go_num) _ _ hown', ?_⟩, by simp [intOf]; omega⟩
      have g1 := Grew.of_alloc hgrow hat
      exact ⟨g1.by_.os.trans HG.out.os, g1.by_.tape.trans HG.out.tape, g1.by_.output.trans HG.out.output, Nat.le_trans HG.out.size g1.by_.size, fun j hj hne => (g1.by_.block j (Nat.lt_of_lt_of_le hj HG.out.size) (fun e => by have := OwnsB.base (l := bs) HO.out j e.symm; omega)).trans (HG.out.block j hj hne)⟩
    · have HC := conv_own hown
      obtain rfl : k = z := by omega
      go_wp2
      go_ret
      exact ⟨bs, hbl, rfl, hg⟩
end Go.Proofs.Ytkmeingnhaomaab
/- strandkeep's made and text. -/
namespace Go.Proofs.Ytkmeingnhaomaab
open Go.RowKit Go.Shelf

/-- 'append(l, r)' at a step of a region that draws its order. -/
theorem step_rec {w : World} {ops : Array Oper} {o : Oper} {a : Act} {K : Act → World → Prop} {Q : Exit → Act → World → Prop} {E : Prop} (hgd : o.guard = none) (sl x : Operand)
    (ho : o.op = .call { callee := .builtin .append, args := #[sl, x], argTypes := #[25, 25] })
    (B : Nat) (v : Value) (rs : List Rc) (r : Rc) (nb : Nat) (hs : a.eval sl = v) (hown : OwnsR B w v rs) (hx : a.eval x = .slice (some ⟨nb, 0, none⟩) 1 1)
    (hc : ∀ j u, [Value.bool r.free, .int .i64 r.block, .string r.data][j]? = some u → w.cell? (Addr.add ⟨nb, 0, none⟩ j) = some u) (hl : rs.length ≤ 2000) (hB : B ≤ w.heap.size)
    (h : ∀ v' w', OwnsR B w' v' (rs ++ [r]) → w.grownBy w' v.ownBlock → K (a.put o.dst v') w') :
    if Region.wanted o (yielded ops a.tmps) = true then Oper.wp Try.prog o a w K Q else E := by
  obtain ⟨i0, hi, hz0, hz1, hz2⟩ := info_parts Try.infoRec
  have hml : rs.length + 1 ≤ maxLen := Nat.le_trans (show rs.length + 1 ≤ 2001 by omega) (by decide)
  refine step_append_lies w hgd sl x 25 ho B 35 i0 _ 3 32 Try.underlying25 hi hz0 hz1 hz2 rfl (by decide) v rs.length (recVals rs) hs hown ⟨nb, 0, none⟩ 1 1 _ hx rfl hc (by simp [Value.oneCell']) (by decide) hml (by omega) hB w.heap.size rfl ?_
  intro g cap w1 ho1 hg _ _
  exact h _ w1 (ownsR_snoc ho1) hg

theorem made_step {w wr w3 : World} {v0 v1 v2 v3 sv v' : Value} {rs rs' : List Rc} {cs : Array Value}
    (h0 : wr.heap[w.heap.size]? = some (.cells cs 27 (0, 0))) (h1 : wr.heap[w.heap.size + 1]? = some (.cells #[v0, v1, v2, v3, sv] 27 (0, 0))) (ho : OwnsR (w.heap.size + 2) wr sv rs) (hw : w.grownBy wr none)
    (hg : wr.grownBy w3 sv.ownBlock) (ho' : OwnsR (w.heap.size + 2) w3 v' rs') :
    (w3.setCell ⟨w.heap.size + 1, 4, none⟩ v').heap[w.heap.size]? = some (.cells cs 27 (0, 0)) ∧ (w3.setCell ⟨w.heap.size + 1, 4, none⟩ v').heap[w.heap.size + 1]? = some (.cells #[v0, v1, v2, v3, v'] 27 (0, 0)) ∧ OwnsR (w.heap.size + 2) (w3.setCell ⟨w.heap.size + 1, 4, none⟩ v') v' rs' ∧ w.grownBy (w3.setCell ⟨w.heap.size + 1, 4, none⟩ v') none := by
  have hge := ho.own_ge
  have hn : ∀ k, k < w.heap.size + 2 → some k ≠ sv.ownBlock := fun k hk e => by have := hge k e.symm; omega
  have l0 := (Array.getElem?_eq_some_iff.1 h0).1
  have l1 := (Array.getElem?_eq_some_iff.1 h1).1
  have b0 := (hg.block w.heap.size l0 (hn _ (by omega))).trans h0
  have b1 := (hg.block (w.heap.size + 1) l1 (hn _ (by omega))).trans h1
  refine ⟨?_, ?_, ho'.set (by omega), ?_⟩
  · exact (Below.heap_setCell _ _ _ _ (by show w.heap.size ≠ w.heap.size + 1; omega)).trans b0
  · exact block_set (i := 4) b1 v'
  · have g3 : w.grownBy w3 none := ⟨hg.os.trans hw.os, hg.tape.trans hw.tape, hg.output.trans hw.output, Nat.le_trans hw.size hg.size, fun j hj hne => (hg.block j (Nat.lt_of_lt_of_le hj hw.size) (hn _ (by omega))).trans (hw.block j hj hne)⟩
    exact gfresh g3 (by omega)

theorem made_kept {W w2 w3 : World} {B k : Nat} {sv : Value} {rs : List Rc} {o : Obj} (h : W.heap[k]? = some o) (hk : k < B) (ho : OwnsR B W sv rs) (h2 : W.grownBy w2 none) (hg : w2.grownBy w3 sv.ownBlock) : w3.heap[k]? = some o := by
  have hl := (Array.getElem?_eq_some_iff.1 h).1
  refine (hg.block k (Nat.lt_of_lt_of_le hl h2.size) (fun e => ?_)).trans ((h2.block k hl (by simp)).trans h)
  have := ho.own_ge k e.symm
  omega
theorem gwiden {A B C : World} {r : Option Nat} (h : A.grownBy B none) (k : B.grownBy C r) : A.grownBy C r :=
  ⟨k.os.trans h.os, k.tape.trans h.tape, k.output.trans h.output, Nat.le_trans h.size k.size, fun j hj hne => (k.block j (Nat.lt_of_lt_of_le hj h.size) hne).trans (h.block j hj (by simp))⟩

theorem quo4 (c : Int) (h1 : -9223372036854775808 ≤ c) (h2 : c ≤ 9223372036854775807) : -4611686018427387904 ≤ IntKind.i64.wrap (c.tdiv 4) ∧ IntKind.i64.wrap (c.tdiv 4) ≤ 4611686018427387904 := by
  rw [IntKind.wrap_i64]
  have : -2305843009213693952 ≤ c.tdiv 4 ∧ c.tdiv 4 ≤ 2305843009213693952 := by
    rcases Int.le_total 0 c with h | h
    · rw [Int.tdiv_eq_ediv_of_nonneg h]
      omega
    · have e : c.tdiv 4 = -((-c) / 4) := by
        conv => lhs; rw [show c = -(-c) by omega]
        rw [Int.neg_tdiv, Int.tdiv_eq_ediv_of_nonneg (by omega)]
      rw [e]
      omega
  omega
theorem keepM {wr W W' : World} {k : Nat} {v : Value} {r : Option Nat} (HM : ∀ W', wr.grownBy W' r → W'.cell? ⟨k, 4, none⟩ = some v ∧ W'.frozen? ⟨k, 4, none⟩ = false) (hS : W.cell? ⟨k, 4, none⟩ = some v ∧ W.frozen? ⟨k, 4, none⟩ = false ∧ wr.grownBy W r) (hg : W.grownBy W' r) :
    W'.cell? ⟨k, 4, none⟩ = some v ∧ W'.frozen? ⟨k, 4, none⟩ = false ∧ wr.grownBy W' r :=
  have h := gtrans hS.2.2 hg
  ⟨(HM W' h).1, (HM W' h).2, h⟩

set_option maxRecDepth 100000 in
set_option maxHeartbeats 4000000 in
theorem made_any (f t : Int) (n z : Nat) (v : Value) (xs : List Int) (wh : Bool) (w : World) (hv : Ints w.heap.size w v xs) (hxs : ∀ x ∈ xs, I64 x) (hxl : xs.length ≤ 9223372036854775807) (hn : n ≤ 100) (hz : z ≤ 64) :
    Calls Try.prog 6 #[.int .i64 f, .int .i64 t, .int .i64 n, .int .i64 z, v, .bool wh] w fun e w' => ∃ sv rs, e = .returned (.agg #[.int .i64 f, .int .i64 t, .int .i64 n, .int .i64 z, sv]) ∧ recsOk n z (-1) rs = true ∧ (wh = true → ∀ r ∈ rs, r.free = false) ∧ OwnsR w.heap.size w' sv rs ∧ w.grownBy w' none := by
  obtain ⟨a, cap, rfl⟩ := hv.slice
  have HV : Hid (∀ W, w.grownBy W none → Ints w.heap.size W (.slice a xs.length cap) xs) := fun W hW => hv.below ⟨hW.os, hW.tape, hW.output, hW.size, fun k hk => hW.block k hk (by simp)⟩
  have HX : Hid (∀ k, I64 (xs.getD k 0)) := by
    intro k
    rw [List.getD_eq_getElem?_getD]
    by_cases hk : k < xs.length
    · rw [List.getElem?_eq_getElem hk, Option.getD_some]
      exact hxs _ (List.getElem_mem hk)
    · rw [List.getElem?_eq_none (by omega), Option.getD_none]
      exact ⟨by omega, by omega⟩
  clear hv hxs
  go_enter Try.func6, Try.ntmps6
  go_wp2
  go_loopw [14] (fun b wr => ∃ (k : Nat) (sv : Value) (rs : List Rc), k ≤ n ∧ b = .int .i64 k ∧ wr.heap[w.heap.size]? = some (.cells #[.int .i64 0, .int .i64 0, .int .i64 0, .int .i64 0, .slice none 0 0] 27 (0, 0)) ∧ wr.heap[w.heap.size + 1]? = some (.cells #[.int .i64 f, .int .i64 t, .int .i64 n, .int .i64 z, sv] 27 (0, 0)) ∧ OwnsR (w.heap.size + 2) wr sv rs ∧ recsOk n z (-1) rs = true ∧ lastOf (-1) rs < k ∧ (wh = true → ∀ r ∈ rs, r.free = false) ∧ w.grownBy wr none) (fun b _ => n - (intOf b).toNat)
  case atStart =>
    obtain ⟨h1, h2, hB⟩ := two_boxes w #[.int .i64 0, .int .i64 0, .int .i64 0, .int .i64 0, .slice none 0 0] #[.int .i64 f, .int .i64 t, .int .i64 n, .int .i64 z, .slice none 0 0] 27
    exact ⟨0, _, [], Nat.zero_le _, rfl, h1, h2, World.ownsRow_nil _ _ _ _, rfl, by simp [lastOf], (fun _ r hr => by cases hr), gbelow hB⟩
  case round =>
    obtain ⟨k, sv, rs, hk, rfl, h0, h1, ho, hok, hla, hfr, hg⟩ := hrel
    obtain ⟨sa, sl, sc, rfl⟩ := ho.slice
    by_cases hlt : k < n
    · have HI := HX.out k
      have HN : Hid (∀ u : Unit, _) := fun _ => nth_any w.heap.size _ xs k wr (HV.out _ hg) (by omega) hxl
      generalize xs.getD k 0 = c at *
      have HP : Hid (∀ u : Unit, _) := fun _ => pick_at c 4 4 wr HI rfl (by omega) (by omega)
      have hp := pickN_lt c 4 (by omega)
      generalize pickN c 4 = p at *
      have hrl := recsOk_length n z rs hok (by omega)
      obtain ⟨c0, c1, c2, c3, c4, f0, f1, f2, f3, f4⟩ := box5 h1
      have H0 : Hid _ := h0
      have H1 : Hid _ := h1
      have HO : Hid _ := ho
      have HG : Hid _ := hg
      have HK : Hid (∀ fr d, (d.size : Int) = (if fr then 0 else (z : Int)) → (wh = true → fr = false) → recsOk n z (-1) (rs ++ [⟨fr, (k : Int), d⟩]) = true ∧ lastOf (-1) (rs ++ [⟨fr, (k : Int), d⟩]) < ((k + 1 : Nat) : Int) ∧ (wh = true → ∀ r ∈ rs ++ [⟨fr, (k : Int), d⟩], r.free = false)) := by
        intro fr d hd hf
        refine ⟨?_, ?_, ?_⟩
        · rw [recsOk_append, hok, Bool.true_and, recsOk, Bool.and_eq_true]
          exact ⟨decide_eq_true ⟨hla, by simp only; omega, hd⟩, rfl⟩
        · rw [lastOf_snoc]
          simp only
          omega
        · intro hw r hr
          rcases List.mem_append.1 hr with h | h
          · exact hfr hw r h
          · rw [List.mem_singleton.1 h]
            exact hf hw
      clear h0 h1 ho hg
      go_wp2_with fail
      go_at_call 11
      refine (HN.out ()).mono ?_
      rintro _ w1 ⟨rfl, rfl⟩
      go_wp2_with fail
      go_at_call 9
      refine (HP.out ()).mono ?_
      rintro _ wr ⟨rfl, rfl⟩
      clear HP HN
      have hz2 : w.heap.size + 1 < wr.heap.size := (Array.getElem?_eq_some_iff.1 H1.out).1
      obtain rfl | rfl | h23 : p = 0 ∨ p = 1 ∨ (p = 2 ∨ p = 3) := by omega
      · go_wp2
        exact ⟨⟨k + 1, _, rs, by omega, by go_num, H0.out, H1.out, HO.out, hok, by omega, hfr, HG.out⟩, by simp [intOf]; omega⟩
      · cases wh
        · go_wp2_with (at_builtin; refine wpList_append_rec _ rfl _ _ rfl (w.heap.size + 2) _ rs rfl (OwnsR.alloc HO.out _) ⟨_, 0, none⟩ ⟨true, k, ⟨#[]⟩⟩ rfl (cells_new2 _ _ _ _ (by simp)) (by omega) (by simp; omega) ?_; intro v' w3 hO3 hg3 _ _; obtain ⟨a3, l3, c3', rfl⟩ := hO3.slice; have G3 : Hid _ := hg3; have O3 : Hid _ := hO3; obtain ⟨-, -, -, -, d4, -, -, -, -, z4⟩ := box5 (made_kept H1.out (by omega) HO.out (World.grownBy_alloc _ _ none) hg3); clear hg3 hO3)
          obtain ⟨p0, p1, p2, p3⟩ := made_step H0.out H1.out HO.out HG.out (gwiden (World.grownBy_alloc _ _ none) G3.out) O3.out
          obtain ⟨q0, q1, q2⟩ := HK.out true ⟨#[]⟩ rfl (fun h => by cases h)
          exact ⟨⟨k + 1, _, _, by omega, by go_num, p0, p1, p2, q0, q1, q2, p3⟩, by simp [intOf]; omega⟩
        · go_wp2
          exact ⟨⟨k + 1, _, rs, by omega, by go_num, H0.out, H1.out, HO.out, hok, by omega, hfr, HG.out⟩, by simp [intOf]; omega⟩
      · have HD : Hid (∀ c', -4611686018427387904 ≤ c' ∧ c' ≤ 4611686018427387904 → ∀ W, _) := fun c' hc' W => data_any c' z W hc' hz
        have HM : Hid (∀ W', wr.drew.grownBy W' (Value.slice sa sl sc).ownBlock → W'.cell? ⟨w.heap.size + 1, 4, none⟩ = some (.slice sa sl sc) ∧ W'.frozen? ⟨w.heap.size + 1, 4, none⟩ = false) := by
          intro W' hW'
          have hb := made_kept H1.out (by omega) HO.out (w2 := wr.drew) ⟨rfl, rfl, rfl, Nat.le_refl _, fun _ _ _ => rfl⟩ hW'
          obtain ⟨-, -, -, -, d4, -, -, -, -, z4⟩ := box5 hb
          exact ⟨d4, z4⟩
        have HB2 : Hid (∀ W' o, wr.drew.grownBy W' none → w.heap.size + 2 ≤ (World.alloc W' o).heap.size) := fun W' o hW' => by
          have h1 : wr.heap.size ≤ W'.heap.size := hW'.size
          simp
          omega
        have HO2 : Hid (∀ W' o, wr.drew.grownBy W' none → OwnsR (w.heap.size + 2) (World.alloc W' o) (.slice sa sl sc) rs) := fun W' o hW' => OwnsR.alloc (OwnsR.kept (W := wr.drew) HO.out hW') o
        have HC2 : Hid (∀ (W : World) (d : ByteArray) j u, [Value.bool false, .int .i64 k, .string d][j]? = some u → (W.alloc (.cells #[.bool false, .int .i64 k, .string d] 35)).cell? (Addr.add ⟨W.heap.size, 0, none⟩ j) = some u) := fun W d => cells_new2 W [.bool false, .int .i64 k, .string d] 35 _ rfl
        have hr2 : rs.length ≤ 2000 := by omega
        have HW : Hid (wr.grownBy wr.drew none) := ⟨rfl, rfl, rfl, Nat.le_refl _, fun _ _ _ => rfl⟩
        obtain ⟨hi1, hi2⟩ := HI
        have HQ : -4611686018427387904 ≤ IntKind.i64.wrap (c.tdiv 4) ∧ IntKind.i64.wrap (c.tdiv 4) ≤ 4611686018427387904 := quo4 c hi1 hi2
        rcases h23 with rfl | rfl
        all_goals
          go_wp2_with fail
          go_region_law (first | (refine step_rec ?_ (.tmp 46) (.tmp 53) ?_ (w.heap.size + 2) (.slice sa sl sc) rs ⟨false, k, ⟨bs.toArray⟩⟩ w2.heap.size ?_ ?_ ?_ ?_ ?_ ?_ ?_; rfl; rfl; rfl; exact HO2.out _ _ G2.out; rfl; exact HC2.out _ _; exact hr2; exact HB2.out _ _ G2.out; intro v' w3 hO3 hg3; obtain ⟨a3, l3, c3', rfl⟩ := hO3.slice; have O3 : Hid _ := hO3; have G3 : Hid _ := hg3; obtain ⟨e4, y4⟩ := HM.out _ (gwiden (gtrans G2.out (World.grownBy_alloc _ _ none)) hg3); clear hO3 hg3) | (go_simp; go_at_call 13; refine (HD.out _ HQ _).mono ?_; rintro e w2 ⟨bs, hbs, rfl, hg2⟩; have G2 : Hid _ := hg2; obtain ⟨d4, z4⟩ := HM.out _ (gnone hg2); have hl2 : w.heap.size + 1 < w2.heap.size := Nat.lt_of_lt_of_le hz2 hg2.size; clear hg2; dsimp only))
          all_goals
            go_wp2
            obtain ⟨p0, p1, p2, p3⟩ := made_step H0.out H1.out HO.out HG.out (gwiden HW.out (gwiden (gtrans G2.out (World.grownBy_alloc _ _ none)) G3.out)) O3.out
            obtain ⟨q0, q1, q2⟩ := HK.out false ⟨bs.toArray⟩ (by simp [ByteArray.size, hbs]) (fun _ => rfl)
            exact ⟨⟨k + 1, _, _, by omega, by go_num, p0, p1, p2, q0, q1, q2, p3⟩, by simp [intOf]; omega⟩
    · obtain rfl : k = n := by omega
      obtain ⟨c0, c1, c2, c3, c4, f0, f1, f2, f3, f4⟩ := box5 h1
      obtain ⟨d0, d1, d2, d3, d4, g0, g1, g2, g3, g4⟩ := box5 h0
      have hz1 : w.heap.size < wr.heap.size := (Array.getElem?_eq_some_iff.1 h0).1
      have HO : Hid _ := ho
      have HG : Hid _ := hg
      clear h0 h1 ho hg
      go_wp2
      refine bodyPost_ret (v := .agg #[.int .i64 f, .int .i64 t, .int .i64 k,   .int .i64 z, .slice sa sl sc]) (by simp [results, Try.results6, go_sem, d0, d1, d2, d3, d4]) rfl ?_
      exact ⟨_, rs, rfl, hok, hfr, OwnsR.base (OwnsR.set (OwnsR.set (OwnsR.set (OwnsR.set (OwnsR.set HO.out (by omega)) (by omega)) (by omega)) (by omega)) (by omega)) (by omega), gfresh (gfresh (gfresh (gfresh (gfresh HG.out (by omega)) (by omega)) (by omega)) (by omega)) (by omega)⟩
end Go.Proofs.Ytkmeingnhaomaab
/- strandkeep's text. -/
namespace Go.Proofs.Ytkmeingnhaomaab
open Go.RowKit Go.Shelf

theorem serB_length (f t b z : Nat) (rs : List Rc) : (serB f t b z rs).length = 22 + (recsB rs).length := by
  simp [serB, aheadB, headB_length, lowB_length]
  omega
theorem serB_small (f t b z : Nat) (rs : List Rc) (hb : b ≤ 100) (hz : z ≤ 64) (ho : recsOk b z (-1) rs = true) : 22 ≤ (serB f t b z rs).length ∧ (serB f t b z rs).length ≤ 10000 := by
  have h1 := recsB_length b z (by omega) rs (-1) ho
  have h2 := recsOk_length b z rs ho (by omega)
  rw [serB_length]
  omega

set_option maxRecDepth 100000 in
set_option maxHeartbeats 1000000 in
theorem text_good (f t b z : Nat) (sv : Value) (rs : List Rc) (w : World) (hR : Recs w.heap.size w sv rs) (hw : wellHead f t b z = true) (ho : recsOk b z (-1) rs = true) :
    Calls Try.prog 7 #[.agg #[.int .i64 f, .int .i64 t, .int .i64 b, .int .i64 z, sv]] w fun e w' => e = .returned (.string ⟨(serB f t b z rs).toArray⟩) ∧ w.grownBy w' none := by
  obtain ⟨a, c, rfl⟩ := hR.slice
  have HS : Hid (∀ W, Below w.heap.size w W → _) := fun W hb => pser_good f t b z (.slice a rs.length c) rs W (hR.moved hb) hw ho
  clear hR hw ho
  generalize serB f t b z rs = L at *
  go_enter Try.func7, Try.ntmps7
  go_wp2_with fail
  refine (HS.out _ ((Below.refl _ _).alloc (Nat.le_refl _) _)).mono ?_
  rintro e w3 ⟨rfl, hb3⟩
  have G3 : Hid _ := hb3
  clear hb3
  go_wp2
  go_ret
  exact ⟨rfl, gtrans (galloc _ _ _) (gbelow G3.out)⟩
end Go.Proofs.Ytkmeingnhaomaab
/- Lists of ints and ints, opened. -/
namespace Go.Proofs.Ytkmeingnhaomaab
open Go.ChangeShapes Go.WideShapes Go.ChangeAt Go.RowKit

theorem wf_i64 {n : Int} (h : (Lit.int .i64 n).wf = true) : I64 n := by
  simp only [Lit.wf, Bool.and_eq_true, decide_eq_true_eq] at h
  exact ⟨h.1, h.2⟩
theorem getD_at (zs : List Int) (j : Nat) (h : j < zs.length) : zs.getD j 0 = zs[j] := by
  rw [List.getD_eq_getElem?_getD, List.getElem?_eq_getElem h, Option.getD_some]
set_option maxRecDepth 100000 in
theorem open_nums {H : Type} {enc : TypeId × Value → H} {W : World} {base : Nat} {v : Value} {d : DataW H} {p : List MemPlace} (hv : Value.okWide Try.prog W .any base 22 v) (h : DataW.Trod enc Try.prog W 0 (fun _ => true) true 22 v d p) :
    ∃ xs : List Int, Ints W.heap.size W v xs ∧ (∀ x ∈ xs, I64 x) ∧ xs.length ≤ 9223372036854775807 := by
  obtain ⟨a, len, cap, rfl⟩ := okWide_slice Try.underlying22 hv
  obtain ⟨fuel, hf⟩ := h
  rcases open_ints Try.underlying22 Try.underlying3 Try.cellsInt hf with ⟨e, _⟩ | ⟨a', len', cap', zs, e, _, hl, hm, hzl, _, hc, hwf⟩
  · simp [Value.cells] at e
    obtain ⟨rfl, rfl, rfl⟩ := e
    exact ⟨[], .inl ⟨rfl, none, 0, rfl⟩, (fun x hx => by cases hx), by simp⟩
  · simp [Value.cells] at e
    obtain ⟨rfl, rfl, rfl⟩ := e
    simp only [if_true] at hzl
    have hl2 : (zs.take len).length = len := by rw [List.length_take]; omega
    have hm' : cap ≤ 9223372036854775807 := hm
    refine ⟨zs.take len, ?_, fun x hx => wf_i64 (hwf x (List.mem_of_mem_take hx)), by omega⟩
    by_cases h0 : len = 0
    · subst h0
      exact .inl ⟨by simp, some a', cap, rfl⟩
    · have c0 := hc 0 (by omega)
      obtain ⟨b, o, sp⟩ := a'
      obtain rfl : sp = none := by
        have := World.cell?_spot c0
        simpa [Addr.add] using this
      refine .inr ⟨b, o, cap, by rw [hl2], World.block_lt_of_cell? W _ c0, fun j hj => ?_⟩
      rw [hl2] at hj
      have := hc j (by omega)
      rw [Addr.add_lit, getD_at zs j (by omega)] at this
      rw [List.getElem_take]
      exact this
end Go.Proofs.Ytkmeingnhaomaab
/- strandkeep's data and made, as functions. -/
namespace Go.Proofs.Ytkmeingnhaomaab
open Go.RowKit Go.Shelf

/-- The bytes that data makes. -/
def dataR (c : Int) (k : Nat) : List UInt8 := (List.range k).map fun (i : Nat) => UInt8.ofNat (97 + pickN (c + i) 26)
theorem dataR_succ (c : Int) (k : Nat) : dataR c (k + 1) = dataR c k ++ [UInt8.ofNat (97 + pickN (c + k) 26)] := by
  unfold dataR
  rw [List.range_succ, List.map_append]
  rfl
theorem dataR_length (c : Int) (k : Nat) : (dataR c k).length = k := by simp [dataR]

set_option maxRecDepth 100000 in
set_option maxHeartbeats 1000000 in
theorem data_fn (c : Int) (z : Nat) (w : World) (hc : -4611686018427387904 ≤ c ∧ c ≤ 4611686018427387904) (hz : z ≤ 64) :
    Calls Try.prog 13 #[.int .i64 c, .int .i64 z] w fun e w' => e = .returned (.string ⟨(dataR c z).toArray⟩) ∧ w.grownBy w' none := by
  obtain ⟨hc1, hc2⟩ := hc
  go_enter Try.func13, Try.ntmps13
  go_wp2
  go_loopw [5, 6] (fun b i wr => ∃ (k : Nat) (bs : List UInt8), k ≤ z ∧ i = .int .i64 k ∧ bs = dataR c k ∧ OwnsB w.heap.size wr b bs ∧ w.grownBy wr none) (fun _ i _ => z - (intOf i).toNat)
  case atStart => exact ⟨0, [], Nat.zero_le _, rfl, rfl, World.ownsRow_nil _ _ _ _, drew_grown w 0 _⟩
  case round =>
    obtain ⟨k, bs, hk, rfl, hbl, hown, hg⟩ := hrel
    by_cases hlt : k < z
    · have HDR : Hid (bs ++ [UInt8.ofNat (97 + pickN (c + k) 26)] = dataR c (k + 1)) := by
        show _ = _
        rw [hbl, dataR_succ]
      have hbk : bs.length = k := by rw [hbl]; simp [dataR]
      clear hbl
      have H1 : Hid (∀ W, _) := fun W => pick_at (c + k) 26 26 W ⟨by omega, by omega⟩ rfl (by omega) (by omega)
      have h1 := pickN_lt (c + k) 26 (by omega)
      have HR : Hid (∀ x : Int, x = ((97 + pickN (c + k) 26 : Nat) : Int) → ∀ v' w1, w1.ownsRow w.heap.size 5 1 v' (bs.length + 1) (byteVals bs ++ [.int .u8 x]) → OwnsB w.heap.size w1 v' (bs ++ [UInt8.ofNat (97 + pickN (c + k) 26)])) := by
        intro x hx v' w1 ho
        unfold OwnsB
        rw [byteVals_append, List.length_append]
        rw [hx] at ho
        have e : ((UInt8.ofNat (97 + pickN (c + k) 26)).toNat : Int) = ((97 + pickN (c + k) 26 : Nat) : Int) := by
          rw [UInt8.toNat_ofNat']
          omega
        unfold byteVals at *
        rw [List.map_cons, List.map_nil, e]
        exact ho
      have HO : Hid (wr.ownsRow w.heap.size 5 1 _ bs.length (byteVals bs)) := hown
      have HG : Hid _ := hg
      have hsz : w.heap.size ≤ wr.heap.size := hg.size
      clear hown hg
      generalize pickN (c + k) 26 = n1 at *
      obtain ⟨i0, hi, hz0, hz1, hz2⟩ := info_parts Try.infoU8
      go_wp2_with (first
        | (go_at_call 9; refine (H1.out _).mono ?_; rintro _ _ ⟨rfl, rfl⟩)
        | (at_builtin; refine wpList_append_own_at _ rfl _ _ 69 rfl w.heap.size 5 i0 (.int .u8 0) 1 1 Try.underlying69 hi hz0 hz1 hz2 rfl (by decide) _ _ _ rfl (HO.out.alloc _) ⟨_, 0, none⟩ 1 1 [_] rfl rfl (cell_one_new _ _ _) (by intro u hu; simp at hu; subst hu; rfl) (by unfold maxLen; omega) (by omega) (by simp; omega) ?_; intro v' w1 hown' hgrow _ hat))
      refine ⟨⟨k + 1, _, by omega, by go_num, HDR.out, HR.out _ (by go_num) _ _ hown', ?_⟩, by simp [intOf]; omega⟩
      have g1 := Grew.of_alloc hgrow hat
      exact ⟨g1.by_.os.trans HG.out.os, g1.by_.tape.trans HG.out.tape, g1.by_.output.trans HG.out.output, Nat.le_trans HG.out.size g1.by_.size, fun j hj hne => (g1.by_.block j (Nat.lt_of_lt_of_le hj HG.out.size) (fun e => by have := OwnsB.base (l := bs) HO.out j e.symm; omega)).trans (HG.out.block j hj hne)⟩
    · have HC := conv_own hown
      obtain rfl : k = z := by omega
      go_wp2
      go_ret
      rw [← hbl]
      exact ⟨rfl, hg⟩
end Go.Proofs.Ytkmeingnhaomaab
/- strandkeep's made, as a function. -/
namespace Go.Proofs.Ytkmeingnhaomaab
open Go.RowKit Go.Shelf

/-- The record that made makes of a block, out of a raw number. -/
def recAt (z : Nat) (c : Int) (wh : Bool) (k : Nat) : List Rc :=
  if pickN c 4 = 0 then [] else if pickN c 4 = 1 then (if wh then [] else [⟨true, k, ⟨#[]⟩⟩]) else [⟨false, k, ⟨(dataR (IntKind.i64.wrap (c.tdiv 4)) z).toArray⟩⟩]
def madeR (z : Nat) (xs : List Int) (wh : Bool) (n : Nat) : List Rc := (List.range n).flatMap fun k => recAt z (xs.getD k 0) wh k
theorem madeR_succ (z : Nat) (xs : List Int) (wh : Bool) (k : Nat) : madeR z xs wh (k + 1) = madeR z xs wh k ++ recAt z (xs.getD k 0) wh k := by
  unfold madeR
  rw [List.range_succ, List.flatMap_append]
  simp
theorem madeR_ok (b z : Nat) (xs : List Int) (wh : Bool) : ∀ n, n ≤ b → recsOk b z (-1) (madeR z xs wh n) = true ∧ lastOf (-1) (madeR z xs wh n) < n ∧ (wh = true → ∀ r ∈ madeR z xs wh n, r.free = false)
  | 0, _ => ⟨rfl, by simp [madeR, lastOf], fun _ r hr => by cases hr⟩
  | n + 1, h => by
    obtain ⟨h1, h2, h3⟩ := madeR_ok b z xs wh n (by omega)
    rw [madeR_succ]
    have step : ∀ fr d, (d.size : Int) = (if fr then 0 else (z : Int)) → (wh = true → fr = false) → recsOk b z (-1) (madeR z xs wh n ++ [⟨fr, (n : Int), d⟩]) = true ∧ lastOf (-1) (madeR z xs wh n ++ [⟨fr, (n : Int), d⟩]) < ((n + 1 : Nat) : Int) ∧ (wh = true → ∀ r ∈ madeR z xs wh n ++ [⟨fr, (n : Int), d⟩], r.free = false) := by
      intro fr d hd hf
      refine ⟨?_, ?_, ?_⟩
      · rw [recsOk_append, h1, Bool.true_and, recsOk, Bool.and_eq_true]
        exact ⟨decide_eq_true ⟨h2, by simp only; omega, hd⟩, rfl⟩
      · rw [lastOf_snoc]
        simp only
        omega
      · intro hw r hr
        rcases List.mem_append.1 hr with h | h
        · exact h3 hw r h
        · rw [List.mem_singleton.1 h]
          exact hf hw
    unfold recAt
    split
    · rw [List.append_nil]
      exact ⟨h1, by omega, h3⟩
    · split
      · split
        · rw [List.append_nil]
          exact ⟨h1, by omega, h3⟩
        · rename_i hw
          exact step true ⟨#[]⟩ rfl (fun h => absurd h hw)
      · exact step false _ (by simp [ByteArray.size, dataR_length]) (fun _ => rfl)

set_option maxRecDepth 100000 in
set_option maxHeartbeats 4000000 in
theorem made_fn (f t : Int) (n z : Nat) (v : Value) (xs : List Int) (wh : Bool) (w : World) (hv : Ints w.heap.size w v xs) (hxs : ∀ x ∈ xs, I64 x) (hxl : xs.length ≤ 9223372036854775807) (hn : n ≤ 100) (hz : z ≤ 64) :
    Calls Try.prog 6 #[.int .i64 f, .int .i64 t, .int .i64 n, .int .i64 z, v, .bool wh] w fun e w' => ∃ sv, e = .returned (.agg #[.int .i64 f, .int .i64 t, .int .i64 n, .int .i64 z, sv]) ∧ OwnsR w.heap.size w' sv (madeR z xs wh n) ∧ w.grownBy w' none := by
  obtain ⟨a, cap, rfl⟩ := hv.slice
  have HV : Hid (∀ W, w.grownBy W none → Ints w.heap.size W (.slice a xs.length cap) xs) := fun W hW => hv.below ⟨hW.os, hW.tape, hW.output, hW.size, fun k hk => hW.block k hk (by simp)⟩
  have HX : Hid (∀ k, I64 (xs.getD k 0)) := by
    intro k
    rw [List.getD_eq_getElem?_getD]
    by_cases hk : k < xs.length
    · rw [List.getElem?_eq_getElem hk, Option.getD_some]
      exact hxs _ (List.getElem_mem hk)
    · rw [List.getElem?_eq_none (by omega), Option.getD_none]
      exact ⟨by omega, by omega⟩
  clear hv hxs
  go_enter Try.func6, Try.ntmps6
  go_wp2
  go_loopw [14] (fun b wr => ∃ (k : Nat) (sv : Value) (rs : List Rc), k ≤ n ∧ b = .int .i64 k ∧ wr.heap[w.heap.size]? = some (.cells #[.int .i64 0, .int .i64 0, .int .i64 0, .int .i64 0, .slice none 0 0] 27 (0, 0)) ∧ wr.heap[w.heap.size + 1]? = some (.cells #[.int .i64 f, .int .i64 t, .int .i64 n, .int .i64 z, sv] 27 (0, 0)) ∧ OwnsR (w.heap.size + 2) wr sv rs ∧ rs = madeR z xs wh k ∧ rs.length ≤ k ∧ w.grownBy wr none) (fun b _ => n - (intOf b).toNat)
  case atStart =>
    obtain ⟨h1, h2, hB⟩ := two_boxes w #[.int .i64 0, .int .i64 0, .int .i64 0, .int .i64 0, .slice none 0 0] #[.int .i64 f, .int .i64 t, .int .i64 n, .int .i64 z, .slice none 0 0] 27
    exact ⟨0, _, [], Nat.zero_le _, rfl, h1, h2, World.ownsRow_nil _ _ _ _, rfl, Nat.le_refl _, gbelow hB⟩
  case round =>
    obtain ⟨k, sv, rs, hk, rfl, h0, h1, ho, hrs, hrl, hg⟩ := hrel
    obtain ⟨sa, sl, sc, rfl⟩ := ho.slice
    by_cases hlt : k < n
    · have HI := HX.out k
      have HMS : Hid (madeR z xs wh (k + 1) = rs ++ recAt z (xs.getD k 0) wh k) := by
        show _ = _
        rw [hrs]
        exact madeR_succ z xs wh k
      unfold recAt at HMS
      clear hrs
      have HN : Hid (∀ u : Unit, _) := fun _ => nth_any w.heap.size _ xs k wr (HV.out _ hg) (by omega) hxl
      generalize xs.getD k 0 = c at *
      have HP : Hid (∀ u : Unit, _) := fun _ => pick_at c 4 4 wr HI rfl (by omega) (by omega)
      have hp := pickN_lt c 4 (by omega)
      generalize pickN c 4 = p at *
      obtain ⟨c0, c1, c2, c3, c4, f0, f1, f2, f3, f4⟩ := box5 h1
      have H0 : Hid _ := h0
      have H1 : Hid _ := h1
      have HO : Hid _ := ho
      have HG : Hid _ := hg
      clear h0 h1 ho hg
      go_wp2_with fail
      go_at_call 11
      refine (HN.out ()).mono ?_
      rintro _ w1 ⟨rfl, rfl⟩
      go_wp2_with fail
      go_at_call 9
      refine (HP.out ()).mono ?_
      rintro _ wr ⟨rfl, rfl⟩
      clear HP HN
      have hz2 : w.heap.size + 1 < wr.heap.size := (Array.getElem?_eq_some_iff.1 H1.out).1
      obtain rfl | rfl | h23 : p = 0 ∨ p = 1 ∨ (p = 2 ∨ p = 3) := by omega
      · have HM2 : Hid (madeR z xs wh (k + 1) = rs) := by
          show _ = _
          rw [HMS.out, if_pos rfl, List.append_nil]
        clear HMS
        go_wp2
        exact ⟨⟨k + 1, _, rs, by omega, by go_num, H0.out, H1.out, HO.out, HM2.out.symm, by omega, HG.out⟩, by simp [intOf]; omega⟩
      · cases wh
        · have HM2 : Hid (madeR z xs false (k + 1) = rs ++ [⟨true, k, ⟨#[]⟩⟩]) := by
            show _ = _
            rw [HMS.out, if_neg (by omega), if_pos rfl]
            rfl
          clear HMS
          go_wp2_with (at_builtin; refine wpList_append_rec _ rfl _ _ rfl (w.heap.size + 2) _ rs rfl (OwnsR.alloc HO.out _) ⟨_, 0, none⟩ ⟨true, k, ⟨#[]⟩⟩ rfl (cells_new2 _ _ _ _ (by simp)) (by omega) (by simp; omega) ?_; intro v' w3 hO3 hg3 _ _; obtain ⟨a3, l3, c3', rfl⟩ := hO3.slice; have G3 : Hid _ := hg3; have O3 : Hid _ := hO3; obtain ⟨-, -, -, -, d4, -, -, -, -, z4⟩ := box5 (made_kept H1.out (by omega) HO.out (World.grownBy_alloc _ _ none) hg3); clear hg3 hO3)
          obtain ⟨p0, p1, p2, p3⟩ := made_step H0.out H1.out HO.out HG.out (gwiden (World.grownBy_alloc _ _ none) G3.out) O3.out
          exact ⟨⟨k + 1, _, _, by omega, by go_num, p0, p1, p2, HM2.out.symm, by rw [List.length_append, List.length_singleton]; omega, p3⟩, by simp [intOf]; omega⟩
        · have HM2 : Hid (madeR z xs true (k + 1) = rs) := by
            show _ = _
            rw [HMS.out, if_neg (by omega), if_pos rfl]
            simp
          clear HMS
          go_wp2
          exact ⟨⟨k + 1, _, rs, by omega, by go_num, H0.out, H1.out, HO.out, HM2.out.symm, by omega, HG.out⟩, by simp [intOf]; omega⟩
      · have HD : Hid (∀ c', -4611686018427387904 ≤ c' ∧ c' ≤ 4611686018427387904 → ∀ W, _) := fun c' hc' W => data_fn c' z W hc' hz
        have HM : Hid (∀ W', wr.drew.grownBy W' (Value.slice sa sl sc).ownBlock → W'.cell? ⟨w.heap.size + 1, 4, none⟩ = some (.slice sa sl sc) ∧ W'.frozen? ⟨w.heap.size + 1, 4, none⟩ = false) := by
          intro W' hW'
          have hb := made_kept H1.out (by omega) HO.out (w2 := wr.drew) ⟨rfl, rfl, rfl, Nat.le_refl _, fun _ _ _ => rfl⟩ hW'
          obtain ⟨-, -, -, -, d4, -, -, -, -, z4⟩ := box5 hb
          exact ⟨d4, z4⟩
        have HB2 : Hid (∀ W' o, wr.drew.grownBy W' none → w.heap.size + 2 ≤ (World.alloc W' o).heap.size) := fun W' o hW' => by
          have h1 : wr.heap.size ≤ W'.heap.size := hW'.size
          simp
          omega
        have HO2 : Hid (∀ W' o, wr.drew.grownBy W' none → OwnsR (w.heap.size + 2) (World.alloc W' o) (.slice sa sl sc) rs) := fun W' o hW' => OwnsR.alloc (OwnsR.kept (W := wr.drew) HO.out hW') o
        have HC2 : Hid (∀ (W : World) (d : ByteArray) j u, [Value.bool false, .int .i64 k, .string d][j]? = some u → (W.alloc (.cells #[.bool false, .int .i64 k, .string d] 35)).cell? (Addr.add ⟨W.heap.size, 0, none⟩ j) = some u) := fun W d => cells_new2 W [.bool false, .int .i64 k, .string d] 35 _ rfl
        have hr2 : rs.length ≤ 2000 := by omega
        have HW : Hid (wr.grownBy wr.drew none) := ⟨rfl, rfl, rfl, Nat.le_refl _, fun _ _ _ => rfl⟩
        obtain ⟨hi1, hi2⟩ := HI
        have HQ : -4611686018427387904 ≤ IntKind.i64.wrap (c.tdiv 4) ∧ IntKind.i64.wrap (c.tdiv 4) ≤ 4611686018427387904 := quo4 c hi1 hi2
        have HM2 : Hid (madeR z xs wh (k + 1) = rs ++ [⟨false, k, ⟨(dataR (IntKind.i64.wrap (c.tdiv 4)) z).toArray⟩⟩]) := by
          show _ = _
          rw [HMS.out, if_neg (by omega), if_neg (by omega)]
        clear HMS
        rcases h23 with rfl | rfl
        all_goals
          go_wp2_with fail
          go_region_law (first | (refine step_rec ?_ (.tmp 46) (.tmp 53) ?_ (w.heap.size + 2) (.slice sa sl sc) rs ⟨false, k, ⟨(dataR (IntKind.i64.wrap (c.tdiv 4)) z).toArray⟩⟩ w2.heap.size ?_ ?_ ?_ ?_ ?_ ?_ ?_; rfl; rfl; rfl; exact HO2.out _ _ G2.out; rfl; exact HC2.out _ _; exact hr2; exact HB2.out _ _ G2.out; intro v' w3 hO3 hg3; obtain ⟨a3, l3, c3', rfl⟩ := hO3.slice; have O3 : Hid _ := hO3; have G3 : Hid _ := hg3; obtain ⟨e4, y4⟩ := HM.out _ (gwiden (gtrans G2.out (World.grownBy_alloc _ _ none)) hg3); clear hO3 hg3) | (go_simp; go_at_call 13; refine (HD.out _ HQ _).mono ?_; rintro e w2 ⟨rfl, hg2⟩; have G2 : Hid _ := hg2; obtain ⟨d4, z4⟩ := HM.out _ (gnone hg2); have hl2 : w.heap.size + 1 < w2.heap.size := Nat.lt_of_lt_of_le hz2 hg2.size; clear hg2; dsimp only))
          all_goals
            go_wp2
            obtain ⟨p0, p1, p2, p3⟩ := made_step H0.out H1.out HO.out HG.out (gwiden HW.out (gwiden (gtrans G2.out (World.grownBy_alloc _ _ none)) G3.out)) O3.out
            exact ⟨⟨k + 1, _, _, by omega, by go_num, p0, p1, p2, HM2.out.symm, by rw [List.length_append, List.length_singleton]; omega, p3⟩, by simp [intOf]; omega⟩
    · obtain rfl : k = n := by omega
      obtain ⟨c0, c1, c2, c3, c4, f0, f1, f2, f3, f4⟩ := box5 h1
      obtain ⟨d0, d1, d2, d3, d4, g0, g1, g2, g3, g4⟩ := box5 h0
      have hz1 : w.heap.size < wr.heap.size := (Array.getElem?_eq_some_iff.1 h0).1
      have HO : Hid _ := ho
      have HG : Hid _ := hg
      clear h0 h1 ho hg
      go_wp2
      refine bodyPost_ret (v := .agg #[.int .i64 f, .int .i64 t, .int .i64 k,   .int .i64 z, .slice sa sl sc]) (by simp [results, Try.results6, go_sem, d0, d1, d2, d3, d4]) rfl ?_
      rw [← hrs]
      exact ⟨_, rfl, OwnsR.base (OwnsR.set (OwnsR.set (OwnsR.set (OwnsR.set (OwnsR.set HO.out (by omega)) (by omega)) (by omega)) (by omega)) (by omega)) (by omega), gfresh (gfresh (gfresh (gfresh (gfresh HG.out (by omega)) (by omega)) (by omega)) (by omega)) (by omega)⟩
end Go.Proofs.Ytkmeingnhaomaab
