/- PChunkR2, PRow8, PAll, PAll2, PSort, PComplete, PTurn, PCollect3, PJoined, RJoin, PJoin, Sw, SwOwn, LTexts, LJoins, LJoins2 -/
import Derived.Test.YtkmeingnhaomaaaRChunkToPChunkR
import Derived.Shelf.SlSortCmp.WholeK
import Derived.Shelf.SlicesG.Cmp
import Derived.Shelf.Small.Bits
import Derived.BigQuiet
import Derived.Test.YtkmeingnhaomaaaPCollect2
import Derived.Test.YtkmeingnhaomaaaTx
import Derived.Test.YtkmeingnhaomaaaLOwn2
import Derived.Lib.SmallJoins
import Derived.Deep.Strs
import Derived.OpenShut
/- The program's readChunk. -/
namespace Go.Proofs.Ytkmeingnhaomaaa
open Go.RowKit Go.Shelf

theorem chunkR_recs (l : List UInt8) : chunkR l = match chunkO l with
    | .inl k => .inl k
    | .inr (f, t, b, z, all) => match recsR b z (num ((l.drop 22).take 2)) 24 l with
      | .inl k => .inl k
      | .inr rs => .inr ⟨f, t, b, z, all, num ((l.drop 18).take 2), num ((l.drop 20).take 2), rs⟩ := by
  unfold chunkR chunkO recsR
  rcases openG [83, 84, 82, 67] 24 0 l with k | ⟨f, t, b, z, all⟩
  · rfl
  · simp only []
    by_cases h : num ((l.drop 20).take 2) ≤ num ((l.drop 18).take 2) ∨ all < num ((l.drop 22).take 2)
    · rw [if_pos h, if_pos h]
    · rw [if_neg h, if_neg h]
      simp only []
      rcases walkR b z (num ((l.drop 22).take 2)) (-1) (l.drop 24) with ⟨rs, (k | q)⟩
      · rfl
      · simp only []
        cases endR l (l.length - q.length) with
        | none => rfl
        | some k => rfl

set_option maxRecDepth 100000 in
set_option maxHeartbeats 4000000 in
theorem readChunk_any (l : List UInt8) (w : World) (hl : l.length ≤ 4611686018427387904) :
    Calls Try.prog 71 #[.string ⟨l.toArray⟩] w fun e w' => w.grownBy w' none ∧
      ((∃ k, chunkR l = .inl k ∧ e = .panicked (gave k)) ∨ (∃ c v, chunkR l = .inr c ∧ e = .returned (.agg #[.int .i64 c.f, .int .i64 c.t, .int .i64 c.b, .int .i64 c.z, .int .i64 c.all, .int .i64 c.nu, .int .i64 c.many, v]) ∧ OwnsR w.heap.size w' v c.rs)) := by
  go_enter Try.func71, Try.ntmps71
  go_wp2_with fail
  obtain ⟨W1, hW1⟩ : ∃ W1, W1 = (w.alloc (.cells #[.int .i64 0, .int .i64 0, .int .i64 0, .int .i64 0, .int .i64 0, .int .i64 0, .int .i64 0, .slice none 0 0] 108)).alloc (.cells #[.string ⟨l.toArray⟩, .int .i64 0] 124) := ⟨_, rfl⟩
  have hs1 : W1.heap.size = w.heap.size + 2 := by rw [hW1]; simp
  have hb1 : W1.heap[w.heap.size]? = some (.cells #[.int .i64 0, .int .i64 0, .int .i64 0, .int .i64 0, .int .i64 0, .int .i64 0, .int .i64 0, .slice none 0 0] 108 (0, 0)) := by rw [hW1]; exact (Below.heap_alloc _ _ _ (by simp)).trans (World.alloc_heap_new _ _)
  have hr1 : Rd W1 (w.heap.size + 1) l 0 := by
    rw [hW1]
    have h := World.alloc_heap_new (w.alloc (.cells #[.int .i64 0, .int .i64 0, .int .i64 0, .int .i64 0, .int .i64 0, .int .i64 0, .int .i64 0, .slice none 0 0] 108)) (.cells #[.string ⟨l.toArray⟩, .int .i64 0] 124)
    rw [World.size_alloc] at h
    exact h
  have hg1 : w.grownBy W1 none := by rw [hW1]; exact gallocR (galloc _ _ _) _
  rw [← hW1]
  clear hW1
  refine (chunkHead_any (w.heap.size + 1) l W1 hr1 hl).mono ?_
  clear hr1
  rintro e W2 ⟨hg2, (⟨k, hk, rfl⟩ | ⟨f, t, b, z, all, ho, h24, hok, hhe, rfl, hr2⟩)⟩
  · refine ⟨rfl, grown_fresh hg1 hg2 (by omega), .inl ⟨k, ?_, rfl⟩⟩
    rw [chunkR_recs, hk]
  have HCR : Hid (chunkR l = match recsR b z (num ((l.drop 22).take 2)) 24 l with
      | .inl k => .inl k
      | .inr rs => .inr ⟨f, t, b, z, all, num ((l.drop 18).take 2), num ((l.drop 20).take 2), rs⟩) := by
    show _ = _
    rw [chunkR_recs, ho]
  have HB2 : Hid (W2.heap[w.heap.size]? = _) := (hg2.block w.heap.size (by omega) (by simp)).trans hb1
  have HG2 : Hid (w.grownBy W2 none) := grown_fresh hg1 hg2 (by omega)
  have HR2 : Hid (Rd W2 (w.heap.size + 1) l 24) := hr2
  have hs2 : w.heap.size + 2 ≤ W2.heap.size := by have := hg2.size; omega
  have hhd := hok
  simp only [headOk, wellHead, Bool.and_eq_true, decide_eq_true_eq] at hhd
  obtain ⟨nu, hnu⟩ : ∃ x, x = num ((l.drop 18).take 2) := ⟨_, rfl⟩
  obtain ⟨many, hmany⟩ : ∃ x, x = num ((l.drop 20).take 2) := ⟨_, rfl⟩
  obtain ⟨here, hhere⟩ : ∃ x, x = num ((l.drop 22).take 2) := ⟨_, rfl⟩
  rw [← hnu, ← hmany, ← hhere] at HCR
  rw [← hhere] at hhe
  rw [← hnu, ← hmany, ← hhere]
  have hm100 : here ≤ 100 := by omega
  have hz64 : z ≤ 64 := by omega
  clear ho hg2 hg1 hr2 hb1 hok hhd hnu hmany hhere
  go_wp2_with fail
  obtain ⟨W3, hW3⟩ : ∃ W3, W3 = W2.alloc (.cells #[.int .i64 f, .int .i64 t, .int .i64 b, .int .i64 z, .int .i64 all, .int .i64 nu, .int .i64 many, .slice none 0 0] 108) := ⟨_, rfl⟩
  have hg3 : W2.grownBy W3 none := by rw [hW3]; exact galloc _ _ _
  have hc3 : W3.heap[W2.heap.size]? = some (.cells #[.int .i64 f, .int .i64 t, .int .i64 b, .int .i64 z, .int .i64 all, .int .i64 nu, .int .i64 many, .slice none 0 0] 108 (0, 0)) := by rw [hW3]; exact World.alloc_heap_new _ _
  have hs3 : W3.heap.size = W2.heap.size + 1 := by rw [hW3]; simp
  rw [← hW3]
  clear hW3
  refine (records_told (w.heap.size + 1) f t b z all here 24 l W3 (Rd.kept HR2.out hg3) h24 (by decide) hl hz64 hm100).mono ?_
  rintro e W4 ⟨fv, rfl, hg4, hC⟩
  have HC : Hid (∀ u : Unit, _) := fun _ => hC
  have G4 : Hid (w.grownBy W4 none) := gtrans HG2.out (gtrans hg3 hg4)
  have C4 : Hid (W4.heap[W2.heap.size]? = some (.cells #[.int .i64 f, .int .i64 t, .int .i64 b, .int .i64 z, .int .i64 all, .int .i64 nu, .int .i64 many, .slice none 0 0] 108 (0, 0))) := box5_grown hc3 hg4 (by simp)
  have B4 : Hid (W4.heap[w.heap.size]? = _) := box5_grown (box5_grown HB2.out hg3 (by simp)) hg4 (by simp)
  have hs4 : W2.heap.size < W4.heap.size := by have := hg4.size; omega
  clear hC hg4 hg3 hc3
  go_wp2_with fail
  refine (HC.out ()).mono ?_
  rintro e W5 ⟨hg5, (⟨k, hk, rfl⟩ | ⟨rs, v, hk, rfl, hown⟩)⟩
  · exact ⟨rfl, grown_fresh G4.out hg5 (by omega), .inl ⟨k, by rw [HCR.out, hk], rfl⟩⟩
  have HP : Hid (chunkR l = .inr ⟨f, t, b, z, all, nu, many, rs⟩) := by
    show _ = _
    rw [HCR.out, hk]
  obtain ⟨a, ln, cp, rfl⟩ : ∃ a ln cp, v = .slice a ln cp := by
    rcases hown.2 with ⟨rfl, _⟩ | ⟨g, cap, cur, rfl, _⟩
    · exact ⟨_, _, _, rfl⟩
    · exact ⟨_, _, _, rfl⟩
  have c5 := box5_grown C4.out hg5 (by simp; omega)
  have b5 := box5_grown B4.out hg5 (by simp)
  have HOW : Hid (OwnsR W4.heap.size W5 (.slice a ln cp) rs) := hown
  have G5 : Hid (w.grownBy W5 none) := grown_fresh G4.out hg5 (by omega)
  have hl5 : w.heap.size < W5.heap.size := by have := hg5.size; omega
  have d0 := boxed_cell (i := 0) c5 rfl
  have d1 := boxed_cell (i := 1) c5 rfl
  have d2 := boxed_cell (i := 2) c5 rfl
  have d3 := boxed_cell (i := 3) c5 rfl
  have d4 := boxed_cell (i := 4) c5 rfl
  have d5 := boxed_cell (i := 5) c5 rfl
  have d6 := boxed_cell (i := 6) c5 rfl
  have d7 := boxed_cell (i := 7) c5 rfl
  have df := boxed_frozen (i := 7) c5
  have r0 := boxed_cell (i := 0) b5 rfl
  have z0 := boxed_frozen (i := 0) b5
  have r1 := boxed_cell (i := 1) b5 rfl
  have z1 := boxed_frozen (i := 1) b5
  have r2 := boxed_cell (i := 2) b5 rfl
  have z2 := boxed_frozen (i := 2) b5
  have r3 := boxed_cell (i := 3) b5 rfl
  have z3 := boxed_frozen (i := 3) b5
  have r4 := boxed_cell (i := 4) b5 rfl
  have z4 := boxed_frozen (i := 4) b5
  have r5 := boxed_cell (i := 5) b5 rfl
  have z5 := boxed_frozen (i := 5) b5
  have r6 := boxed_cell (i := 6) b5 rfl
  have z6 := boxed_frozen (i := 6) b5
  have r7 := boxed_cell (i := 7) b5 rfl
  have z7 := boxed_frozen (i := 7) b5
  clear hown hg5 c5 b5 hk
  go_wp2
  refine bodyPost_ret (v := .agg #[.int .i64 f, .int .i64 t, .int .i64 b, .int .i64 z, .int .i64 all, .int .i64 nu, .int .i64 many, .slice a ln cp]) (by simp [results, Try.results71, go_sem, r0, r1, r2, r3, r4, r5, r6, r7]) rfl ?_
  have hs5 : w.heap.size < W4.heap.size := by omega
  exact ⟨gfresh (gfresh (gfresh (gfresh (gfresh (gfresh (gfresh (gfresh (gfresh G5.out (by omega)) (Nat.le_refl _)) (Nat.le_refl _)) (Nat.le_refl _)) (Nat.le_refl _)) (Nat.le_refl _)) (Nat.le_refl _)) (Nat.le_refl _)) (Nat.le_refl _), .inr ⟨⟨f, t, b, z, all, nu, many, rs⟩, _, HP.out, rfl, OwnsR.base (OwnsR.set (OwnsR.set (OwnsR.set (OwnsR.set (OwnsR.set (OwnsR.set (OwnsR.set (OwnsR.set (OwnsR.set HOW.out hs4) hs5) hs5) hs5) hs5) hs5) hs5) hs5) hs5) (by omega)⟩⟩
end Go.Proofs.Ytkmeingnhaomaaa
/- Rows of chunks, eight cells each. -/
namespace Go.Proofs.Ytkmeingnhaomaaa
open Go.RowKit Go.Shelf

/-- A chunk's cells, as the program lays them. -/
def pcCells (p : Ck × Value) : List Value := [.int .i64 p.1.f, .int .i64 p.1.t, .int .i64 p.1.b, .int .i64 p.1.z, .int .i64 p.1.all, .int .i64 p.1.nu, .int .i64 p.1.many, p.2]
def OwnsP (B : Nat) (w : World) (v : Value) (ps : List (Ck × Value)) : Prop := w.ownsRow B 108 8 v ps.length (ps.flatMap pcCells)
def pcZero : Ck × Value := (⟨0, 0, 0, 0, 0, 0, 0, []⟩, .slice none 0 0)
theorem Try.infoChunk : (Try.prog.info? 108).map (fun i => (i.zero, i.size, i.bytes)) = some (some (.agg #[.int .i64 0, .int .i64 0, .int .i64 0, .int .i64 0, .int .i64 0, .int .i64 0, .int .i64 0, .slice none 0 0]), 8, 80) := by kernel_rfl

theorem pcCells_length (ps : List (Ck × Value)) : (ps.flatMap pcCells).length = ps.length * 8 := by
  induction ps with
  | nil => rfl
  | cons p ps ih => rw [List.flatMap_cons, List.length_append, ih, List.length_cons]; simp [pcCells]; omega
theorem pcCells_at : ∀ (ps : List (Ck × Value)) (k : Nat) (h : k < ps.length) (j : Nat) (_ : j < 8), (ps.flatMap pcCells)[k * 8 + j]? = (pcCells ps[k])[j]?
  | p :: ps, 0, _, j, hj => by
    rw [List.flatMap_cons, List.getElem?_append_left (by simp [pcCells]; omega)]
    simp
  | p :: ps, k + 1, h, j, hj => by
    rw [List.flatMap_cons, List.getElem?_append_right (by simp [pcCells]; omega)]
    rw [show (k + 1) * 8 + j - (pcCells p).length = k * 8 + j from by simp [pcCells]; omega]
    rw [pcCells_at ps k (by simpa using h) j hj]
    rfl
/-- One after the other, from o on. -/
def seqSet (l : List Value) (o : Nat) : List Value → List Value
  | [] => l
  | y :: ys => seqSet (l.set o y) (o + 1) ys
theorem seqSet_eq : ∀ (ys l : List Value) (o : Nat), o + ys.length ≤ l.length → seqSet l o ys = l.take o ++ ys ++ l.drop (o + ys.length)
  | [], l, o, _ => by simp [seqSet]
  | y :: ys, l, o, h => by
    rw [List.length_cons] at h
    rw [seqSet, seqSet_eq ys (l.set o y) (o + 1) (by rw [List.length_set]; omega), List.take_set, List.drop_set_of_lt (by omega), List.length_cons]
    rw [List.take_succ_eq_append_getElem (by omega), List.set_append_right _ _ (by rw [List.length_take]; omega), List.length_take, Nat.min_eq_left (by omega), Nat.sub_self, List.set_cons_zero, show o + 1 + ys.length = o + (ys.length + 1) from by omega]
    simp
theorem pcCells_set (ps : List (Ck × Value)) (k : Nat) (h : k < ps.length) (p : Ck × Value) : seqSet (ps.flatMap pcCells) (k * 8) (pcCells p) = (ps.set k p).flatMap pcCells := by
  have hl := pcCells_length ps
  rw [seqSet_eq _ _ _ (by rw [hl]; show k * 8 + 8 ≤ _; omega)]
  have e1 : (ps.flatMap pcCells).take (k * 8) = (ps.take k).flatMap pcCells := by
    conv => lhs; rw [← List.take_append_drop k ps, List.flatMap_append]
    rw [List.take_append_of_le_length (by rw [pcCells_length, List.length_take]; omega), List.take_of_length_le (by rw [pcCells_length, List.length_take]; omega)]
  have e2 : (ps.flatMap pcCells).drop (k * 8 + (pcCells p).length) = (ps.drop (k + 1)).flatMap pcCells := by
    conv => lhs; rw [← List.take_append_drop (k + 1) ps, List.flatMap_append]
    have : ((ps.take (k + 1)).flatMap pcCells).length = k * 8 + (pcCells p).length := by
      rw [pcCells_length, List.length_take]
      show min (k + 1) ps.length * 8 = k * 8 + 8
      omega
    rw [← this, List.drop_left]
  rw [e1, e2, List.set_eq_take_append_cons_drop, if_pos h, List.flatMap_append, List.flatMap_cons, List.append_assoc]

theorem OwnsP.at {B : Nat} {W : World} {g l cp : Nat} {ps : List (Ck × Value)} (h : OwnsP B W (.slice (some ⟨g, 0, none⟩) l cp) ps) {k : Nat} (hk : k < ps.length) :
    ∃ cur, W.heap[g]? = some (.cells cur 108 (0, 0)) ∧ ∀ j v, (pcCells ps[k])[j]? = some v → j < 8 → cur[k * 8 + j]? = some v := by
  rcases h.2 with ⟨e0, h0⟩ | ⟨g', cap, cur, e0, hb, hg, hc, hm, hs, ht⟩
  · cases e0
  · have e1 := e0
    simp only [Value.slice.injEq, Option.some.injEq, Addr.mk.injEq] at e1
    obtain ⟨⟨rfl, -, -⟩, -, -⟩ := e1
    refine ⟨cur, hg, fun j v hv hj => ?_⟩
    have h2 : (cur.toList.take (ps.length * 8))[k * 8 + j]? = some v := by
      rw [ht, pcCells_at ps k hk j hj, hv]
    rw [List.getElem?_take_of_lt (by omega)] at h2
    simpa using h2
theorem OwnsP.set {B : Nat} {W : World} {g l cp : Nat} {ps : List (Ck × Value)} (h : OwnsP B W (.slice (some ⟨g, 0, none⟩) l cp) ps) (k : Nat) (hk : k < ps.length) (p : Ck × Value) :
    OwnsP B ((((((((W.setCell ⟨g, k * 8, none⟩ (.int .i64 p.1.f)).setCell ⟨g, k * 8 + 1, none⟩ (.int .i64 p.1.t)).setCell ⟨g, k * 8 + 2, none⟩ (.int .i64 p.1.b)).setCell ⟨g, k * 8 + 3, none⟩ (.int .i64 p.1.z)).setCell ⟨g, k * 8 + 4, none⟩ (.int .i64 p.1.all)).setCell ⟨g, k * 8 + 5, none⟩ (.int .i64 p.1.nu)).setCell ⟨g, k * 8 + 6, none⟩ (.int .i64 p.1.many)).setCell ⟨g, k * 8 + 7, none⟩ p.2) (.slice (some ⟨g, 0, none⟩) l cp) (ps.set k p) := by
  rcases h.2 with ⟨e0, h0⟩ | ⟨g', cap, cur, e0, hb, hg, hc, hm, hs, ht⟩
  · cases e0
  · have e1 := e0
    simp only [Value.slice.injEq, Option.some.injEq, Addr.mk.injEq] at e1
    obtain ⟨⟨rfl, -, -⟩, -, -⟩ := e1
    refine ⟨pcCells_length _, .inr ⟨g, cap, _, by simpa using e0, hb, block_set (block_set (block_set (block_set (block_set (block_set (block_set (block_set hg _) _) _) _) _) _) _) _, by simpa using hc, hm, by simpa using hs, ?_⟩⟩
    rw [List.length_set, ← pcCells_set ps k hk p, ← ht]
    simp only [Array.toList_setIfInBounds]
    show _ = seqSet _ _ [_, _, _, _, _, _, _, _]
    simp only [seqSet, ← List.take_set]
end Go.Proofs.Ytkmeingnhaomaaa
/- The program's readAll of chunks: the inner function. -/
namespace Go.Proofs.Ytkmeingnhaomaaa
open Go.RowKit Go.Shelf

theorem made_chunks (n : Nat) : (madeCells #[.int .i64 0, .int .i64 0, .int .i64 0, .int .i64 0, .int .i64 0, .int .i64 0, .int .i64 0, .slice none 0 0] (n * 8)).toList = (List.replicate n pcZero).flatMap pcCells := by
  apply List.ext_getElem?
  intro i
  by_cases hi : i < n * 8
  · have h1 : (madeCells #[.int .i64 0, .int .i64 0, .int .i64 0, .int .i64 0, .int .i64 0, .int .i64 0, .int .i64 0, .slice none 0 0] (n * 8)).toList[i]? = some (#[Value.int .i64 0, .int .i64 0, .int .i64 0, .int .i64 0, .int .i64 0, .int .i64 0, .int .i64 0, .slice none 0 0][i % 8]!) := by
      rw [Array.getElem?_toList]
      simp [madeCells, hi]
    rw [h1]
    have h2 := pcCells_at (List.replicate n pcZero) (i / 8) (by simp; omega) (i % 8) (by omega)
    rw [show i / 8 * 8 + i % 8 = i from by omega] at h2
    rw [h2, List.getElem_replicate]
    rcases (show i % 8 = 0 ∨ i % 8 = 1 ∨ i % 8 = 2 ∨ i % 8 = 3 ∨ i % 8 = 4 ∨ i % 8 = 5 ∨ i % 8 = 6 ∨ i % 8 = 7 by omega) with h | h | h | h | h | h | h | h <;> rw [h] <;> rfl
  · rw [List.getElem?_eq_none (by simp [size_madeCells]; omega), List.getElem?_eq_none (by rw [pcCells_length]; simp; omega)]

/-- The chunks that are read, and their records' lists. -/
def ReadCs (B : Nat) (W : World) (ps : List (Ck × Value)) : Prop := ∀ p ∈ ps, OwnsR B W p.2 p.1.rs

set_option maxRecDepth 100000 in
set_option maxHeartbeats 4000000 in
theorem readAll1_any (Bt Br : Nat) (sv : Value) (ts : List (List UInt8)) (w : World) (hT : Txs w.heap.size w sv ts) (hl : ∀ t ∈ ts, t.length ≤ 4611686018427387904) (hn : ts.length ≤ 100) (ht : w.cell? ⟨Bt, 0, none⟩ = some sv) (hr : w.cell? ⟨Br, 0, none⟩ = some (.func (.func 71) #[] #[])) :
    Calls Try.prog 100 #[.pointer (some ⟨Bt, 0, none⟩), .pointer (some ⟨Br, 0, none⟩)] w fun e w' => w.grownBy w' none ∧
      ((∃ k, chunksOf ts = .inl k ∧ e = .panicked (gave k)) ∨ (∃ ps g, chunksOf ts = .inr (ps.map Prod.fst) ∧ e = .returned (.slice (some ⟨g, 0, none⟩) ts.length ts.length) ∧ OwnsP w.heap.size w' (.slice (some ⟨g, 0, none⟩) ts.length ts.length) ps ∧ ReadCs w.heap.size w' ps)) := by
  obtain ⟨a, c, rfl⟩ := hT.slice
  obtain ⟨i0, hi, hz0, hz1, hz2⟩ := info_parts Try.infoChunk
  have hlt := World.block_lt_of_cell? _ _ ht
  have hlr := World.block_lt_of_cell? _ _ hr
  have hmk : ∀ W : World, (Instr.makeSlice 104 (.int .i64 ts.length) (.int .i64 ts.length)).run Try.prog W = .ok (.slice (some ⟨W.heap.size, 0, none⟩) ts.length ts.length) (W.alloc (.cells (madeCells (Value.agg #[.int .i64 0, .int .i64 0, .int .i64 0, .int .i64 0, .int .i64 0, .int .i64 0, .int .i64 0, .slice none 0 0]).cells (ts.length * 8)) 108)) := by
    intro W
    have := run_make (P := Try.prog) W 104 108 i0 _ Try.underlying104 hi hz0 .i64 .i64 (ts.length : Int) (ts.length : Int) (by omega) (Int.le_refl _) (by rw [hz2]; omega) (by omega)
    rw [hz1, show ((ts.length : Int)).toNat = ts.length from by omega] at this
    exact this
  go_enter Try.func100, Try.ntmps100
  go_wp2
  obtain ⟨M, hM⟩ : ∃ M, M = madeCells #[.int .i64 0, .int .i64 0, .int .i64 0, .int .i64 0, .int .i64 0, .int .i64 0, .int .i64 0, .slice none 0 0] (ts.length * 8) := ⟨_, rfl⟩
  rw [← hM]
  obtain ⟨W1, hW1⟩ : ∃ W1, W1 = w.alloc (.cells M 108) := ⟨_, rfl⟩
  have hg1 : w.grownBy W1 none := by rw [hW1]; exact galloc _ _ _
  have hO1 : OwnsP w.heap.size W1 (.slice (some ⟨w.heap.size, 0, none⟩) ts.length ts.length) ([] ++ List.replicate (ts.length - 0) pcZero) := by
    have hl0 : ([] ++ List.replicate (ts.length - 0) pcZero).length = ts.length := by simp
    refine ⟨pcCells_length _, .inr ⟨w.heap.size, ts.length, M, by rw [hl0], Nat.le_refl _, by rw [hW1]; exact World.alloc_heap_new _ _, by rw [hl0]; exact Nat.le_refl _, Nat.le_trans hn (by decide), by rw [hM, size_madeCells], ?_⟩⟩
    rw [hl0, hM, made_chunks, List.take_of_length_le (by rw [pcCells_length]; simp)]
    simp
  rw [← hW1]
  have HT : Hid (∀ W, w.grownBy W none → Txs W.heap.size W (.slice a ts.length c) ts) := fun W h => Txs.moved hT (below_of_grown h)
  have HTB : Hid (∀ k (_ : k < ts.length), ∃ b off, a = some ⟨b, off, none⟩ ∧ b < w.heap.size) := fun k hk => by
    obtain ⟨b, off, e, h1, _⟩ := Txs.at hT hk
    exact ⟨b, off, e, h1⟩
  have HL : Hid _ := hl
  have HRd : Hid (w.cell? ⟨Br, 0, none⟩ = some (.func (.func 71) #[] #[])) := hr
  clear hM hW1 hmk hz0 hz1 hz2 hi hT hl ht hr
  go_loopw [11] (fun i wr => ∃ (k : Nat) (ps : List (Ck × Value)), k ≤ ts.length ∧ ps.length = k ∧ i = .int .i64 k ∧ OwnsP w.heap.size wr (.slice (some ⟨w.heap.size, 0, none⟩) ts.length ts.length) (ps ++ List.replicate (ts.length - k) pcZero) ∧ chunksOf (ts.take k) = .inr (ps.map Prod.fst) ∧ ReadCs w.heap.size wr ps ∧ w.grownBy wr none) (fun i _ => ts.length - (intOf i).toNat)
  case atStart => exact ⟨0, [], Nat.zero_le _, rfl, rfl, hO1, rfl, (fun p hp => by cases hp), hg1⟩
  case round =>
    obtain ⟨k, ps, hk, hpk, rfl, hO, hcs, hrc, hg⟩ := hrel
    have H_O : Hid (OwnsP w.heap.size wr (.slice (some ⟨w.heap.size, 0, none⟩) ts.length ts.length) (ps ++ List.replicate (ts.length - k) pcZero)) := hO
    have H_C : Hid _ := hcs
    have H_R : Hid (ReadCs w.heap.size wr ps) := hrc
    have H_G : Hid (w.grownBy wr none) := hg
    clear hO hcs hrc hg hO1 hg1
    by_cases hlt2 : k < ts.length
    · obtain ⟨tb, toff, ha, htb, hc⟩ := Txs.at (HT.out wr H_G.out) hlt2
      subst ha
      have hrd : wr.cell? ⟨Br, 0, none⟩ = _ := (World.cell?_of_block (H_G.out.block Br hlr (by simp))).trans HRd.out
      have HRC : Hid (∀ u : Unit, _) := fun _ => readChunk_any ts[k] wr (HL.out _ (List.getElem_mem hlt2))
      have HCE : Hid (∀ e, chunkR ts[k] = .inl e → chunksOf ts = .inl e) := fun e he => by
        have := chunksOf_bad (ts.take k) _ ts[k] (ts.drop (k + 1)) e H_C.out he
        rwa [List.getElem_cons_drop, List.take_append_drop] at this
      have HCO : Hid (∀ cc, chunkR ts[k] = .inr cc → chunksOf (ts.take (k + 1)) = .inr (ps.map Prod.fst ++ [cc])) := fun cc he => by
        rw [List.take_succ_eq_append_getElem hlt2]
        exact chunksOf_ok (ts.take k) _ ts[k] cc H_C.out he
      generalize ts[k] = tk at *
      go_wp2_with fail
      refine (HRC.out ()).mono ?_
      rintro e w2 ⟨hg2, (⟨ke, hke, rfl⟩ | ⟨cc, v, hke, rfl, hown⟩)⟩
      · exact ⟨rfl, gtrans H_G.out hg2, .inl ⟨ke, HCE.out ke hke, rfl⟩⟩
      have hpl : (ps ++ List.replicate (ts.length - k) pcZero).length = ts.length := by simp; omega
      have hO2 : OwnsP w.heap.size w2 (.slice (some ⟨w.heap.size, 0, none⟩) ts.length ts.length) (ps ++ List.replicate (ts.length - k) pcZero) := World.ownsRow.kept H_O.out hg2 (.inr (by simp [Value.ownBlock]))
      obtain ⟨cur, hcur, hcat⟩ := OwnsP.at hO2 (k := k) (by omega)
      have hel : (ps ++ List.replicate (ts.length - k) pcZero)[k]'(by omega) = pcZero := by
        rw [List.getElem_append_right (by omega)]
        simp
      rw [hel] at hcat
      have x0 := boxed_cell (i := k * 8) hcur (hcat 0 _ rfl (by omega))
      have x1 := boxed_cell (i := k * 8 + 1) hcur (hcat 1 _ rfl (by omega))
      have x2 := boxed_cell (i := k * 8 + 2) hcur (hcat 2 _ rfl (by omega))
      have x3 := boxed_cell (i := k * 8 + 3) hcur (hcat 3 _ rfl (by omega))
      have x4 := boxed_cell (i := k * 8 + 4) hcur (hcat 4 _ rfl (by omega))
      have x5 := boxed_cell (i := k * 8 + 5) hcur (hcat 5 _ rfl (by omega))
      have x6 := boxed_cell (i := k * 8 + 6) hcur (hcat 6 _ rfl (by omega))
      have x7 := boxed_cell (i := k * 8 + 7) hcur (hcat 7 _ rfl (by omega))
      have y0 := boxed_frozen (i := k * 8) hcur
      have y1 := boxed_frozen (i := k * 8 + 1) hcur
      have y2 := boxed_frozen (i := k * 8 + 2) hcur
      have y3 := boxed_frozen (i := k * 8 + 3) hcur
      have y4 := boxed_frozen (i := k * 8 + 4) hcur
      have y5 := boxed_frozen (i := k * 8 + 5) hcur
      have y6 := boxed_frozen (i := k * 8 + 6) hcur
      have y7 := boxed_frozen (i := k * 8 + 7) hcur
      have O2 : Hid (OwnsP w.heap.size w2 (.slice (some ⟨w.heap.size, 0, none⟩) ts.length ts.length) (ps ++ List.replicate (ts.length - k) pcZero)) := hO2
      have HOW : Hid (OwnsR wr.heap.size w2 v cc.rs) := hown
      have G2 : Hid (w.grownBy w2 none) := gtrans H_G.out hg2
      have RC2 : Hid (ReadCs w.heap.size w2 ps) := fun p hp => OwnsR.keptN (H_R.out p hp) hg2
      have HCC : Hid _ := HCO.out cc hke
      have HCU : Hid _ := hcur
      obtain ⟨va, vn, vc, rfl⟩ : ∃ a ln cp, v = .slice a ln cp := by
        rcases hown.2 with ⟨rfl, _⟩ | ⟨g, cap, cur, rfl, _⟩
        · exact ⟨_, _, _, rfl⟩
        · exact ⟨_, _, _, rfl⟩
      clear hO2 hcur hcat hel hown hg2 hke HCE HCO
      have HGS : Hid (w2.grownBy ((((((((w2.setCell ⟨w.heap.size, k * 8, none⟩ (.int .i64 cc.f)).setCell ⟨w.heap.size, k * 8 + 1, none⟩ (.int .i64 cc.t)).setCell ⟨w.heap.size, k * 8 + 2, none⟩ (.int .i64 cc.b)).setCell ⟨w.heap.size, k * 8 + 3, none⟩ (.int .i64 cc.z)).setCell ⟨w.heap.size, k * 8 + 4, none⟩ (.int .i64 cc.all)).setCell ⟨w.heap.size, k * 8 + 5, none⟩ (.int .i64 cc.nu)).setCell ⟨w.heap.size, k * 8 + 6, none⟩ (.int .i64 cc.many)).setCell ⟨w.heap.size, k * 8 + 7, none⟩ (.slice va vn vc)) (some w.heap.size)) := gtrans (gtrans (gtrans (gtrans (gtrans (gtrans (gtrans (gset w2 w.heap.size (k * 8) (.int .i64 cc.f)) (gset _ w.heap.size _ _)) (gset _ w.heap.size _ _)) (gset _ w.heap.size _ _)) (gset _ w.heap.size _ _)) (gset _ w.heap.size _ _)) (gset _ w.heap.size _ _)) (gset _ w.heap.size _ _)
      have HKR : Hid (∀ (W' : World) (v : Value) (rs : List Rc), w2.grownBy W' (some w.heap.size) → OwnsR w.heap.size w2 v rs → OwnsR w.heap.size W' v rs) := fun W' v rs hg h => row_beside h hg (fun r e => by cases e; exact ⟨_, HCU.out⟩) (by decide)
      go_wp2
      refine ⟨⟨k + 1, ps ++ [(cc, .slice va vn vc)], by omega, by simp [hpk], by go_num, ?_, ?_, ?_, gfresh (gfresh (gfresh (gfresh (gfresh (gfresh (gfresh (gfresh (G2.out) (Nat.le_refl _)) (Nat.le_refl _)) (Nat.le_refl _)) (Nat.le_refl _)) (Nat.le_refl _)) (Nat.le_refl _)) (Nat.le_refl _)) (Nat.le_refl _)⟩, by simp [intOf]; omega⟩
      · have h := OwnsP.set O2.out k (by omega) (cc, .slice va vn vc)
        have e : (ps ++ List.replicate (ts.length - k) pcZero).set k (cc, .slice va vn vc) = (ps ++ [(cc, .slice va vn vc)]) ++ List.replicate (ts.length - (k + 1)) pcZero := by
          rw [List.set_append_right _ _ (by omega), hpk, Nat.sub_self, show ts.length - k = (ts.length - (k + 1)) + 1 from by omega, List.replicate_succ, List.set_cons_zero, List.append_assoc]
          rfl
        rw [e] at h
        exact h
      · rw [HCC.out, List.map_append]
        rfl
      · intro q hq
        rw [List.mem_append, List.mem_singleton] at hq
        refine HKR.out _ _ _ HGS.out ?_
        rcases hq with hq | rfl
        · exact RC2.out q hq
        · exact OwnsR.base HOW.out H_G.out.size
    · obtain rfl : k = ts.length := by omega
      go_wp2
      go_ret
      have hO := H_O.out
      rw [Nat.sub_self, List.replicate_zero, List.append_nil] at hO
      have hc := H_C.out
      rw [List.take_length] at hc
      exact ⟨H_G.out, .inr ⟨ps, w.heap.size, hc, rfl, hO, H_R.out⟩⟩
end Go.Proofs.Ytkmeingnhaomaaa
/- The program's readAll of chunks. -/
namespace Go.Proofs.Ytkmeingnhaomaaa
open Go.RowKit Go.Shelf

set_option maxRecDepth 100000 in
set_option maxHeartbeats 400000 in
theorem catchC_panicking (b : Nat) (x : Int) (k : Int) (w : World) (hc : w.cell? ⟨b, 0, none⟩ = some (.int .i64 x)) (hz : w.frozen? ⟨b, 0, none⟩ = false) :
    CallsD Try.prog 122 #[.pointer (some ⟨b, 0, none⟩)] (.panicking (gave k)) w fun e u' w' =>
      e = .returned (.tuple #[]) ∧ u' = .panicking [{ v := .iface 25 (.int .i64 k), recovered := true }] ∧ w' = w.setCell ⟨b, 0, none⟩ (.int .i64 k) := by
  refine callsD_of_wpS Try.func122 rfl fun c₀ cs hu => ?_
  simp only [Try.ntmps122, List.size_toArray, List.length_cons, List.length_nil, Nat.reduceAdd, Nat.reduceSub, Array.replicate_succ, Array.replicate_zero, List.push_toArray, List.append_toArray, List.nil_append, List.cons_append]
  apply wpS_seq
  apply wpS_region
  simp [wpOpsS, go_sem, recoverD, hu, Exit.thenS, gave]
  refine wpS_of_wp ?_
  go_wp2_with (go_at_call 81; refine (reason_any _ _).mono ?_; rintro e w1 ⟨rfl, rfl⟩)
  exact ⟨rfl, _, rfl, _, results_none rfl _ _ _, rfl, rfl, rfl⟩

set_option maxRecDepth 100000 in
set_option maxHeartbeats 400000 in
theorem catchC_idle (b : Nat) (w : World) :
    CallsD Try.prog 122 #[.pointer (some ⟨b, 0, none⟩)] .returning w fun e u' w' => e = .returned (.tuple #[]) ∧ u' = .returning ∧ w' = w := by
  refine callsD_of_wpS Try.func122 rfl fun c₀ cs hu => ?_
  simp only [Try.ntmps122, List.size_toArray, List.length_cons, List.length_nil, Nat.reduceAdd, Nat.reduceSub, Array.replicate_succ, Array.replicate_zero, List.push_toArray, List.append_toArray, List.nil_append, List.cons_append]
  apply wpS_seq
  apply wpS_region
  simp [wpOpsS, go_sem, recoverD, hu, Exit.thenS]
  refine wpS_of_wp ?_
  go_wp2
  cases c₀
  simp only at hu
  subst hu
  exact ⟨rfl, _, rfl, _, results_none rfl _ _ _, rfl, rfl, rfl⟩

theorem row_set {B sz n : Nat} {e : TypeId} {W : World} {v x : Value} {xs : List Value} {k o : Nat} (h : W.ownsRow B e sz v n xs) (hk : k < B) : (W.setCell ⟨k, o, none⟩ x).ownsRow B e sz v n xs := by
  refine World.ownsRow.kept h (gset W k o x) ?_
  rcases h.2 with ⟨rfl, _⟩ | ⟨g, cap, cur, rfl, hbg, _⟩
  · exact .inl rfl
  · refine .inr fun e => ?_
    have : g = k := by simpa [Value.ownBlock] using e
    omega
theorem row_base {B B' sz n : Nat} {e : TypeId} {W : World} {v : Value} {xs : List Value} (h : W.ownsRow B e sz v n xs) (hb : B' ≤ B) : W.ownsRow B' e sz v n xs := by
  refine ⟨h.1, ?_⟩
  rcases h.2 with hn | ⟨g, cap, cur, hv, hbg, rest⟩
  · exact .inl hn
  · exact .inr ⟨g, cap, cur, hv, Nat.le_trans hb hbg, rest⟩

/-- How the reading of chunks ends. -/
def ToldR (ts : List (List UInt8)) (w : World) (e : Ending) (w' : World) : Prop :=
  w.grownBy w' none ∧ ((∃ k, chunksOf ts = .inl k ∧ e = .returned (.tuple #[.slice none 0 0, .int .i64 k])) ∨
    (∃ ps g, chunksOf ts = .inr (ps.map Prod.fst) ∧ e = .returned (.tuple #[.slice (some ⟨g, 0, none⟩) ts.length ts.length, .int .i64 0]) ∧ OwnsP w.heap.size w' (.slice (some ⟨g, 0, none⟩) ts.length ts.length) ps ∧ ReadCs w.heap.size w' ps))

set_option maxRecDepth 100000 in
set_option maxHeartbeats 1000000 in
theorem atFaceC_any (Bt Br : Nat) (sv : Value) (ts : List (List UInt8)) (w : World) (hT : Txs w.heap.size w sv ts) (hl : ∀ t ∈ ts, t.length ≤ 4611686018427387904) (hn : ts.length ≤ 100) (ht : w.cell? ⟨Bt, 0, none⟩ = some sv) (hr : w.cell? ⟨Br, 0, none⟩ = some (.func (.func 71) #[] #[])) :
    Calls Try.prog 99 #[.func (.func 100) #[] #[.pointer (some ⟨Bt, 0, none⟩), .pointer (some ⟨Br, 0, none⟩)]] w (ToldR ts w) := by
  have hmf : ∀ (fn : Fn) (first cap : Array Value) (w : World), (Instr.makeFunc fn first cap).run Try.prog w = .ok (.func fn first cap) w := fun _ _ _ _ => rfl
  have la := World.block_lt_of_cell? _ _ ht
  have lb := World.block_lt_of_cell? _ _ hr
  go_enter_defers Try.func99, Try.ntmps99
  go_wp2_with fail
  obtain ⟨W1, hW1⟩ : ∃ W1, W1 = w.alloc (.cells #[.int .i64 0] 25) := ⟨_, rfl⟩
  rw [← hW1]
  have hg1 : w.grownBy W1 none := by rw [hW1]; exact galloc _ _ _
  have he1 : W1.heap[w.heap.size]? = some (.cells #[.int .i64 0] 25 (0, 0)) := by rw [hW1]; exact World.alloc_heap_new _ _
  have hs1 : W1.heap.size = w.heap.size + 1 := by rw [hW1]; simp
  clear hW1
  have ha1 := (World.cell?_of_block (hg1.block Bt la (by simp))).trans ht
  have hb1 := (World.cell?_of_block (hg1.block Br lb (by simp))).trans hr
  refine (readAll1_any Bt Br sv ts W1 (Txs.moved hT (below_of_grown hg1)) hl hn ha1 hb1).mono ?_
  rintro e W2 ⟨hg2, hcase⟩
  have he2 := (hg2.block w.heap.size (by omega) (by simp)).trans he1
  have G2 : Hid (w.grownBy W2 none) := gtrans hg1 hg2
  have hlt2 : w.heap.size < W2.heap.size := by have := hg2.size; omega
  have e0 := boxed_cell (i := 0) (v := .int .i64 0) he2 rfl
  have ef := boxed_frozen (i := 0) he2
  clear hg1 hg2 he1 ha1 hb1 ht hr hT
  rcases hcase with ⟨k, hk, rfl⟩ | ⟨ps, g, hk, rfl, hown, hrc⟩
  · show Leaves _ _ _ _ _ _ _
    refine leaves_cons (f := 122) (args := #[.pointer (some ⟨w.heap.size, 0, none⟩)]) (by simp) (by simp [go_sem]) ?_
    refine (catchC_panicking w.heap.size 0 k W2 e0 ef).mono ?_
    rintro e u' w'' ⟨rfl, rfl, rfl⟩
    have he3 := block_set (i := 0) he2 (.int .i64 k)
    have e3 := boxed_cell (i := 0) (v := .int .i64 k) he3 rfl
    refine ⟨.tuple #[.slice none 0 0, .int .i64 k], ?_, ?_⟩
    · clear he3 he2
      simp [results, Try.results99, go_sem, e3]
    · exact ⟨gfresh G2.out (by omega), .inl ⟨k, hk, rfl⟩⟩
  · have HO : Hid (OwnsP W1.heap.size W2 (.slice (some ⟨g, 0, none⟩) ts.length ts.length) ps) := hown
    have HC : Hid (ReadCs W1.heap.size W2 ps) := hrc
    have HP : Hid _ := hk
    clear he2 hown hk hrc
    go_wp2
    show Leaves _ _ _ _ _ _ _
    refine leaves_cons (f := 122) (args := #[.pointer (some ⟨w.heap.size, 0, none⟩)]) (by simp) (by simp [go_sem]) ?_
    refine (catchC_idle w.heap.size _).mono ?_
    rintro e u' w'' ⟨rfl, rfl, rfl⟩
    refine ⟨.tuple #[.slice (some ⟨g, 0, none⟩) ts.length ts.length, .int .i64 0], ?_, ?_⟩
    · simp [results, Try.results99, go_sem, e0]
    · refine ⟨gfresh G2.out (by omega), .inr ⟨ps, g, HP.out, rfl, ?_, fun p hp => ?_⟩⟩
      · exact row_base (row_set HO.out (by omega)) (by omega)
      · exact row_base (row_set (HC.out p hp) (by omega)) (by omega)

set_option maxRecDepth 100000 in
set_option maxHeartbeats 1000000 in
theorem readAll_any (sv : Value) (ts : List (List UInt8)) (w : World) (hT : Txs w.heap.size w sv ts) (hl : ∀ t ∈ ts, t.length ≤ 4611686018427387904) (htl : ts.length ≤ 4611686018427387904) :
    Calls Try.prog 70 #[sv, .int .i64 100, .func (.func 71) #[] #[]] w fun e w' =>
      ((ts.length < 1 ∨ 100 < ts.length) ∧ w.grownBy w' none ∧ e = .returned (.tuple #[.slice none 0 0, .int .i64 1])) ∨ (1 ≤ ts.length ∧ ts.length ≤ 100 ∧ ToldR ts w e w') := by
  have hmf : ∀ (fn : Fn) (first cap : Array Value) (w : World), (Instr.makeFunc fn first cap).run Try.prog w = .ok (.func fn first cap) w := fun _ _ _ _ => rfl
  obtain ⟨a, c, rfl⟩ := hT.slice
  have HT : Hid (∀ W, w.grownBy W none → Txs W.heap.size W (.slice a ts.length c) ts) := fun W h => Txs.moved hT (below_of_grown h)
  have HL : Hid _ := hl
  clear hT hl
  go_enter Try.func70, Try.ntmps70
  go_wp2_with fail
  obtain ⟨W1, hW1⟩ : ∃ W1, W1 = (w.alloc (.cells #[.slice a ts.length c] 52)).alloc (.cells #[.func (.func 71) #[] #[]] 109) := ⟨_, rfl⟩
  have hg1 : w.grownBy W1 none := by rw [hW1]; exact gallocR (galloc _ _ _) _
  have ha1 : W1.heap[w.heap.size]? = some (.cells #[.slice a ts.length c] 52 (0, 0)) := by rw [hW1]; exact (Below.heap_alloc _ _ _ (by simp)).trans (World.alloc_heap_new _ _)
  have hb1 : W1.heap[w.heap.size + 1]? = some (.cells #[.func (.func 71) #[] #[]] 109 (0, 0)) := by
    rw [hW1]
    have h := World.alloc_heap_new (w.alloc (.cells #[.slice a ts.length c] 52)) (.cells #[.func (.func 71) #[] #[]] 109)
    rwa [World.size_alloc] at h
  rw [← hW1]
  clear hW1
  refine (within_any _ _ _ _).mono ?_
  rintro e w2 ⟨rfl, rfl⟩
  have G1 : Hid (w.grownBy w2 none) := hg1
  by_cases hc : 1 ≤ ts.length ∧ ts.length ≤ 100
  · have e1 : win (ts.length : Int) 1 100 = true := (win_iff _ _ _).2 ⟨by omega, by omega⟩
    have HF : Hid (∀ u : Unit, _) := fun _ => atFaceC_any w.heap.size (w.heap.size + 1) (.slice a ts.length c) ts w2 (HT.out _ hg1) HL.out hc.2 (boxed_cell ha1 rfl) (boxed_cell hb1 rfl)
    clear hg1 ha1 hb1
    go_wp2_with fail
    refine (HF.out ()).mono ?_
    rintro e w3 ⟨hg3, (⟨k, hk, rfl⟩ | ⟨ps, g, hk, rfl, hown, hrc⟩)⟩
    · have HP : Hid _ := hk
      have G3 : Hid (w.grownBy w3 none) := gtrans G1.out hg3
      clear hk hg3
      go_wp2
      refine bodyPost_ret (results_tmp2 rfl _ _ _) rfl ?_
      exact .inr ⟨hc.1, hc.2, G3.out, .inl ⟨k, HP.out, rfl⟩⟩
    · have HP : Hid _ := hk
      have G3 : Hid (w.grownBy w3 none) := gtrans G1.out hg3
      have HO : Hid (OwnsP w2.heap.size w3 (.slice (some ⟨g, 0, none⟩) ts.length ts.length) ps) := hown
      have HC : Hid (ReadCs w2.heap.size w3 ps) := hrc
      clear hk hg3 hown hrc
      go_wp2
      refine bodyPost_ret (results_tmp2 rfl _ _ _) rfl ?_
      exact .inr ⟨hc.1, hc.2, G3.out, .inr ⟨ps, g, HP.out, rfl, row_base HO.out G1.out.size, fun p hp => row_base (HC.out p hp) G1.out.size⟩⟩
  · have e1 : win (ts.length : Int) 1 100 = false := (win_not _ _ _).2 (by omega)
    clear hg1 ha1 hb1
    go_wp2
    refine bodyPost_ret (results_tmp2 rfl _ _ _) rfl ?_
    exact .inl ⟨by omega, G1.out, rfl⟩
end Go.Proofs.Ytkmeingnhaomaaa
/- The program's sort of chunks. -/
namespace Go.Proofs.Ytkmeingnhaomaaa
open Go.Shelf Go.RowKit Go.Lib Go.Sort
def Try.sortCk_ren : Go.Shelf.Ren := ⟨fun | 6 => 102 | 15 => 125 | 14 => 124 | 28 => 146 | 29 => 147 | 20 => 138 | 21 => 139 | 22 => 140 | 23 => 141 | 24 => 142 | 25 => 143 | 26 => 144 | 27 => 145 | 46 => 149 | 47 => 150 | 48 => 151 | 49 => 152 | 50 => 153 | 57 => 156 | n => n, fun | 22 => 104 | 24 => 108 | 25 => 142 | 3 => 3 | 39 => 158 | 0 => 0 | 53 => 153 | 55 => 176 | 4 => 4 | 46 => 169 | 45 => 168 | 50 => 117 | 5 => 5 | 9 => 9 | 66 => 178 | 70 => 182 | 76 => 186 | 77 => 65 | n => n, fun | n => n⟩
theorem Try.sortCk : Go.Proofs.SlLaysF0.n6 Try.prog Try.sortCk_ren := {
  mixed := by kernel_rfl
  f6 := ⟨Try.f102.name, by decide, Try.func102.trans (congrArg some (by kernel_rfl))⟩
  f14 := ⟨Try.f124.name, by decide, Try.func124.trans (congrArg some (by kernel_rfl))⟩
  f15 := Try.func125.trans (congrArg some (by kernel_rfl))
  f20 := ⟨Try.f138.name, by decide, Try.func138.trans (congrArg some (by kernel_rfl))⟩
  f21 := ⟨Try.f139.name, by decide, Try.func139.trans (congrArg some (by kernel_rfl))⟩
  f22 := ⟨Try.f140.name, by decide, Try.func140.trans (congrArg some (by kernel_rfl))⟩
  f23 := ⟨Try.f141.name, by decide, Try.func141.trans (congrArg some (by kernel_rfl))⟩
  f24 := ⟨Try.f142.name, by decide, Try.func142.trans (congrArg some (by kernel_rfl))⟩
  f25 := ⟨Try.f143.name, by decide, Try.func143.trans (congrArg some (by kernel_rfl))⟩
  f26 := ⟨Try.f144.name, by decide, Try.func144.trans (congrArg some (by kernel_rfl))⟩
  f27 := ⟨Try.f145.name, by decide, Try.func145.trans (congrArg some (by kernel_rfl))⟩
  f28 := Try.func146.trans (congrArg some (by kernel_rfl))
  f29 := Try.func147.trans (congrArg some (by kernel_rfl))
  f46 := ⟨Try.f149.name, by decide, Try.func149.trans (congrArg some (by kernel_rfl))⟩
  f47 := Try.func150.trans (congrArg some (by kernel_rfl))
  f48 := Try.func151.trans (congrArg some (by kernel_rfl))
  f49 := ⟨Try.f152.name, by decide, Try.func152.trans (congrArg some (by kernel_rfl))⟩
  f50 := ⟨Try.f153.name, by decide, Try.func153.trans (congrArg some (by kernel_rfl))⟩
  f57 := ⟨Try.f156.name, by decide, Try.func156.trans (congrArg some (by kernel_rfl))⟩
  t0 := Try.underlying0
  a0 := Try.isAgg0
  z0 := Try.sizeOf0
  v0 := Try.zeroValue0
  t3 := Try.underlying3
  a3 := Try.isAgg3
  z3 := Try.sizeOf3
  v3 := Try.zeroValue3
  t4 := Try.underlying4
  a4 := Try.isAgg4
  z4 := Try.sizeOf4
  v4 := Try.zeroValue4
  t5 := Try.underlying5
  a5 := Try.isAgg5
  z5 := Try.sizeOf5
  v5 := Try.zeroValue5
  t9 := Try.underlying9
  a9 := Try.isAgg9
  z9 := Try.sizeOf9
  v9 := Try.zeroValue9
  t22 := Try.underlying104
  a22 := Try.isAgg104
  z22 := Try.sizeOf104
  v22 := Try.zeroValue104
  t25 := Try.underlying142
  a25 := Try.isAgg142
  z25 := Try.sizeOf142
  v25 := Try.zeroValue142
  t39 := Try.underlying158
  a39 := Try.isAgg158
  z39 := Try.sizeOf158
  v39 := Try.zeroValue158
  t45 := Try.underlying168
  a45 := Try.isAgg168
  z45 := Try.sizeOf168
  v45 := Try.zeroValue168
  t46 := Try.underlying169
  a46 := Try.isAgg169
  z46 := Try.sizeOf169
  v46 := Try.zeroValue169
  t50 := Try.underlying117
  a50 := Try.isAgg117
  z50 := Try.sizeOf117
  v50 := Try.zeroValue117
  t53 := Try.underlying153
  a53 := Try.isAgg153
  z53 := Try.sizeOf153
  v53 := Try.zeroValue153
  t55 := Try.underlying176
  a55 := Try.isAgg176
  z55 := Try.sizeOf176
  v55 := Try.zeroValue176
  t66 := Try.underlying178
  a66 := Try.isAgg178
  z66 := Try.sizeOf178
  v66 := Try.zeroValue178
  t70 := Try.underlying182
  a70 := Try.isAgg182
  z70 := Try.sizeOf182
  v70 := Try.zeroValue182
  t76 := Try.underlying186
  a76 := Try.isAgg186
  z76 := Try.sizeOf186
  v76 := Try.zeroValue186
  t77 := Try.underlying65
  a77 := Try.isAgg65
  z77 := Try.sizeOf65
  v77 := Try.zeroValue65 }
def Try.cmpInt_ren : Go.Shelf.Ren := ⟨fun | 5 => 104 | 7 => 126 | n => n, fun | 22 => 3 | 3 => 3 | 4 => 4 | n => n, fun | n => n⟩
theorem Try.cmpInt : Go.Proofs.SlLaysC2.n5 Try.prog Try.cmpInt_ren := {
  mixed := by kernel_rfl
  f5 := ⟨Try.f104.name, by decide, Try.func104.trans (congrArg some (by kernel_rfl))⟩
  f7 := ⟨Try.f126.name, by decide, Try.func126.trans (congrArg some (by kernel_rfl))⟩
  t3 := Try.underlying3
  a3 := Try.isAgg3
  z3 := Try.sizeOf3
  v3 := Try.zeroValue3
  t4 := Try.underlying4
  a4 := Try.isAgg4
  z4 := Try.sizeOf4
  v4 := Try.zeroValue4
  t22 := Try.underlying3
  a22 := Try.isAgg3
  z22 := Try.sizeOf3
  v22 := Try.zeroValue3 }

/-- A chunk with its list's header. -/
abbrev Sk := Ck × (Option Addr × Nat × Nat)
instance : Inhabited Sk := ⟨(⟨0, 0, 0, 0, 0, 0, 0, []⟩, none, 0, 0)⟩
def skP (x : Sk) : Ck × Value := (x.1, .slice x.2.1 x.2.2.1 x.2.2.2)
def skE (x : Sk) : List Value := pcCells (skP x)
def skC (x y : Sk) : Int := Lib.compareInt x.1.nu y.1.nu

theorem sk_lt (x y : Sk) : ltOf skC x y = decide (x.1.nu < y.1.nu) := by
  unfold ltOf skC Lib.compareInt
  by_cases h1 : x.1.nu < y.1.nu
  · simp [h1]
  · by_cases h2 : y.1.nu < x.1.nu <;> simp [h1, h2]
theorem sk_swo : SWO (ltOf skC) where
  irrefl x := by rw [sk_lt]; simp
  trans x y z h1 h2 := by rw [sk_lt] at *; simp at *; omega
  ntrans x y z h1 h2 := by rw [sk_lt] at *; simp at *; omega

set_option maxRecDepth 100000 in
set_option maxHeartbeats 1000000 in
theorem joined1_any (x y : Sk) (W : World) : Calls Try.prog 103 #[.agg (skE x).toArray, .agg (skE y).toArray] W fun e w' => e = .returned (.int .i64 (skC x y)) ∧ ∃ q os', w' = grow (W.drewN q) os' := by
  obtain ⟨⟨f1, t1, b1, z1, a1, n1, m1, r1⟩, xa, xl, xc⟩ := x
  obtain ⟨⟨f2, t2, b2, z2, a2, n2, m2, r2⟩, ya, yl, yc⟩ := y
  have hcon := fun W' => AnyG.cmp_Compare_int Try.cmpInt (n1 : Int) (n2 : Int) W'
  change ∀ W', Calls Try.prog 104 _ _ _ at hcon
  have HC : Hid _ := hcon
  clear hcon
  show Calls Try.prog 103 #[.agg #[.int .i64 f1, .int .i64 t1, .int .i64 b1, .int .i64 z1, .int .i64 a1, .int .i64 n1, .int .i64 m1, .slice xa xl xc], .agg #[.int .i64 f2, .int .i64 t2, .int .i64 b2, .int .i64 z2, .int .i64 a2, .int .i64 n2, .int .i64 m2, .slice ya yl yc]] W fun e w' => e = .returned (.int .i64 (Lib.compareInt n1 n2)) ∧ ∃ q os', w' = grow (W.drewN q) os'
  generalize Lib.compareInt (n1 : Int) (n2 : Int) = r at *
  go_enter Try.func103, Try.ntmps103
  go_wp2_with fail
  refine (HC.out _).mono ?_
  rintro e w' ⟨rfl, rfl⟩
  go_wp2
  go_ret
  exact ⟨rfl, 0, _, by rw [alloc_eq_grow, alloc_eq_grow, grow_grow]; rfl⟩

theorem sk_flat (xs : List Sk) : (flatK skE 8 xs.toArray).toList = (xs.map skP).flatMap pcCells := by
  apply List.ext_getElem?
  intro i
  by_cases hi : i < xs.length * 8
  · have hd : i / 8 < xs.length := by omega
    have h2 := pcCells_at (xs.map skP) (i / 8) (by simp; omega) (i % 8) (by omega)
    rw [show i / 8 * 8 + i % 8 = i from by omega] at h2
    rw [h2, Array.getElem?_toList]
    have hd2 : i / 8 < (xs.map skP).length := by simpa using hd
    have h3 : (pcCells ((xs.map skP)[i / 8]'hd2)).length = 8 := rfl
    simp only [flatK, List.size_toArray, Array.getElem?_map, Array.getElem?_range, hi, if_true, Option.map_some]
    rw [List.getElem!_toArray, getElem!_pos xs (i / 8) hd, List.getElem?_eq_getElem (by rw [h3]; omega), getElem!_pos (skE xs[i / 8]) (i % 8) (show i % 8 < 8 by omega)]
    simp [skE]
  · rw [List.getElem?_eq_none (by simp; omega), List.getElem?_eq_none (by rw [pcCells_length]; simp; omega)]

theorem holds_sk {w : World} {g : Nat} {cur : Array Value} {e : TypeId} {xs : List Sk} (hb : w.heap[g]? = some (.cells cur e (0, 0))) (ht : cur.toList.take (xs.length * 8) = (xs.map skP).flatMap pcCells) : HoldsK skE 8 w g 0 xs.toArray := by
  intro j hj
  have hj' : j < xs.length * 8 := by simpa using hj
  refine ⟨?_, by simp [World.frozen?, hb]⟩
  have h1 : (cur.toList.take (xs.length * 8))[j]? = (flatK skE 8 xs.toArray).toList[j]? := by rw [ht, sk_flat]
  rw [List.getElem?_take_of_lt hj', Array.getElem?_toList, Array.getElem?_toList] at h1
  rw [Nat.zero_add]
  refine boxed_cell hb ?_
  rw [h1, getElem!_pos _ j hj, Array.getElem?_eq_getElem hj]
  rfl

theorem heap_sk {w : World} {g n : Nat} {os : Array Obj} {cur : Array Value} {e : TypeId} {fr : Nat × Nat} (d : Array Sk) (hb : w.heap[g]? = some (.cells cur e fr)) :
    (sortWorldK skE 8 w g 0 n d os).heap[g]? = some (.cells (putCells id 0 (flatK skE 8 d) cur) e fr) := by
  have hg : g < w.heap.size := (Array.getElem?_eq_some_iff.1 hb).1
  unfold sortWorldK putRowK
  rw [heap_grow_old _ _ (by simpa using hg)]
  simp [putRow, mapBlock, Sort.ahead, Array.getElem?_modify, hb, onCells]
theorem grown_sk {w : World} {g n : Nat} {os : Array Obj} (d : Array Sk) : w.grownBy (sortWorldK skE 8 w g 0 n d os) (some g) := by
  refine ⟨rfl, rfl, rfl, by unfold sortWorldK putRowK; simp, fun k hk hne => ?_⟩
  unfold sortWorldK putRowK
  rw [heap_grow_old _ _ (by simpa using hk)]
  have : g ≠ k := fun e => hne (by rw [e])
  simp [putRow, mapBlock, Sort.ahead, Array.getElem?_modify, this]
theorem take_sk (cur F : Array Value) (h : F.size ≤ cur.size) : (putCells id 0 F cur).toList.take F.size = F.toList := by
  apply List.ext_getElem?
  intro j
  by_cases hj : j < F.size
  · rw [List.getElem?_take_of_lt hj, Array.getElem?_toList, Array.getElem?_toList]
    simp [putCells, hj, show j < cur.size by omega]
  · rw [List.getElem?_take_eq_none (by omega), List.getElem?_eq_none (by simpa using hj)]

/-- **The sort of chunks by their numbers.** -/
theorem sort_any (g cap B : Nat) (xs : List Sk) (w : World) (h : OwnsP B w (.slice (some ⟨g, 0, none⟩) xs.length cap) (xs.map skP)) (hn : xs.length ≤ 100) :
    Calls Try.prog 102 #[.slice (some ⟨g, 0, none⟩) xs.length cap, .func (.func 103) #[] #[]] w fun e w' => e = .returned (.tuple #[]) ∧
      ∃ ys : List Sk, ys.Perm xs ∧ ys.Pairwise (fun a b => a.1.nu ≤ b.1.nu) ∧ OwnsP B w' (.slice (some ⟨g, 0, none⟩) xs.length cap) (ys.map skP) ∧ w.grownBy w' (some g) := by
  rcases h.2 with ⟨e0, h0⟩ | ⟨g', cap', cur, e0, hb, hg, hc, hm, hs, ht⟩
  · cases e0
  have e1 := e0
  simp only [Value.slice.injEq, Option.some.injEq, Addr.mk.injEq] at e1
  obtain ⟨⟨rfl, -, -⟩, -, rfl⟩ := e1
  rw [List.length_map] at hc ht
  have eg : ∀ args w, (callFunc 103 args).run Try.prog w = .ok (.enter 103 args) w := enters_of Try.func103 (by kernel_rfl) rfl
  have hlays : CmpLays Try.prog 103 #[] skE 8 skC g 0 xs.toArray.size w := fun _ _ _ _ x y => joined1_any x y _
  have hcon := AnyQ.slices_SortFunc Try.sortCk 8 Try.isAgg108 Try.sizeOf108 skE (fun _ => rfl) (fun x v hv => by simp [skE, pcCells, skP] at hv; rcases hv with rfl | rfl | rfl | rfl | rfl | rfl | rfl | rfl <;> rfl) skC sk_swo 103 #[] g 0 cap xs.toArray w eg hlays (holds_sk hg ht) ((Array.getElem?_eq_some_iff.1 hg).1) (by simp; omega)
  change Calls Try.prog 102 _ _ _ at hcon
  rw [show xs.toArray.size = xs.length from by simp] at hcon
  refine hcon.mono ?_
  rintro e w' ⟨rfl, d', n, os, hp, hsr, rfl⟩
  have hds : d'.size = xs.length := by rw [hp.1]; simp
  have hperm : d'.toList.Perm xs := by
    have := hp.2.2
    rw [show d'.extract 0 xs.length = d' from by rw [← hds]; simp, show xs.toArray.extract 0 xs.length = xs.toArray from by simp] at this
    simpa using this
  refine ⟨rfl, d'.toList, hperm, ?_, ?_, grown_sk d'⟩
  · rw [List.pairwise_iff_getElem]
    intro i j hi hj hij
    have := hsr i j (Nat.zero_le _) hij (by simpa [hds] using hj)
    rw [sk_lt, getElem!_pos d' j (by simpa using hj), getElem!_pos d' i (by simpa using hi)] at this
    simp only [decide_eq_false_iff_not, Nat.not_lt] at this
    simpa using this
  · have hl : (d'.toList.map skP).length = xs.length := by simp [hds]
    refine ⟨pcCells_length _, .inr ⟨g, cap, _, by rw [hl], hb, heap_sk d' hg, by rw [hl]; exact hc, hm, by simp [putCells, hs], ?_⟩⟩
    have hF : (flatK skE 8 d').toList = (d'.toList.map skP).flatMap pcCells := by
      have := sk_flat d'.toList
      simpa using this
    have hfs : (flatK skE 8 d').size = xs.length * 8 := by simp [hds]
    rw [hl, ← hF, ← hfs]
    exact take_sk cur _ (by rw [hfs, hs]; omega)
end Go.Proofs.Ytkmeingnhaomaaa
/- The program's complete. -/
namespace Go.Proofs.Ytkmeingnhaomaaa
open Go.Shelf Go.RowKit

theorem OwnsP.cells {B : Nat} {W : World} {g l cp : Nat} {ps : List (Ck × Value)} (h : OwnsP B W (.slice (some ⟨g, 0, none⟩) l cp) ps) (k : Nat) (hk : k < ps.length) :
    W.cell? ⟨g, k * 8, none⟩ = some (.int .i64 ps[k].1.f) ∧ W.cell? ⟨g, k * 8 + 1, none⟩ = some (.int .i64 ps[k].1.t) ∧ W.cell? ⟨g, k * 8 + 2, none⟩ = some (.int .i64 ps[k].1.b) ∧ W.cell? ⟨g, k * 8 + 3, none⟩ = some (.int .i64 ps[k].1.z) ∧ W.cell? ⟨g, k * 8 + 4, none⟩ = some (.int .i64 ps[k].1.all) ∧ W.cell? ⟨g, k * 8 + 5, none⟩ = some (.int .i64 ps[k].1.nu) ∧ W.cell? ⟨g, k * 8 + 6, none⟩ = some (.int .i64 ps[k].1.many) ∧ W.cell? ⟨g, k * 8 + 7, none⟩ = some ps[k].2 := by
  obtain ⟨cur, hg, hc⟩ := h.at hk
  exact ⟨boxed_cell hg (hc 0 _ rfl (by omega)), boxed_cell hg (hc 1 _ rfl (by omega)), boxed_cell hg (hc 2 _ rfl (by omega)), boxed_cell hg (hc 3 _ rfl (by omega)), boxed_cell hg (hc 4 _ rfl (by omega)), boxed_cell hg (hc 5 _ rfl (by omega)), boxed_cell hg (hc 6 _ rfl (by omega)), boxed_cell hg (hc 7 _ rfl (by omega))⟩
theorem OwnsP.keptN {B : Nat} {W W' : World} {v : Value} {ps : List (Ck × Value)} (h : OwnsP B W v ps) (hg : W.grownBy W' none) : OwnsP B W' v ps := by
  refine World.ownsRow.kept h hg ?_
  rcases h.2 with ⟨rfl, _⟩ | ⟨g, cap, cur, rfl, _⟩
  · exact .inl rfl
  · exact .inr (by simp [Value.ownBlock])

/-- The k-th chunk is the one that it should be. -/
def ckIs (ps : List (Ck × Value)) (n k : Nat) (p : Ck × Value) : Prop :=
  ∃ a, ps[0]? = some a ∧ (p.1.f = a.1.f ∧ p.1.t = a.1.t ∧ p.1.b = a.1.b ∧ p.1.z = a.1.z ∧ p.1.all = a.1.all) ∧ p.1.many = n ∧ p.1.nu = k
def completeR (ps : List (Ck × Value)) : Prop := ∀ k p, ps[k]? = some p → ckIs ps ps.length k p

set_option maxRecDepth 100000 in
set_option maxHeartbeats 4000000 in
theorem complete_any (g cap B : Nat) (ps : List (Ck × Value)) (w : World) (h : OwnsP B w (.slice (some ⟨g, 0, none⟩) ps.length cap) ps) (hn : ps.length ≤ 100) (h1 : 1 ≤ ps.length) (hsl : ∀ p ∈ ps, ∃ a n c, p.2 = .slice a n c) :
    Calls Try.prog 105 #[.slice (some ⟨g, 0, none⟩) ps.length cap] w fun e w' => w.grownBy w' none ∧ ∃ ok : Bool, e = .returned (.bool ok) ∧ (ok = true ↔ completeR ps) := by
  have HO : Hid (OwnsP B w (.slice (some ⟨g, 0, none⟩) ps.length cap) ps) := h
  have HSL : Hid _ := hsl
  clear h hsl
  go_enter Try.func105, Try.ntmps105
  go_wp2
  go_loopw [7] (fun i wr => ∃ k : Nat, k ≤ ps.length ∧ i = .int .i64 k ∧ (∀ j p, j < k → ps[j]? = some p → ckIs ps ps.length j p) ∧ w.grownBy wr none) (fun i _ => ps.length - (intOf i).toNat)
  case atStart => exact ⟨0, Nat.zero_le _, rfl, fun j p hj => absurd hj (Nat.not_lt_zero _), ⟨rfl, rfl, rfl, Nat.le_refl _, fun _ _ _ => rfl⟩⟩
  case round =>
    obtain ⟨k, hk, rfl, hdone, hg⟩ := hrel
    have H_G : Hid (w.grownBy wr none) := hg
    have H_D : Hid _ := hdone
    have o2 := HO.out.keptN hg
    clear hg hdone
    by_cases hlt : k < ps.length
    · obtain ⟨x0, x1, x2, x3, x4, x5, x6, x7⟩ := o2.cells k hlt
      obtain ⟨a0, a1, a2, a3, a4, -⟩ := o2.cells 0 (by omega)
      obtain ⟨va, vn, vc, hv⟩ := HSL.out ps[k] (List.getElem_mem hlt)
      rw [hv] at x7
      have hgl := World.block_lt_of_cell? _ _ x0
      clear hv
      have HK : Hid (∀ q, ps[k]? = some q → q.1 = ps[k].1) := fun q hq => by
        rw [List.getElem?_eq_getElem hlt] at hq
        cases hq
        rfl
      have HA : Hid (ps[0]? = some (ps[0]'(by omega))) := List.getElem?_eq_getElem _
      generalize hpk : ps[k].1 = cc at *
      generalize hpa : (ps[0]'(by omega)).1 = aa at *
      have hcase : (((cc.f : Int) == (aa.f : Int)) = false) ∨ (((cc.f : Int) == (aa.f : Int)) = true ∧ ((cc.t : Int) == (aa.t : Int)) = false) ∨ (((cc.f : Int) == (aa.f : Int)) = true ∧ ((cc.t : Int) == (aa.t : Int)) = true ∧ ((cc.b : Int) == (aa.b : Int)) = false) ∨ (((cc.f : Int) == (aa.f : Int)) = true ∧ ((cc.t : Int) == (aa.t : Int)) = true ∧ ((cc.b : Int) == (aa.b : Int)) = true ∧ ((cc.z : Int) == (aa.z : Int)) = false) ∨ (((cc.f : Int) == (aa.f : Int)) = true ∧ ((cc.t : Int) == (aa.t : Int)) = true ∧ ((cc.b : Int) == (aa.b : Int)) = true ∧ ((cc.z : Int) == (aa.z : Int)) = true ∧ ((cc.all : Int) == (aa.all : Int)) = false) ∨ (((cc.f : Int) == (aa.f : Int)) = true ∧ ((cc.t : Int) == (aa.t : Int)) = true ∧ ((cc.b : Int) == (aa.b : Int)) = true ∧ ((cc.z : Int) == (aa.z : Int)) = true ∧ ((cc.all : Int) == (aa.all : Int)) = true ∧ ((cc.many : Int) != (ps.length : Int)) = true) ∨ (((cc.f : Int) == (aa.f : Int)) = true ∧ ((cc.t : Int) == (aa.t : Int)) = true ∧ ((cc.b : Int) == (aa.b : Int)) = true ∧ ((cc.z : Int) == (aa.z : Int)) = true ∧ ((cc.all : Int) == (aa.all : Int)) = true ∧ ((cc.many : Int) != (ps.length : Int)) = false ∧ ((cc.nu : Int) != (k : Int)) = true) ∨ (((cc.f : Int) == (aa.f : Int)) = true ∧ ((cc.t : Int) == (aa.t : Int)) = true ∧ ((cc.b : Int) == (aa.b : Int)) = true ∧ ((cc.z : Int) == (aa.z : Int)) = true ∧ ((cc.all : Int) == (aa.all : Int)) = true ∧ ((cc.many : Int) != (ps.length : Int)) = false ∧ ((cc.nu : Int) != (k : Int)) = false) := by
        by_cases e0 : cc.f = aa.f
        · by_cases e1 : cc.t = aa.t
          · by_cases e2 : cc.b = aa.b
            · by_cases e3 : cc.z = aa.z
              · by_cases e4 : cc.all = aa.all
                · by_cases e5 : cc.many = ps.length
                  · by_cases e6 : cc.nu = k
                    · exact .inr (.inr (.inr (.inr (.inr (.inr (.inr (⟨by rw [e0]; simp, by rw [e1]; simp, by rw [e2]; simp, by rw [e3]; simp, by rw [e4]; simp, by rw [e5]; simp, by rw [e6]; simp⟩)))))))
                    · exact .inr (.inr (.inr (.inr (.inr (.inr (.inl ⟨by rw [e0]; simp, by rw [e1]; simp, by rw [e2]; simp, by rw [e3]; simp, by rw [e4]; simp, by rw [e5]; simp, by simp; omega⟩))))))
                  · exact .inr (.inr (.inr (.inr (.inr (.inl ⟨by rw [e0]; simp, by rw [e1]; simp, by rw [e2]; simp, by rw [e3]; simp, by rw [e4]; simp, by simp; omega⟩)))))
                · exact .inr (.inr (.inr (.inr (.inl ⟨by rw [e0]; simp, by rw [e1]; simp, by rw [e2]; simp, by rw [e3]; simp, by simp; omega⟩))))
              · exact .inr (.inr (.inr (.inl ⟨by rw [e0]; simp, by rw [e1]; simp, by rw [e2]; simp, by simp; omega⟩)))
            · exact .inr (.inr (.inl ⟨by rw [e0]; simp, by rw [e1]; simp, by simp; omega⟩))
          · exact .inr (.inl ⟨by rw [e0]; simp, by simp; omega⟩)
        · exact .inl (by simp; omega)
      have HNo : Hid (¬ (cc.f = aa.f ∧ cc.t = aa.t ∧ cc.b = aa.b ∧ cc.z = aa.z ∧ cc.all = aa.all ∧ cc.many = ps.length ∧ cc.nu = k) → ¬ completeR ps) := by
        intro hno hc
        obtain ⟨a, ha, h5, h6, h7⟩ := hc k ps[k] (List.getElem?_eq_getElem hlt)
        rw [HA.out] at ha
        cases ha
        rw [hpk, hpa] at h5
        rw [hpk] at h6 h7
        exact hno ⟨h5.1, h5.2.1, h5.2.2.1, h5.2.2.2.1, h5.2.2.2.2, h6, h7⟩
      have HYes : Hid (cc.f = aa.f ∧ cc.t = aa.t ∧ cc.b = aa.b ∧ cc.z = aa.z ∧ cc.all = aa.all ∧ cc.many = ps.length ∧ cc.nu = k → ∀ j p, j < k + 1 → ps[j]? = some p → ckIs ps ps.length j p) := by
        intro hy j p hj hp
        by_cases hjk : j < k
        · exact H_D.out j p hjk hp
        · obtain rfl : j = k := by omega
          refine ⟨_, HA.out, ?_, ?_, ?_⟩
          · rw [HK.out p hp, hpa]
            exact ⟨hy.1, hy.2.1, hy.2.2.1, hy.2.2.2.1, hy.2.2.2.2.1⟩
          · rw [HK.out p hp]; exact hy.2.2.2.2.2.1
          · rw [HK.out p hp]; exact hy.2.2.2.2.2.2
      clear hpk hpa HK
      obtain ⟨Wc, hWc⟩ : ∃ Wc, Wc = wr.alloc (.cells #[.int .i64 cc.f, .int .i64 cc.t, .int .i64 cc.b, .int .i64 cc.z, .int .i64 cc.all, .int .i64 cc.nu, .int .i64 cc.many, .slice va vn vc] 108) := ⟨_, rfl⟩
      have hgc : wr.grownBy Wc none := by rw [hWc]; exact galloc _ _ _
      have hbc : Wc.heap[wr.heap.size]? = some (.cells #[.int .i64 cc.f, .int .i64 cc.t, .int .i64 cc.b, .int .i64 cc.z, .int .i64 cc.all, .int .i64 cc.nu, .int .i64 cc.many, .slice va vn vc] 108 (0, 0)) := by rw [hWc]; exact World.alloc_heap_new _ _
      have kc : ∀ o, Wc.cell? ⟨g, o, none⟩ = wr.cell? ⟨g, o, none⟩ := fun o => World.cell?_of_block (a := ⟨g, o, none⟩) (hgc.block g hgl (by simp))
      go_wp2
      rw [← hWc]
      clear hWc
      have b0 := (kc _).trans a0
      have b1 := (kc _).trans a1
      have b2 := (kc _).trans a2
      have b3 := (kc _).trans a3
      have b4 := (kc _).trans a4
      have c0 := boxed_cell (i := 0) hbc rfl
      have c1 := boxed_cell (i := 1) hbc rfl
      have c2 := boxed_cell (i := 2) hbc rfl
      have c3 := boxed_cell (i := 3) hbc rfl
      have c4 := boxed_cell (i := 4) hbc rfl
      have c5 := boxed_cell (i := 5) hbc rfl
      have c6 := boxed_cell (i := 6) hbc rfl
      have GC : Hid (w.grownBy Wc none) := gtrans H_G.out hgc
      clear a0 a1 a2 a3 a4 x0 x1 x2 x3 x4 x5 x6 x7 hgc hbc kc o2
      simp only [Nat.zero_mul, Nat.zero_add] at b0 b1 b2 b3 b4
      have hpos : (0 : Int) < (ps.length : Int) := by omega
      have hpos2 : 0 < ps.length := by omega
      have hpos3 : (0 : Int) ≤ 0 := by omega
      rcases hcase with q0 | ⟨q0, q1⟩ | ⟨q0, q1, q2⟩ | ⟨q0, q1, q2, q3⟩ | ⟨q0, q1, q2, q3, q4⟩ | ⟨q0, q1, q2, q3, q4, q5⟩ | ⟨q0, q1, q2, q3, q4, q5, q6⟩ | ⟨q0, q1, q2, q3, q4, q5, q6⟩
      case inr.inr.inr.inr.inr.inr.inr =>
        have hy : cc.f = aa.f ∧ cc.t = aa.t ∧ cc.b = aa.b ∧ cc.z = aa.z ∧ cc.all = aa.all ∧ cc.many = ps.length ∧ cc.nu = k := by
          simp only [beq_iff_eq, bne_eq_false_iff_eq] at q0 q1 q2 q3 q4 q5 q6
          omega
        have HY : Hid _ := HYes.out hy
        clear hy HYes HNo
        go_quiet (fail)
        go_wp2
        go_roundw
        case rel => exact ⟨k + 1, by omega, by go_num, HY.out, gdrewR GC.out _⟩
        case measure => simp [intOf]; omega
      all_goals
        have hno : ¬ (cc.f = aa.f ∧ cc.t = aa.t ∧ cc.b = aa.b ∧ cc.z = aa.z ∧ cc.all = aa.all ∧ cc.many = ps.length ∧ cc.nu = k) := by
          rintro ⟨h0, h1, h2, h3, h4, h5, h6⟩
          simp_all
        have HN : Hid (¬ completeR ps) := HNo.out hno
        clear hno HYes HNo
        go_quiet (fail)
        go_wp2
        go_ret
        exact ⟨gdrewR GC.out _, false, rfl, by simpa using HN.out⟩
    · obtain rfl : k = ps.length := by omega
      go_wp2
      go_ret
      exact ⟨H_G.out, true, rfl, by simp; exact fun j p hp => H_D.out j p (by have := List.getElem?_eq_some_iff.1 hp; exact this.1) hp⟩
end Go.Proofs.Ytkmeingnhaomaaa
/- The program's inTurn: the records of the chunks, one behind the other. -/
namespace Go.Proofs.Ytkmeingnhaomaaa
open Go.Shelf Go.RowKit

attribute [local go_sem] Oper.semAt_some

theorem kept_size {M : Nat} {W W' : World} (hM : M ≤ W.heap.size) (h : KeptOn (fun k => k < M) W W') : M ≤ W'.heap.size := by
  by_cases h0 : M = 0
  · omega
  · have := h.lt (fun k hk => by omega) (M - 1) (by omega)
    omega
def turnR (ps : List (Ck × Value)) : List Rc := ps.flatMap (fun p => p.1.rs)

set_option maxHeartbeats 1000000 in
theorem inTurn_any (a : Option Addr) (len cap : Nat) (w : World) :
    Calls Try.prog 106 #[.slice a len cap] w fun e w' => e = .returned (.func (.func 127) #[] #[.pointer (some ⟨w.heap.size, 0, none⟩)]) ∧ w' = w.alloc (.cells #[.slice a len cap] 104) := by
  have hmf : ∀ (fn : Fn) (first cap : Array Value) (w : World), (Instr.makeFunc fn first cap).run Try.prog w = .ok (.func fn first cap) w := fun _ _ _ _ => rfl
  go_enter Try.func106, Try.ntmps106
  go_wp2
  go_ret
  exact ⟨rfl, rfl⟩

set_option maxRecDepth 100000 in
set_option maxHeartbeats 2000000 in
theorem inTurn1_in (n : Nat) (hn : 1 ≤ n) (l Bs g cap M : Nat) (ps : List (Ck × Value)) (hlen : ps.length ≤ 100) (hreach : ∀ p ∈ ps, p.1.rs.length ≤ 1000) (J Jx : List Rc → World → Prop)
    (W : World) (hJ : OwnIt none W.heap.size J) (hM : M ≤ W.heap.size)
    (hY : ∀ pre x W, J pre W → pre ++ [x] <+: turnR ps → YieldAt Fence.wide (n - 1) Try.prog l #[.agg #[.bool x.free, .int .i64 x.block, .string x.data]] W fun e W' =>
      (e = .returned (.bool true) ∧ J (pre ++ [x]) W' ∧ KeptOn (fun k => k < M) W W') ∨ (e = .returned (.bool false) ∧ Jx (pre ++ [x]) W'))
    (hBs : W.cell? ⟨Bs, 0, none⟩ = some (.slice (some ⟨g, 0, none⟩) ps.length cap)) (hgM : g < M)
    (hO : OwnsP 0 W (.slice (some ⟨g, 0, none⟩) ps.length cap) ps) (hR : ∀ p ∈ ps, Recs M W p.2 p.1.rs)
    (h0 : J [] W) :
    CallsIn Fence.wide n Try.prog 127 #[.func (.yield l) #[] #[], .pointer (some ⟨Bs, 0, none⟩)] W fun e W' =>
      (∃ v, e = .returned v ∧ (J (turnR ps) W' ∨ (∃ pre, pre <+: turnR ps ∧ Jx pre W'))) := by
  refine callsIn_of_wp Try.func127 rfl trivial ?_ rfl
  simp only [Try.ntmps127, List.size_toArray, List.length_cons, List.length_nil, Nat.reduceAdd, Nat.reduceSub, Array.replicate_succ, Array.replicate_zero, List.push_toArray, List.append_toArray, List.nil_append, List.cons_append]
  have HO : Hid _ := hO
  have HR : Hid _ := hR
  have HY : Hid _ := hY
  have HL : Hid _ := hreach
  clear hO hR hY hreach
  gi_wp2
  gi_loopw [9] (fun i wr => ∃ k : Nat, k ≤ ps.length ∧ i = .int .i64 k ∧ J (turnR (ps.take k)) wr ∧ KeptOn (fun k => k < M) W wr)
    (fun i _ => ps.length - (intOf i).toNat)
  case atStart => exact ⟨0, Nat.zero_le _, rfl, h0, KeptOn.refl _ _⟩
  case round =>
    obtain ⟨k, hk, rfl, hJs, hkp⟩ := hrel
    have hsz := kept_size hM hkp
    by_cases hlt : k < ps.length
    · obtain ⟨x0, x1, x2, x3, x4, x5, x6, x7⟩ := OwnsP.cells HO.out k hlt
      have ck : ∀ o, wr.cell? ⟨g, o, none⟩ = W.cell? ⟨g, o, none⟩ := fun o => hkp.cell hgM
      replace x0 := (ck _).trans x0
      replace x1 := (ck _).trans x1
      replace x2 := (ck _).trans x2
      replace x3 := (ck _).trans x3
      replace x4 := (ck _).trans x4
      replace x5 := (ck _).trans x5
      replace x6 := (ck _).trans x6
      replace x7 := (ck _).trans x7
      have hts : turnR (ps.take (k + 1)) = turnR (ps.take k) ++ ps[k].1.rs := by
        unfold turnR
        rw [List.take_succ_eq_append_getElem hlt, List.flatMap_append, List.flatMap_cons, List.flatMap_nil, List.append_nil]
      have hpre : turnR (ps.take k) ++ ps[k].1.rs <+: turnR ps := by
        rw [← hts]
        unfold turnR
        conv => rhs; rw [← List.take_append_drop (k + 1) ps, List.flatMap_append]
        exact List.prefix_append _ _
      have HT : Hid _ := hts
      have HP : Hid _ := hpre
      have hrec := HR.out ps[k] (List.getElem_mem hlt)
      have hrl := HL.out ps[k] (List.getElem_mem hlt)
      clear hts hpre ck
      generalize hpk : ps[k] = pk at *
      obtain ⟨cc, sv⟩ := pk
      dsimp only at x0 x1 x2 x3 x4 x5 x6 x7 hrec hrl
      obtain ⟨rs, hrs⟩ : ∃ rs, rs = cc.rs := ⟨_, rfl⟩
      have HT2 : Hid (turnR (ps.take (k + 1)) = turnR (ps.take k) ++ rs) := by rw [hrs]; exact HT.out
      have HP2 : Hid (turnR (ps.take k) ++ rs <+: turnR ps) := by rw [hrs]; exact HP.out
      rw [← hrs] at hrec hrl
      clear HT HP hrs hpk
      have hgl : g < wr.heap.size := by omega
      obtain ⟨a, cp, rfl, hcs⟩ : ∃ a cp, sv = .slice a rs.length cp ∧ ∀ j (h : j < rs.length), ∃ b off, a = some ⟨b, off, none⟩ ∧ b < M ∧ W.cell? ⟨b, off + j * 3, none⟩ = some (.bool rs[j].free) ∧ W.cell? ⟨b, off + j * 3 + 1, none⟩ = some (.int .i64 rs[j].block) ∧ W.cell? ⟨b, off + j * 3 + 2, none⟩ = some (.string rs[j].data) := by
        rcases hrec with ⟨e, a, cp, rfl⟩ | ⟨b, off, cp, rfl, hb, hc⟩
        · exact ⟨a, cp, by rw [e]; rfl, fun j h => by rw [e] at h; exact absurd h (Nat.not_lt_zero _)⟩
        · exact ⟨_, cp, rfl, fun j h => ⟨b, off, rfl, hb, hc j h⟩⟩
      have HC : Hid _ := hcs
      clear hcs hrec
      obtain ⟨Wc, hWc⟩ : ∃ Wc, Wc = wr.alloc (.cells #[.int .i64 cc.f, .int .i64 cc.t, .int .i64 cc.b, .int .i64 cc.z, .int .i64 cc.all, .int .i64 cc.nu, .int .i64 cc.many, .slice a rs.length cp] 108) := ⟨_, rfl⟩
      have hJc : J (turnR (ps.take k)) Wc := by rw [hWc]; exact hJ.alloc _ hJs
      have hkc : KeptOn (fun k => k < M) W Wc := by rw [hWc]; exact hkp.alloc (fun k hk => by omega) _
      have hb7 : Wc.cell? ⟨wr.heap.size, 7, none⟩ = some (.slice a rs.length cp) := by rw [hWc]; exact boxed_cell (World.alloc_heap_new _ _) rfl
      gi_wp2
      rw [← hWc]
      clear hWc hJs hkp
      gi_wp2
      gi_loopw [16] (fun i wr => ∃ j : Nat, j ≤ rs.length ∧ i = .int .i64 j ∧ J (turnR (ps.take k) ++ rs.take j) wr ∧ KeptOn (fun k => k < M) W wr)
        (fun i _ => rs.length - (intOf i).toNat)
      case atStart => exact ⟨0, Nat.zero_le _, rfl, by simpa using hJc, hkc⟩
      case round =>
        obtain ⟨j, hj, rfl, hJs, hkp⟩ := hrel
        have hsz := kept_size hM hkp
        by_cases hlj : j < rs.length
        · obtain ⟨b, off, rfl, hb, q0, q1, q2⟩ := HC.out j hlj
          have cb : ∀ o, wr.cell? ⟨b, o, none⟩ = W.cell? ⟨b, o, none⟩ := fun o => hkp.cell hb
          replace q0 := (cb _).trans q0
          replace q1 := (cb _).trans q1
          replace q2 := (cb _).trans q2
          clear cb
          have hbw : b < wr.heap.size := by omega
          have hts : rs.take (j + 1) = rs.take j ++ [rs[j]] := List.take_succ_eq_append_getElem hlj
          have hpre : (turnR (ps.take k) ++ rs.take j) ++ [rs[j]] <+: turnR ps := by
            rw [List.append_assoc, ← hts]
            exact ((List.prefix_append_right_inj _).2 (List.take_prefix _ _)).trans HP2.out
          have HT3 : Hid _ := hts
          have HP3 : Hid _ := hpre
          clear hts hpre
          obtain ⟨fn, tmps, assign, body, hy, hR⟩ := HY.out (turnR (ps.take k) ++ rs.take j) rs[j] (wr.alloc (.cells #[.bool rs[j].free, .int .i64 rs[j].block, .string rs[j].data] 34)) (hJ.alloc _ hJs) HP3.out
          generalize hr : rs[j] = r at *
          have hbf : rs.length ≤ 9223372036854775807 := by omega
          gi_wp2
          refine hR.mono ?_
          rintro e W3 (⟨rfl, hJ3, hk3⟩ | ⟨rfl, hJx3⟩)
          · gi_wp2
            go_roundw
            case rel =>
              exact ⟨j + 1, by omega, by simp, by rw [HT3.out, ← List.append_assoc]; exact hJ3, (hkp.alloc (fun k hk => by omega) _).trans hk3⟩
            case measure => simp [intOf]; omega
          · gi_wp2
            refine bodyPost_ret (results_none rfl _ _ _) rfl ?_
            exact ⟨_, rfl, .inr ⟨_, HP3.out, hJx3⟩⟩
        · obtain rfl : j = rs.length := by omega
          rw [List.take_length] at hJs
          gi_wp2
          go_roundw
          case rel => exact ⟨k + 1, by omega, by simp, by rw [HT2.out]; exact hJs, hkp⟩
          case measure => simp [intOf]; omega
    · obtain rfl : k = ps.length := by omega
      rw [List.take_length] at hJs
      gi_wp2
      go_end0
      exact ⟨_, rfl, .inl hJs⟩

/-- **inTurn has its contract.** -/
theorem inTurn_seq (n : Nat) (hn : 1 ≤ n) (Bs g cap : Nat) (ps : List (Ck × Value)) (hlen : ps.length ≤ 100) (hreach : ∀ p ∈ ps, p.1.rs.length ≤ 1000) (w : World) (hc : w.cell? ⟨Bs, 0, none⟩ = some (.slice (some ⟨g, 0, none⟩) ps.length cap))
    (h1 : 1 ≤ ps.length) (hO : OwnsP 0 w (.slice (some ⟨g, 0, none⟩) ps.length cap) ps) (hR : ∀ p ∈ ps, Recs w.heap.size w p.2 p.1.rs) :
    SeqC Fence.wide n Try.prog 127 #[.pointer (some ⟨Bs, 0, none⟩)] encRc (fun k => k < w.heap.size) none (fun pre x => pre ++ [x] <+: turnR ps) (fun ys => ys = turnR ps) (fun pre => pre <+: turnR ps) (fun _ _ => False) w := by
  intro l J Jx W hW hJ hJx hY h0
  have hBs := World.block_lt_of_cell? _ _ hc
  have hc' := (hW.cell (p := ⟨Bs, 0, none⟩) hBs).trans hc
  obtain ⟨x0, -⟩ := OwnsP.cells hO 0 (by omega)
  have hg := World.block_lt_of_cell? _ _ x0
  have hgr : w.grownBy W none := gbelow hW
  refine (inTurn1_in n hn l Bs g cap w.heap.size ps hlen hreach J Jx W hJ hW.size hY hc' hg (OwnsP.keptN hO hgr) (fun p hp => (hR p hp).below hW (Nat.le_refl _)) h0).mono ?_
  rintro e W' ⟨v, rfl, hj | ⟨pre, hp, hj⟩⟩
  · exact .inl ⟨v, rfl, .inl ⟨_, rfl, hj⟩⟩
  · exact .inl ⟨v, rfl, .inr ⟨_, hp, hj⟩⟩
end Go.Proofs.Ytkmeingnhaomaaa
/- slices.Collect over records, of longer iterators. -/
namespace Go.Proofs.Ytkmeingnhaomaaa
open Go.RowKit Go.Shelf

attribute [local go_sem] Oper.semAt_some

set_option maxRecDepth 100000 in
set_option maxHeartbeats 2000000 in
theorem appendSeq_many {gf : Nat} {lb : Array Value} {KK : Nat → Prop} {bi : Option Nat} {G : List Rc → Rc → Prop} {Fin Stop : List Rc → Prop} {Pan : List PanicEntry → List Rc → Prop} (w : World)
    (eg : ∀ args w, (callFunc gf args).run Try.prog w = .ok (.enter gf args) w)
    (hseq : SeqC Fence.wide 8 Try.prog gf lb encRc KK bi G Fin Stop Pan w) (hKK : ∀ k, KK k → k < w.heap.size) (hbi : ∀ b, bi = some b → b < w.heap.size) (hG : ∀ pre x, G pre x → pre.length < 100000) :
    Calls Try.prog 111 #[.slice none 0 0, .func (.func gf) #[] lb] w fun e w' => w.grownBy w' bi ∧ ((∃ xs v, Fin xs ∧ e = .returned v ∧ OwnsR w.heap.size w' v xs) ∨ (∃ ch xs, Pan ch xs ∧ e = .panicked ch)) := by
  obtain ⟨i0, hi, hz0, hz1, hz2⟩ := info_parts Try.infoRec
  refine (callsIn_wide (n := 9)).1 ?_
  refine callsIn_of_wp_marks Try.func111 rfl trivial ?_ rfl
  simp only [Try.ntmps111, List.size_toArray, List.length_cons, List.length_nil, Nat.reduceAdd, Nat.reduceSub, Array.replicate_succ, Array.replicate_zero, List.push_toArray, List.append_toArray, List.nil_append, List.cons_append]
  gi_wp2
  have hO3 : (w.alloc (.cells #[.slice none 0 0] 22)).heap[w.heap.size]? = some (.cells #[.slice none 0 0] 22 (0, 0)) := World.alloc_heap_new _ _
  have hs3 : (w.alloc (.cells #[.slice none 0 0] 22)).heap.size = w.heap.size + 1 := by simp
  have hg3 : w.grownBy (w.alloc (.cells #[.slice none 0 0] 22)) bi := galloc _ _ _
  have hb3 : Below w.heap.size w (w.alloc (.cells #[.slice none 0 0] 22)) := (Below.refl _ _).alloc (Nat.le_refl _) _
  generalize w.alloc (.cells #[.slice none 0 0] 22) = W3 at *
  refine range_law (n := 9) rfl (by decide) (gf := gf) (lb := lb) rfl trivial eg hseq hb3 (fun k hk => by have := hKK k hk; omega) (fun b hb => by have := hbi b hb; omega) (fun _ => rfl)
    (fun pre W => (∃ v, W.heap[w.heap.size]? = some (.cells #[v] 22 (0, 0)) ∧ OwnsR w.heap.size W v pre) ∧ w.grownBy W bi)
    (fun _ _ _ => False)
    (OwnIt.and (ownIt_rows bi _ w.heap.size w.heap.size (fun pre => pre) hbi (Nat.le_refl _)) (ownIt_grown (by omega)))
    (fun cd => OwnIt.pure _ _ _)
    ⟨⟨_, hO3, World.ownsRow_nil _ _ _ _⟩, hg3⟩
    (fun x a' W => ∃ Bx, w.heap.size ≤ Bx ∧ W.heap[Bx]? = some (.cells #[.bool x.free, .int .i64 x.block, .string x.data] 34 (0, 0)) ∧ a' = { tmps := #[.slice none 0 0, .func (.func gf) #[] lb, .pointer (some ⟨w.heap.size, 0, none⟩), undef, .slice none 0 0, .pointer (some ⟨Bx, 0, none⟩), .func (.func gf) #[] lb, .agg #[.bool x.free, .int .i64 x.block, .string x.data], undef, undef, undef, undef, undef], defers := [] })
    ?ax
    ?assign ?body ?done ?stop ?panic
  case ax =>
    rintro x a' s W W' row ⟨Bx, h1, h2, h3⟩ hg hr
    refine ⟨Bx, h1, (hg.block Bx (Array.getElem?_eq_some_iff.1 h2).1 (fun e => ?_)).trans h2, h3⟩
    rcases hr Bx e.symm with e2 | ⟨_, o, ho', hc⟩
    · have := hbi Bx e2.symm; omega
    · rw [h2] at ho'; cases ho'; cases hc
  case assign =>
    rintro l pre x W K ⟨⟨v, h1, h2⟩, h5⟩ hK
    have lt := fun {k : Nat} {o : Obj} (e : W.heap[k]? = some o) => (Array.getElem?_eq_some_iff.1 e).1
    gi_wp2
    refine hK _ _ ((KeepsOthers.alloc _ _).from _) ?_ ⟨⟨v, (Below.heap_alloc _ _ _ (lt h1)).trans h1, World.ownsRow.alloc h2 _⟩, gallocR h5 _⟩ ⟨W.heap.size, h5.size, World.alloc_heap_new _ _, rfl⟩
    exact (KeptOn.refl _ _).alloc (fun k hk => Nat.lt_of_lt_of_le (hKK k hk) h5.size) _
  case body =>
    rintro l pre x a' W ⟨⟨v, h1, h2⟩, h5⟩ ⟨Bx, hx1, hx, rfl⟩ hGx
    have hln := hG pre x hGx
    have hml : pre.length + 1 ≤ maxLen := Nat.le_trans (show pre.length + 1 ≤ 100001 by omega) (by decide)
    have r0 := boxed_cell (i := 0) hx rfl
    have r1 := boxed_cell (i := 1) hx rfl
    have r2 := boxed_cell (i := 2) hx rfl
    have o0 := boxed_cell (i := 0) h1 rfl
    gi_wp2_with (gi_at_builtin; refine wpListIn_append_own _ rfl _ _ 22 rfl w.heap.size 34 i0 _ 3 32 Try.underlying22 hi hz0 hz1 hz2 rfl (by decide) _ _ _ rfl (World.ownsRow.alloc h2 _) ⟨W.heap.size, 0, none⟩ 1 1 [.bool x.free, .int .i64 x.block, .string x.data] rfl rfl (cells_new _ _ _) (by simp [Value.oneCell']) hml (by omega) (by have := h5.size; simp; omega) ?_; intro v' w3 hown' hg3' hnil'; obtain ⟨k1, k2, k3, k4, k5⟩ := Boxed.appended (t := 22) h1 (by decide) h2 h5.size (Nat.le_refl _) hown' hg3'; obtain ⟨g', cap', rfl⟩ := ownsRow_succ hown'; have p0 := boxed_cell (i := 0) k1 rfl; have pf := boxed_frozen (i := 0) k1)
    exact ⟨k4.from _, KeptOn.of_below k5 hKK, ⟨_, k2, ownsR_snoc k3⟩, gbelowR h5 k5⟩
  case done =>
    rintro D ys W hD hF ⟨⟨v, h1, h2⟩, h5⟩ hK
    have o0 := boxed_cell (i := 0) h1 rfl
    have hgp : w.grownBy (W.putObj D (.deferred none)) bi := ⟨h5.os, h5.tape, h5.output, by simpa using h5.size, fun j hj hne => (World.putObj_heap_other (by omega)).trans (h5.block j hj hne)⟩
    obtain ⟨a, ln, cp, rfl⟩ : ∃ a ln cp, v = .slice a ln cp := by
      rcases h2.2 with ⟨rfl, _⟩ | ⟨g, cap, cur, rfl, _⟩
      · exact ⟨_, _, _, rfl⟩
      · exact ⟨_, _, _, rfl⟩
    gi_wp2
    refine ⟨by simp, .inl ⟨_, _, rfl, run_takeDeferred hK, ?_⟩⟩
    refine ⟨_, results_tmp rfl _ _ _, hgp, .inl ⟨ys, .slice a ln cp, hF, ?_, ownsRow_putObj h2 _ hK rfl⟩⟩
    rfl
  case panic =>
    rintro D ch xs W hD hP ⟨_, h5⟩ hK
    have hgp : w.grownBy (W.putObj D (.deferred none)) bi := ⟨h5.os, h5.tape, h5.output, by simpa using h5.size, fun j hj hne => (World.putObj_heap_other (by omega)).trans (h5.block j hj hne)⟩
    refine ⟨by simp, .inl ⟨_, _, rfl, run_takeDeferred hK, ?_⟩⟩
    exact ⟨hgp, .inr ⟨ch, xs, hP, rfl⟩⟩
  case stop =>
    rintro D cd pre W _ _ h
    exact h.elim

set_option maxHeartbeats 1000000 in
theorem collect_many {gf : Nat} {lb : Array Value} {KK : Nat → Prop} {bi : Option Nat} {G : List Rc → Rc → Prop} {Fin Stop : List Rc → Prop} {Pan : List PanicEntry → List Rc → Prop} (w : World)
    (eg : ∀ args w, (callFunc gf args).run Try.prog w = .ok (.enter gf args) w)
    (hseq : SeqC Fence.wide 8 Try.prog gf lb encRc KK bi G Fin Stop Pan w) (hKK : ∀ k, KK k → k < w.heap.size) (hbi : ∀ b, bi = some b → b < w.heap.size) (hG : ∀ pre x, G pre x → pre.length < 100000) :
    Calls Try.prog 84 #[.func (.func gf) #[] lb] w fun e w' => w.grownBy w' bi ∧ ((∃ xs v, Fin xs ∧ e = .returned v ∧ OwnsR w.heap.size w' v xs) ∨ (∃ ch xs, Pan ch xs ∧ e = .panicked ch)) := by
  have HC : Hid (∀ u : Unit, _) := fun _ => appendSeq_many w eg hseq hKK hbi hG
  clear hseq eg
  go_enter Try.func84, Try.ntmps84
  go_wp2_with fail
  refine (HC.out ()).mono ?_
  rintro e w1 ⟨hg, (⟨xs, v, hF, rfl, ho⟩ | ⟨ch, xs, hP, rfl⟩)⟩
  · have HO : Hid _ := ho
    have HG : Hid _ := hg
    have HF : Hid _ := hF
    clear ho hg hF
    go_wp2
    go_ret
    exact ⟨HG.out, .inl ⟨xs, v, HF.out, rfl, HO.out⟩⟩
  · exact ⟨rfl, hg, .inr ⟨ch, xs, hP, rfl⟩⟩
end Go.Proofs.Ytkmeingnhaomaaa
/- The program's joined. -/
namespace Go.Proofs.Ytkmeingnhaomaaa
open Go.Shelf Go.RowKit

theorem complete_whole (ys : List Sk) : completeR (ys.map skP) ↔ wholeC (ys.map (·.1)) := by
  unfold completeR wholeC
  constructor
  · intro h k c hk
    rw [List.getElem?_map] at hk
    cases hy : ys[k]? with
    | none => rw [hy] at hk; cases hk
    | some y =>
      rw [hy] at hk
      simp only [Option.map_some, Option.some.injEq] at hk
      subst hk
      obtain ⟨a, ha, h5, h6, h7⟩ := h k (skP y) (by rw [List.getElem?_map, hy]; rfl)
      rw [List.getElem?_map] at ha
      cases hz : ys[0]? with
      | none => rw [hz] at ha; cases ha
      | some z =>
        rw [hz] at ha
        simp only [Option.map_some, Option.some.injEq] at ha
        subst ha
        rw [List.length_map] at h6 ⊢
        exact ⟨⟨z.1, by rw [List.getElem?_map, hz]; rfl, h5⟩, h6, h7⟩
  · intro h k p hk
    rw [List.getElem?_map] at hk
    cases hy : ys[k]? with
    | none => rw [hy] at hk; cases hk
    | some y =>
      rw [hy] at hk
      simp only [Option.map_some, Option.some.injEq] at hk
      subst hk
      obtain ⟨⟨a, ha, h5⟩, h6, h7⟩ := h k y.1 (by rw [List.getElem?_map, hy]; rfl)
      rw [List.getElem?_map] at ha
      cases hz : ys[0]? with
      | none => rw [hz] at ha; cases ha
      | some z =>
        rw [hz] at ha
        simp only [Option.map_some, Option.some.injEq] at ha
        subst ha
        rw [List.length_map] at h6 ⊢
        exact ⟨skP z, by rw [List.getElem?_map, hz]; rfl, h5, h6, h7⟩
theorem turn_whole (ys : List Sk) : turnR (ys.map skP) = (ys.map (·.1)).flatMap Ck.rs := by
  unfold turnR
  rw [List.flatMap_map, List.flatMap_map]
  rfl
theorem turn_length : ∀ (ps : List (Ck × Value)), (∀ p ∈ ps, p.1.rs.length ≤ 100) → (turnR ps).length ≤ 100 * ps.length
  | [], _ => by simp [turnR]
  | p :: ps, h => by
    have h1 := turn_length ps (fun q hq => h q (List.mem_cons_of_mem _ hq))
    have h2 := h p (by simp)
    unfold turnR at *
    rw [List.flatMap_cons, List.length_append, List.length_cons]
    omega
theorem kept_cells {A W : World} (h : A.grownBy W none) : (∀ X i, X < A.heap.size → W.cell? ⟨X, i, none⟩ = A.cell? ⟨X, i, none⟩) ∧ (∀ X i, X < A.heap.size → W.frozen? ⟨X, i, none⟩ = A.frozen? ⟨X, i, none⟩) :=
  ⟨fun X i hX => World.cell?_of_block (a := ⟨X, i, none⟩) (h.block X hX (by simp)), fun X i hX => by
    have := h.block X hX (by simp)
    simp only [World.frozen?, this]⟩
theorem stream_head {W : World} {X Y : Nat} {t t' : TypeId} {v0 v1 v2 v3 v4 u0 u1 u2 u3 u4 : Value} (h : W.heap[X]? = some (.cells #[v0, v1, v2, v3, v4] t (0, 0))) (h' : W.heap[Y]? = some (.cells #[u0, u1, u2, u3, u4] t' (0, 0))) :
    W.cell? ⟨X, 0, none⟩ = some v0 ∧ W.cell? ⟨X, 1, none⟩ = some v1 ∧ W.cell? ⟨X, 2, none⟩ = some v2 ∧ W.cell? ⟨X, 3, none⟩ = some v3 ∧ W.cell? ⟨X, 4, none⟩ = some v4 ∧ W.cell? ⟨Y, 4, none⟩ = some u4 :=
  ⟨boxed_cell (i := 0) h rfl, boxed_cell (i := 1) h rfl, boxed_cell (i := 2) h rfl, boxed_cell (i := 3) h rfl, boxed_cell (i := 4) h rfl, boxed_cell (i := 4) h' rfl⟩
theorem OwnsR.setT {B : Nat} {W : World} {v : Value} {rs : List Rc} (h : OwnsR B W v rs) {X o : Nat} {x : Value} {cs : Array Value} {t : TypeId} (hX : W.heap[X]? = some (.cells cs t (0, 0))) (ht : t ≠ 34) : OwnsR B (W.setCell ⟨X, o, none⟩ x) v rs :=
  OwnsR.beside h (gset W X o x) fun k cs' fr hk e => by
    cases e
    rw [hX] at hk
    simp only [Option.some.injEq, Obj.cells.injEq] at hk
    exact ht hk.2.1
theorem below_set {M X o : Nat} {W0 W : World} {x : Value} (h : Below M W0 W) (hX : M ≤ X) : Below M W0 (W.setCell ⟨X, o, none⟩ x) :=
  Below.setCell h (p := ⟨X, o, none⟩) hX x
theorem below_set5 {M X : Nat} {W0 W : World} {x0 x1 x2 x3 x4 : Value} (h : Below M W0 W) (hX : M ≤ X) : Below M W0 (((((W.setCell ⟨X, 0, none⟩ x0).setCell ⟨X, 1, none⟩ x1).setCell ⟨X, 2, none⟩ x2).setCell ⟨X, 3, none⟩ x3).setCell ⟨X, 4, none⟩ x4) :=
  below_set (below_set (below_set (below_set (below_set h hX) hX) hX) hX) hX
theorem fill5 {X : Nat} {W : World} {x0 x1 x2 x3 x4 a0 a1 a2 a3 a4 : Value} {t : TypeId} (hz : W.heap[X]? = some (.cells #[a0, a1, a2, a3, a4] t (0, 0))) :
    (((((W.setCell ⟨X, 0, none⟩ x0).setCell ⟨X, 1, none⟩ x1).setCell ⟨X, 2, none⟩ x2).setCell ⟨X, 3, none⟩ x3).setCell ⟨X, 4, none⟩ x4).heap[X]? = some (.cells #[x0, x1, x2, x3, x4] t (0, 0)) :=
  block_set (i := 4) (block_set (i := 3) (block_set (i := 2) (block_set (i := 1) (block_set (i := 0) hz x0) x1) x2) x3) x4
theorem OwnsR.setT5 {B X : Nat} {W : World} {v : Value} {rs : List Rc} {x0 x1 x2 x3 x4 a0 a1 a2 a3 a4 : Value} {t : TypeId} (ho : OwnsR B W v rs) (hz : W.heap[X]? = some (.cells #[a0, a1, a2, a3, a4] t (0, 0))) (ht : t ≠ 34) :
    OwnsR B (((((W.setCell ⟨X, 0, none⟩ x0).setCell ⟨X, 1, none⟩ x1).setCell ⟨X, 2, none⟩ x2).setCell ⟨X, 3, none⟩ x3).setCell ⟨X, 4, none⟩ x4) v rs := by
  have b1 := block_set (i := 0) hz x0
  have b2 := block_set (i := 1) b1 x1
  have b3 := block_set (i := 2) b2 x2
  have b4 := block_set (i := 3) b3 x3
  exact OwnsR.setT (OwnsR.setT (OwnsR.setT (OwnsR.setT (OwnsR.setT ho hz ht) b1 ht) b2 ht) b3 ht) b4 ht
theorem keepSet5 {W0 W : World} {b X : Nat} {v0 v1 v2 v3 v4 x0 x1 x2 x3 x4 : Value}
    (hS : W.cell? ⟨b, 0, none⟩ = some v0 ∧ W.cell? ⟨b, 1, none⟩ = some v1 ∧ W.cell? ⟨b, 2, none⟩ = some v2 ∧ W.cell? ⟨b, 3, none⟩ = some v3 ∧ W.cell? ⟨b, 4, none⟩ = some v4 ∧ Below W0.heap.size W0 W) (hp : b < W0.heap.size) (hX : W0.heap.size ≤ X) :
    (((((W.setCell ⟨X, 0, none⟩ x0).setCell ⟨X, 1, none⟩ x1).setCell ⟨X, 2, none⟩ x2).setCell ⟨X, 3, none⟩ x3).setCell ⟨X, 4, none⟩ x4).cell? ⟨b, 0, none⟩ = some v0 ∧ (((((W.setCell ⟨X, 0, none⟩ x0).setCell ⟨X, 1, none⟩ x1).setCell ⟨X, 2, none⟩ x2).setCell ⟨X, 3, none⟩ x3).setCell ⟨X, 4, none⟩ x4).cell? ⟨b, 1, none⟩ = some v1 ∧ (((((W.setCell ⟨X, 0, none⟩ x0).setCell ⟨X, 1, none⟩ x1).setCell ⟨X, 2, none⟩ x2).setCell ⟨X, 3, none⟩ x3).setCell ⟨X, 4, none⟩ x4).cell? ⟨b, 2, none⟩ = some v2 ∧ (((((W.setCell ⟨X, 0, none⟩ x0).setCell ⟨X, 1, none⟩ x1).setCell ⟨X, 2, none⟩ x2).setCell ⟨X, 3, none⟩ x3).setCell ⟨X, 4, none⟩ x4).cell? ⟨b, 3, none⟩ = some v3 ∧ (((((W.setCell ⟨X, 0, none⟩ x0).setCell ⟨X, 1, none⟩ x1).setCell ⟨X, 2, none⟩ x2).setCell ⟨X, 3, none⟩ x3).setCell ⟨X, 4, none⟩ x4).cell? ⟨b, 4, none⟩ = some v4 ∧ Below W0.heap.size W0 (((((W.setCell ⟨X, 0, none⟩ x0).setCell ⟨X, 1, none⟩ x1).setCell ⟨X, 2, none⟩ x2).setCell ⟨X, 3, none⟩ x3).setCell ⟨X, 4, none⟩ x4) := by
  have hne : b ≠ X := by omega
  have e : ∀ o, (((((W.setCell ⟨X, 0, none⟩ x0).setCell ⟨X, 1, none⟩ x1).setCell ⟨X, 2, none⟩ x2).setCell ⟨X, 3, none⟩ x3).setCell ⟨X, 4, none⟩ x4).cell? ⟨b, o, none⟩ = W.cell? ⟨b, o, none⟩ := fun o => World.cell?_of_block (a := ⟨b, o, none⟩) ((Below.heap_setCell _ _ _ _ hne).trans ((Below.heap_setCell _ _ _ _ hne).trans ((Below.heap_setCell _ _ _ _ hne).trans ((Below.heap_setCell _ _ _ _ hne).trans (Below.heap_setCell _ _ _ _ hne)))))
  exact ⟨(e 0).trans hS.1, (e 1).trans hS.2.1, (e 2).trans hS.2.2.1, (e 3).trans hS.2.2.2.1, (e 4).trans hS.2.2.2.2.1, below_set5 hS.2.2.2.2.2 hX⟩
theorem keepAl {W0 W : World} {b : Nat} {o o' : Obj} {v0 v1 v2 v3 v4 : Value}
    (hS : (W.alloc o).cell? ⟨b, 0, none⟩ = some v0 ∧ (W.alloc o).cell? ⟨b, 1, none⟩ = some v1 ∧ (W.alloc o).cell? ⟨b, 2, none⟩ = some v2 ∧ (W.alloc o).cell? ⟨b, 3, none⟩ = some v3 ∧ (W.alloc o).cell? ⟨b, 4, none⟩ = some v4 ∧ Below W0.heap.size W0 (W.alloc o)) (hp : b < W0.heap.size) (hl : W0.heap.size ≤ W.heap.size) :
    (W.alloc o').cell? ⟨b, 0, none⟩ = some v0 ∧ (W.alloc o').cell? ⟨b, 1, none⟩ = some v1 ∧ (W.alloc o').cell? ⟨b, 2, none⟩ = some v2 ∧ (W.alloc o').cell? ⟨b, 3, none⟩ = some v3 ∧ (W.alloc o').cell? ⟨b, 4, none⟩ = some v4 ∧ Below W0.heap.size W0 (W.alloc o') := by
  have e : ∀ k, k < W.heap.size → (W.alloc o').heap[k]? = (W.alloc o).heap[k]? := fun k hk => (Below.heap_alloc W o' k hk).trans (Below.heap_alloc W o k hk).symm
  have c : ∀ i, (W.alloc o').cell? ⟨b, i, none⟩ = (W.alloc o).cell? ⟨b, i, none⟩ := fun i => World.cell?_of_block (a := ⟨b, i, none⟩) (e b (by omega))
  have hb := hS.2.2.2.2.2
  exact ⟨(c 0).trans hS.1, (c 1).trans hS.2.1, (c 2).trans hS.2.2.1, (c 3).trans hS.2.2.2.1, (c 4).trans hS.2.2.2.2.1, hb.os, hb.tape, hb.output, by have := hb.size; simpa using this, fun k hk => (e k (by omega)).trans (hb.block k hk)⟩
theorem OwnsP.ne {B : Nat} {W : World} {g l cp : Nat} {ps : List (Ck × Value)} (h : OwnsP B W (.slice (some ⟨g, 0, none⟩) l cp) ps) {k : Nat} {cs : Array Value} {t : TypeId} {fr : Nat × Nat} (hk : W.heap[k]? = some (.cells cs t fr)) (ht : t ≠ 108) : some k ≠ some g := by
  rcases h.2 with ⟨e0, h0⟩ | ⟨g', cap, cur, e0, hb, hg, _⟩
  · cases e0
  · intro e
    simp only [Value.slice.injEq, Option.some.injEq, Addr.mk.injEq] at e0
    obtain ⟨⟨rfl, -, -⟩, -, -⟩ := e0
    cases e
    rw [hg] at hk
    simp only [Option.some.injEq, Obj.cells.injEq] at hk
    exact ht hk.2.1.symm

set_option maxRecDepth 100000 in
set_option maxHeartbeats 4000000 in
theorem joined_any (g cap B : Nat) (xs : List Sk) (w : World) (h : OwnsP B w (.slice (some ⟨g, 0, none⟩) xs.length cap) (xs.map skP)) (hn : xs.length ≤ 100) (h1 : 1 ≤ xs.length) (hR : ∀ x ∈ xs, OwnsR B w (skP x).2 x.1.rs) (hok : ∀ x ∈ xs, CkOk x.1 ∧ x.1.nu < x.1.many) :
    Calls Try.prog 72 #[.slice (some ⟨g, 0, none⟩) xs.length cap] w fun e w' => w.grownBy w' (some g) ∧
      ((joinC (.inr (xs.map (·.1))) = .inl 13 ∧ ∃ f t b z a n c, e = .returned (.tuple #[.agg #[.int .i64 f, .int .i64 t, .int .i64 b, .int .i64 z, .slice a n c], .bool false])) ∨
       (∃ (f t b z : Nat) (sv : Value) (rs : List Rc), joinC (.inr (xs.map (·.1))) = .inr (f, t, b, z, rs) ∧ wellHead f t b z = true ∧ recsOk b z (-1) rs = true ∧ Recs w'.heap.size w' sv rs ∧ e = .returned (.tuple #[.agg #[.int .i64 f, .int .i64 t, .int .i64 b, .int .i64 z, sv], .bool true]))) := by
  obtain ⟨W0, hW0⟩ : ∃ W0, W0 = w.alloc (.cells #[.int .i64 0, .int .i64 0, .int .i64 0, .int .i64 0, .slice none 0 0] 24) := ⟨_, rfl⟩
  have g0 : Hid (w.grownBy W0 none) := by rw [hW0]; exact galloc _ _ _
  have z0 : w.heap.size < W0.heap.size := by rw [hW0]; simp
  have S0 : Hid (W0.heap[w.heap.size]? = some (.cells #[.int .i64 0, .int .i64 0, .int .i64 0, .int .i64 0, .slice none 0 0] 24 (0, 0))) := by rw [hW0]; exact World.alloc_heap_new _ _
  have h' := OwnsP.keptN h g0.out
  have hgl : g < w.heap.size := by
    obtain ⟨x0, -⟩ := OwnsP.cells h 0 (by rw [List.length_map]; omega)
    exact World.block_lt_of_cell? _ _ x0
  have HS : Hid (∀ u : Unit, _) := fun _ => sort_any g cap B xs W0 h' hn
  have hmf : ∀ (fn : Fn) (first cap : Array Value) (w : World), (Instr.makeFunc fn first cap).run Try.prog w = .ok (.func fn first cap) w := fun _ _ _ _ => rfl
  have HR : Hid _ := hR
  have HP0 : Hid (OwnsP B W0 (.slice (some ⟨g, 0, none⟩) xs.length cap) (xs.map skP)) := h'
  clear h hR h'
  go_enter Try.func72, Try.ntmps72
  go_wp2_with fail
  rw [← hW0]
  clear hW0
  refine (HS.out ()).mono ?_
  rintro e w1 ⟨rfl, ys, hp, hs, ho, hg⟩
  have hyl := hp.length_eq
  rw [← hyl] at ho
  have HC : Hid (∀ u : Unit, _) := fun _ => complete_any g cap B (ys.map skP) w1 (by rw [List.length_map]; exact ho) (by rw [List.length_map]; omega) (by rw [List.length_map]; omega) (fun p hp => by obtain ⟨x, -, rfl⟩ := List.mem_map.1 hp; exact ⟨_, _, _, rfl⟩)
  rw [List.length_map, hyl] at HC
  have HP : Hid _ := hp
  have HSd : Hid _ := hs
  have HO : Hid _ := ho
  have HG : Hid _ := hg
  clear hp hs ho hg HS
  go_wp2_with fail
  refine (HC.out ()).mono ?_
  rintro e w2 ⟨hg2, ok, rfl, hc⟩
  have G2 : Hid (W0.grownBy w2 (some g)) := gtrans HG.out (gnone hg2)
  have GW : Hid (w.grownBy w2 (some g)) := gtrans (gnone g0.out) G2.out
  have B2 : Hid (w2.heap[w.heap.size]? = some (.cells #[.int .i64 0, .int .i64 0, .int .i64 0, .int .i64 0, .slice none 0 0] 24 (0, 0))) := box5_grown S0.out G2.out (by simp; omega)
  obtain ⟨r0, r1, r2, r3, r4, -⟩ := box5_cells B2.out
  obtain ⟨f0, f1, f2, f3, f4⟩ := box5_froz B2.out
  have HPM : Hid ((ys.map (·.1)).Perm (xs.map (·.1))) := HP.out.map _
  have HSM : Hid ((ys.map (·.1)).Pairwise (fun a b : Ck => a.nu ≤ b.nu)) := List.pairwise_map.2 HSd.out
  have HNU : Hid (∀ c ∈ xs.map (·.1), c.nu < c.many) := fun c hc => by obtain ⟨x, hx, rfl⟩ := List.mem_map.1 hc; exact (hok x hx).2
  cases ok with
  | false =>
    have HB : Hid (joinC (.inr (xs.map (·.1))) = .inl 13) := join_bad HPM.out HSM.out HNU.out (by simpa using h1) (fun h => by
      have := hc.2 ((complete_whole ys).2 h.1)
      cases this)
    clear hc
    go_wp2
    refine bodyPost_ret (v := .tuple #[.agg #[.int .i64 0, .int .i64 0, .int .i64 0, .int .i64 0, .slice none 0 0], .bool false]) (by simp [results, Try.results72, go_sem, r0, r1, r2, r3, r4]) rfl ?_
    exact ⟨gfresh (gfresh (gfresh (gfresh (gfresh GW.out (Nat.le_refl _)) (Nat.le_refl _)) (Nat.le_refl _)) (Nat.le_refl _)) (Nat.le_refl _), .inl ⟨HB.out, 0, 0, 0, 0, none, 0, 0, rfl⟩⟩
  | true =>
    have hcomp : wholeC (ys.map (·.1)) := (complete_whole ys).1 (hc.1 rfl)
    clear hc
    have hyp : 0 < ys.length := by omega
    have O2 : Hid (OwnsP B w2 (.slice (some ⟨g, 0, none⟩) (ys.map skP).length cap) (ys.map skP)) := by
      rw [List.length_map]
      exact OwnsP.keptN HO.out hg2
    obtain ⟨x0, x1, x2, x3, x4, -⟩ := OwnsP.cells O2.out 0 (by rw [List.length_map]; exact hyp)
    have HD : Hid ((ys.map (·.1))[0]? = some ys[0].1) := by
      show _ = _
      rw [List.getElem?_map, List.getElem?_eq_getElem hyp]
      rfl
    have hck : CkOk ys[0].1 := (hok ys[0] (HP.out.mem_iff.1 (List.getElem_mem hyp))).1
    rw [List.getElem_map] at x0 x1 x2 x3 x4
    simp only [skP, Nat.zero_mul, Nat.zero_add] at x0 x1 x2 x3 x4
    generalize ys[0].1 = d at *
    have hxl : (0 : Int) < (xs.length : Int) := by omega
    have hgl2 : g < w2.heap.size := Nat.lt_of_lt_of_le hgl GW.out.size
    obtain ⟨W3, hW3⟩ : ∃ W3, W3 = w2.alloc (.cells #[.int .i64 d.f, .int .i64 d.t, .int .i64 d.b, .int .i64 d.z, .int .i64 d.all] 101) := ⟨_, rfl⟩
    have h3 : Hid (W3.heap[w2.heap.size]? = some (.cells #[.int .i64 d.f, .int .i64 d.t, .int .i64 d.b, .int .i64 d.z, .int .i64 d.all] 101 (0, 0))) := by rw [hW3]; exact World.alloc_heap_new _ _
    have g3 : Hid (w2.grownBy W3 none) := by rw [hW3]; exact galloc _ _ _
    have z3 : w2.heap.size < W3.heap.size := by rw [hW3]; simp
    go_wp2_with fail
    rw [← hW3]
    clear hW3
    rename_i K aK
    obtain ⟨rs, hrs⟩ : ∃ rs, rs = turnR (ys.map skP) := ⟨_, rfl⟩
    have hrl : rs.length ≤ 10000 := by
      have := turn_length (ys.map skP) (fun p hp => by
        obtain ⟨x, hx, rfl⟩ := List.mem_map.1 hp
        exact (hok x (HP.out.mem_iff.1 hx)).1.len)
      rw [List.length_map] at this
      rw [hrs]
      omega
    have HRT : Hid ((ys.map (·.1)).flatMap Ck.rs = rs) := by
      show _ = _
      rw [hrs, turn_whole]
    have HGood : Hid (recsOk d.b d.z (-1) rs = true → rs.length = d.all → joinC (.inr (xs.map (·.1))) = .inr (d.f, d.t, d.b, d.z, rs)) := fun h1 h2 => by
      have := join_good HPM.out hcomp d HD.out (by rw [HRT.out]; exact h1) (by rw [HRT.out]; exact h2)
      rw [HRT.out] at this
      exact this
    have HBad : Hid (¬ (recsOk d.b d.z (-1) rs = true ∧ rs.length = d.all) → joinC (.inr (xs.map (·.1))) = .inl 13) := fun h => by
      refine join_bad HPM.out HSM.out HNU.out (by rw [List.length_map]; omega) ?_
      rintro ⟨-, c, hc, h1, h2⟩
      rw [HD.out] at hc
      cases hc
      rw [HRT.out] at h1 h2
      exact h ⟨h1, h2⟩
    have G23 : Hid (w.grownBy W3 (some g)) := gtrans GW.out (gnone g3.out)
    have HR3 : Hid (∀ p ∈ ys.map skP, OwnsR B W3 p.2 p.1.rs) := fun p hp => by
      obtain ⟨x, hx, rfl⟩ := List.mem_map.1 hp
      have a1 := OwnsR.kept (HR.out x (HP.out.mem_iff.1 hx)) g0.out
      have a2 := OwnsR.beside a1 HG.out (fun k cs fr hk => HP0.out.ne hk (by decide))
      exact OwnsR.kept (OwnsR.kept a2 hg2) g3.out
    have hO3 : OwnsP B W3 (.slice (some ⟨g, 0, none⟩) xs.length cap) (ys.map skP) := by
      have := OwnsP.keptN O2.out g3.out
      rw [List.length_map, hyl] at this
      exact this
    have HCol : Hid (∀ (A : World) (Bs : Nat), Below W3.heap.size W3 A → A.cell? ⟨Bs, 0, none⟩ = some (.slice (some ⟨g, 0, none⟩) xs.length cap) → Calls Try.prog 84 #[.func (.func 127) #[] #[.pointer (some ⟨Bs, 0, none⟩)]] A fun e A' => A.grownBy A' none ∧ ∃ a c, e = .returned (.slice a rs.length c) ∧ OwnsR A.heap.size A' (.slice a rs.length c) rs) := fun A Bs hA hc => by
      have hgA : W3.grownBy A none := gbelow hA
      have hps : (ys.map skP).length = xs.length := by rw [List.length_map, hyl]
      refine (collect_many A (enters_of Try.func127 (by kernel_rfl) rfl) (inTurn_seq 8 (by decide) Bs g cap (ys.map skP) (by omega) (fun p hp => by
        obtain ⟨x, hx, rfl⟩ := List.mem_map.1 hp
        have := (hok x (HP.out.mem_iff.1 hx)).1.len
        show x.1.rs.length ≤ 1000
        omega) A (by rw [hps]; exact hc) (by omega) (by rw [hps]; exact row_base (OwnsP.keptN hO3 hgA) (Nat.zero_le _)) (fun p hp => (OwnsR.kept (HR3.out p hp) hgA).recs)) (fun k hk => hk) (fun b hb => by cases hb) (fun pre x hG => by
          have := hG.length_le
          rw [List.length_append, ← hrs] at this
          simp only [List.length_cons, List.length_nil] at this
          omega)).mono ?_
      rintro e A' ⟨hg', (⟨zs, v, rfl, rfl, ho'⟩ | ⟨ch, zs, hF, _⟩)⟩
      · rw [← hrs] at ho'
        obtain ⟨a, c, rfl⟩ := ho'.recs.slice
        exact ⟨hg', a, c, rfl, ho'⟩
      · exact hF.elim
    clear hrs
    have HREST : Hid (∀ (X : Nat) (a : Option Addr) (c : Nat) (v18 v19 v20 : Value) (W : World), W.heap[X]? = some (.cells #[.int .i64 d.f, .int .i64 d.t, .int .i64 d.b, .int .i64 d.z, .slice a rs.length c] 24 (0, 0)) → Below W3.heap.size W3 W → W3.heap.size ≤ X → OwnsR W3.heap.size W (.slice a rs.length c) rs →
        K { tmps := #[.slice (some ⟨g, 0, none⟩) xs.length cap, undef, .pointer (some ⟨w.heap.size, 0, none⟩), .bool false, .pointer (some ⟨w2.heap.size, 0, none⟩), .pointer (some ⟨X, 0, none⟩), .slice (some ⟨g, 0, none⟩) xs.length cap, .tuple #[], .slice (some ⟨g, 0, none⟩) xs.length cap, .bool true, .bool false, undef, .slice (some ⟨g, 0, none⟩) xs.length cap, .pointer (some ⟨g, 0, none⟩), .pointer (some ⟨g, 0, none⟩), .agg #[.int .i64 d.f, .int .i64 d.t, .int .i64 d.b, .int .i64 d.z, .int .i64 d.all], .agg #[.int .i64 d.f, .int .i64 d.t, .int .i64 d.b, .int .i64 d.z, .int .i64 d.all], .slice (some ⟨g, 0, none⟩) xs.length cap, v18, v19, v20, undef, undef, undef, undef, undef, undef, undef, undef, undef, undef, undef], defers := [] } W) := by
      intro X a c v18 v19 v20 W hX hbW hlX hown
      refine aK _ _ ?_
      have hg3W : W3.grownBy W none := gbelow hbW
      have hXl := (Array.getElem?_eq_some_iff.1 hX).1
      have hH := box5_grown h3.out hg3W (by simp)
      have hRb := box5_grown (box5_grown B2.out g3.out (by simp)) hg3W (by simp)
      have hwz : w.heap.size < w2.heap.size := (Array.getElem?_eq_some_iff.1 B2.out).1
      have hne1 : X ≠ w.heap.size := by omega
      have hne2 : w2.heap.size ≠ w.heap.size := by omega
      have hzW : W3.heap.size ≤ W.heap.size := hbW.size
      obtain ⟨s0, s1, s2, s3, s4, -⟩ := box5_cells hX
      obtain ⟨-, -, -, -, q4, -⟩ := box5_cells hH
      obtain ⟨k0, k1, k2, k3, k4, -⟩ := box5_cells hRb
      obtain ⟨m0, m1, m2, m3, m4⟩ := box5_froz hRb
      have HOW : Hid (OwnsR W3.heap.size W (.slice a rs.length c) rs) := hown
      have HGW : Hid (w.grownBy W (some g)) := gtrans G23.out (gnone hg3W)
      clear hown
      by_cases hlen : rs.length = d.all
      · have e1 : ((rs.length : Int) == (d.all : Int)) = true := by simp; omega
        have HPW : Hid (∀ W' : World, W.grownBy W' none → Calls Try.prog 51 #[.agg #[.int .i64 d.f, .int .i64 d.t, .int .i64 d.b, .int .i64 d.z, .slice a rs.length c]] W' fun e w' => e = .returned (.bool (recsOk d.b d.z (-1) rs)) ∧ Below W'.heap.size W' w') := fun W' hW' => by
          have := pwell_any d.f d.t d.b d.z (.slice a rs.length c) rs W' (OwnsR.kept HOW.out hW').recs (by omega)
          rw [hck.head, Bool.true_and] at this
          exact this
        have HKB : Hid (∀ w' : World, Below W.drew.heap.size W.drew w' → W.grownBy w' none ∧ w'.heap[X]? = some (.cells #[.int .i64 d.f, .int .i64 d.t, .int .i64 d.b, .int .i64 d.z, .slice a rs.length c] 24 (0, 0)) ∧ w'.heap[w2.heap.size]? = some (.cells #[.int .i64 d.f, .int .i64 d.t, .int .i64 d.b, .int .i64 d.z, .int .i64 d.all] 101 (0, 0)) ∧ w'.heap[w.heap.size]? = some (.cells #[.int .i64 0, .int .i64 0, .int .i64 0, .int .i64 0, .slice none 0 0] 24 (0, 0))) := fun w' hb => by
          have hg : W.grownBy w' none := gtrans (drew_grown W 1 none) (gbelow hb)
          exact ⟨hg, box5_grown hX hg (by simp), box5_grown hH hg (by simp), box5_grown hRb hg (by simp)⟩
        have HJG : Hid (recsOk d.b d.z (-1) rs = true → _) := fun h => HGood.out h hlen
        have HJB : Hid (recsOk d.b d.z (-1) rs = false → _) := fun h => HBad.out (fun h' => by rw [h] at h'; cases h'.1)
        clear HBad HGood HCol HR3 hlen
        generalize hrk : recsOk d.b d.z (-1) rs = rk at *
        go_wp2_with fail
        go_region_held3 (fun w' => w'.cell? ⟨X, 0, none⟩ = some (.int .i64 d.f) ∧ w'.cell? ⟨X, 1, none⟩ = some (.int .i64 d.t) ∧ w'.cell? ⟨X, 2, none⟩ = some (.int .i64 d.b) ∧ w'.cell? ⟨X, 3, none⟩ = some (.int .i64 d.z) ∧ w'.cell? ⟨X, 4, none⟩ = some (.slice a rs.length c) ∧ w'.cell? ⟨w2.heap.size, 4, none⟩ = some (.int .i64 d.all))
          (first | with_reducible exact stream_head hS9 hH9 | with_reducible exact stream_head (box_set5 hS9 hne1 _ _ _ _ _) (box_set5 hH9 hne2 _ _ _ _ _) | exact stream_head hX hH)
          ((go_at_call 51; refine (HPW.out _ (drew_grown W 1 none)).mono ?_; rintro e w9 ⟨rfl, hb9⟩; obtain ⟨hg9, hS9, hH9, hR9⟩ := HKB.out _ hb9; obtain ⟨k0, k1, k2, k3, k4, -⟩ := box5_cells hR9; obtain ⟨m0, m1, m2, m3, m4⟩ := box5_froz hR9))
        go_wp2
        refine bodyPost_ret (v := .tuple #[.agg #[.int .i64 d.f, .int .i64 d.t, .int .i64 d.b, .int .i64 d.z, .slice a rs.length c], .bool rk]) (by simp [results, Try.results72, go_sem, k0, k1, k2, k3, k4]) rfl ?_
        refine ⟨gfresh (gfresh (gfresh (gfresh (gfresh (gtrans HGW.out (gnone hg9)) (Nat.le_refl _)) (Nat.le_refl _)) (Nat.le_refl _)) (Nat.le_refl _)) (Nat.le_refl _), ?_⟩
        have hwl : w.heap.size < W3.heap.size := by omega
        cases rk with
        | false => exact .inl ⟨HJB.out rfl, _, _, _, _, _, _, _, rfl⟩
        | true => exact .inr ⟨d.f, d.t, d.b, d.z, _, rs, HJG.out rfl, hck.head, hrk, (OwnsR.set (OwnsR.set (OwnsR.set (OwnsR.set (OwnsR.set (OwnsR.kept HOW.out hg9) hwl) hwl) hwl) hwl) hwl).recs, rfl⟩
      · have e1 : ((rs.length : Int) == (d.all : Int)) = false := by simp; omega
        have HBd : Hid _ := HBad.out (fun h => hlen h.2)
        clear HBad HGood HCol HR3 hX hH hRb
        go_wp2_with fail
        go_region
        go_wp2
        refine bodyPost_ret (v := .tuple #[.agg #[.int .i64 d.f, .int .i64 d.t, .int .i64 d.b, .int .i64 d.z, .slice a rs.length c], .bool false]) (by simp [results, Try.results72, go_sem, k0, k1, k2, k3, k4]) rfl ?_
        exact ⟨gfresh (gfresh (gfresh (gfresh (gfresh (gdrewR HGW.out 1) (Nat.le_refl _)) (Nat.le_refl _)) (Nat.le_refl _)) (Nat.le_refl _)) (Nat.le_refl _), .inl ⟨HBd.out, _, _, _, _, _, _, _, rfl⟩⟩
    clear aK HGood HBad HRT hcomp HR HO HG O2 HPM HSM HNU HD HP HSd
    obtain ⟨c0, c1, c2, c3, c4, -⟩ := box5_cells h3.out
    have B30 : Hid (Below W3.heap.size W3 W3.drew) := (Below.refl _ _).drew
    have HC0 : Hid (∀ u : Unit, Calls Try.prog 84 #[.func (.func 127) #[] #[.pointer (some ⟨W3.heap.size + 1, 0, none⟩)]] (((W3.alloc (.cells #[.int .i64 0, .int .i64 0, .int .i64 0, .int .i64 0, .slice none 0 0] 24)).alloc (.cells #[.slice (some ⟨g, 0, none⟩) xs.length cap] 104)).drew) fun e w5 => ∃ a c, e = .returned (.slice a rs.length c) ∧ OwnsR W3.heap.size w5 (.slice a rs.length c) rs ∧ (((W3.alloc (.cells #[.int .i64 0, .int .i64 0, .int .i64 0, .int .i64 0, .slice none 0 0] 24)).alloc (.cells #[.slice (some ⟨g, 0, none⟩) xs.length cap] 104)).drew).grownBy w5 none ∧ w5.heap[W3.heap.size]? = some (.cells #[.int .i64 0, .int .i64 0, .int .i64 0, .int .i64 0, .slice none 0 0] 24 (0, 0)) ∧ W3.heap.size ≤ w5.heap.size) := fun _ => by
      refine (HCol.out ((W3.drew.alloc (.cells #[.int .i64 0, .int .i64 0, .int .i64 0, .int .i64 0, .slice none 0 0] 24)).alloc (.cells #[.slice (some ⟨g, 0, none⟩) xs.length cap] 104)) _ ((B30.out.alloc (Nat.le_refl _) _).alloc (by simp) _) (by simp [go_sem])).mono ?_
      rintro e w5 ⟨hg5, a, c, rfl, ho5⟩
      have hz : ((W3.drew.alloc (.cells #[.int .i64 0, .int .i64 0, .int .i64 0, .int .i64 0, .slice none 0 0] 24)).alloc (.cells #[.slice (some ⟨g, 0, none⟩) xs.length cap] 104)).heap.size ≤ w5.heap.size := hg5.size
      simp at hz
      exact ⟨a, c, rfl, OwnsR.base ho5 (by simp; omega), hg5, box5_grown ((Below.heap_alloc _ _ _ (by simp)).trans (World.alloc_heap_new W3.drew _)) hg5 (by simp), by omega⟩
    have HC1 : Hid (∀ u : Unit, Calls Try.prog 84 #[.func (.func 127) #[] #[.pointer (some ⟨W3.heap.size, 0, none⟩)]] (((W3.alloc (.cells #[.slice (some ⟨g, 0, none⟩) xs.length cap] 104)).alloc (.cells #[.int .i64 0, .int .i64 0, .int .i64 0, .int .i64 0, .slice none 0 0] 24)).drew) fun e w5 => ∃ a c, e = .returned (.slice a rs.length c) ∧ OwnsR W3.heap.size w5 (.slice a rs.length c) rs ∧ (((W3.alloc (.cells #[.slice (some ⟨g, 0, none⟩) xs.length cap] 104)).alloc (.cells #[.int .i64 0, .int .i64 0, .int .i64 0, .int .i64 0, .slice none 0 0] 24)).drew).grownBy w5 none ∧ w5.heap[W3.heap.size + 1]? = some (.cells #[.int .i64 0, .int .i64 0, .int .i64 0, .int .i64 0, .slice none 0 0] 24 (0, 0)) ∧ W3.heap.size ≤ w5.heap.size) := fun _ => by
      refine (HCol.out ((W3.drew.alloc (.cells #[.slice (some ⟨g, 0, none⟩) xs.length cap] 104)).alloc (.cells #[.int .i64 0, .int .i64 0, .int .i64 0, .int .i64 0, .slice none 0 0] 24)) _ ((B30.out.alloc (Nat.le_refl _) _).alloc (by simp) _) (by simp [go_sem])).mono ?_
      rintro e w5 ⟨hg5, a, c, rfl, ho5⟩
      have hz : ((W3.drew.alloc (.cells #[.slice (some ⟨g, 0, none⟩) xs.length cap] 104)).alloc (.cells #[.int .i64 0, .int .i64 0, .int .i64 0, .int .i64 0, .slice none 0 0] 24)).heap.size ≤ w5.heap.size := hg5.size
      have e := World.alloc_heap_new (W3.drew.alloc (.cells #[.slice (some ⟨g, 0, none⟩) xs.length cap] 104)) (.cells #[.int .i64 0, .int .i64 0, .int .i64 0, .int .i64 0, .slice none 0 0] 24)
      rw [World.size_alloc] at e
      simp at hz
      exact ⟨a, c, rfl, OwnsR.base ho5 (by simp; omega), hg5, box5_grown e hg5 (by simp), by omega⟩
    have HC2 : Hid (∀ u : Unit, Calls Try.prog 84 #[.func (.func 127) #[] #[.pointer (some ⟨W3.heap.size, 0, none⟩)]] ((W3.alloc (.cells #[.slice (some ⟨g, 0, none⟩) xs.length cap] 104)).drew) fun e w5 => ∃ a c, e = .returned (.slice a rs.length c) ∧ OwnsR W3.heap.size w5 (.slice a rs.length c) rs ∧ ((W3.alloc (.cells #[.slice (some ⟨g, 0, none⟩) xs.length cap] 104)).drew).grownBy w5 none ∧ W3.heap.size ≤ w5.heap.size) := fun _ => by
      refine (HCol.out (W3.drew.alloc (.cells #[.slice (some ⟨g, 0, none⟩) xs.length cap] 104)) _ (B30.out.alloc (Nat.le_refl _) _) (by simp [go_sem])).mono ?_
      rintro e w5 ⟨hg5, a, c, rfl, ho5⟩
      have hz : (W3.drew.alloc (.cells #[.slice (some ⟨g, 0, none⟩) xs.length cap] 104)).heap.size ≤ w5.heap.size := hg5.size
      simp at hz
      exact ⟨a, c, rfl, OwnsR.base ho5 (by simp), hg5, by omega⟩
    have HS0 : Hid (∀ (f t b z n : Int) (a : Option Addr) (l c X : Nat) (w5 : World), w5.heap[X]? = some (.cells #[.int .i64 0, .int .i64 0, .int .i64 0, .int .i64 0, .slice none 0 0] 24 (0, 0)) → Calls Try.prog 83 #[.agg #[.int .i64 f, .int .i64 t, .int .i64 b, .int .i64 z, .int .i64 n], .slice a l c] w5 fun e w6 => e = .returned (.agg #[.int .i64 f, .int .i64 t, .int .i64 b, .int .i64 z, .slice a l c]) ∧ Below w5.heap.size w5 w6 ∧ w6.heap[X]? = some (.cells #[.int .i64 0, .int .i64 0, .int .i64 0, .int .i64 0, .slice none 0 0] 24 (0, 0)) ∧ w5.heap.size ≤ w6.heap.size) := fun f t b z n a l c X w5 hz => by
      refine (hstream_any f t b z n a l c w5).mono ?_
      rintro e w6 ⟨rfl, hb⟩
      exact ⟨rfl, hb, box5_grown hz (gbelow (row := none) hb) (by simp), hb.size⟩
    have HS2 : Hid (∀ (f t b z n : Int) (a : Option Addr) (l c : Nat) (w5 : World), Calls Try.prog 83 #[.agg #[.int .i64 f, .int .i64 t, .int .i64 b, .int .i64 z, .int .i64 n], .slice a l c] (w5.alloc (.cells #[.int .i64 0, .int .i64 0, .int .i64 0, .int .i64 0, .slice none 0 0] 24)) fun e w6 => e = .returned (.agg #[.int .i64 f, .int .i64 t, .int .i64 b, .int .i64 z, .slice a l c]) ∧ Below (w5.alloc (.cells #[.int .i64 0, .int .i64 0, .int .i64 0, .int .i64 0, .slice none 0 0] 24)).heap.size (w5.alloc (.cells #[.int .i64 0, .int .i64 0, .int .i64 0, .int .i64 0, .slice none 0 0] 24)) w6 ∧ w6.heap[w5.heap.size]? = some (.cells #[.int .i64 0, .int .i64 0, .int .i64 0, .int .i64 0, .slice none 0 0] 24 (0, 0)) ∧ w5.heap.size ≤ w6.heap.size) := fun f t b z n a l c w5 => by
      refine (hstream_any f t b z n a l c _).mono ?_
      rintro e w6 ⟨rfl, hb⟩
      have hz := hb.size
      simp at hz
      exact ⟨rfl, hb, box5_grown (World.alloc_heap_new w5 _) (gbelow (row := none) hb) (by simp), by omega⟩
    have HS1 : Hid (∀ (f t b z n : Int) (a : Option Addr) (l c : Nat) (w5 : World), Calls Try.prog 83 #[.agg #[.int .i64 f, .int .i64 t, .int .i64 b, .int .i64 z, .int .i64 n], .slice a l c] w5 fun e w6 => e = .returned (.agg #[.int .i64 f, .int .i64 t, .int .i64 b, .int .i64 z, .slice a l c]) ∧ Below w5.heap.size w5 w6 ∧ w5.heap.size ≤ w6.heap.size) := fun f t b z n a l c w5 => by
      refine (hstream_any f t b z n a l c _).mono ?_
      rintro e w6 ⟨rfl, hb⟩
      exact ⟨rfl, hb, hb.size⟩
    have hS3 : W3.drew.cell? ⟨w2.heap.size, 0, none⟩ = some (.int .i64 d.f) ∧ W3.drew.cell? ⟨w2.heap.size, 1, none⟩ = some (.int .i64 d.t) ∧ W3.drew.cell? ⟨w2.heap.size, 2, none⟩ = some (.int .i64 d.b) ∧ W3.drew.cell? ⟨w2.heap.size, 3, none⟩ = some (.int .i64 d.z) ∧ W3.drew.cell? ⟨w2.heap.size, 4, none⟩ = some (.int .i64 d.all) ∧ Below W3.heap.size W3 W3.drew := ⟨c0, c1, c2, c3, c4, B30.out⟩
    have HS3 : Hid _ := hS3
    clear HCol hS3
    go_region_held3 (fun w' => w'.cell? ⟨w2.heap.size, 0, none⟩ = some (.int .i64 d.f) ∧ w'.cell? ⟨w2.heap.size, 1, none⟩ = some (.int .i64 d.t) ∧ w'.cell? ⟨w2.heap.size, 2, none⟩ = some (.int .i64 d.b) ∧ w'.cell? ⟨w2.heap.size, 3, none⟩ = some (.int .i64 d.z) ∧ w'.cell? ⟨w2.heap.size, 4, none⟩ = some (.int .i64 d.all) ∧ Below W3.heap.size W3 w')
      (first | with_reducible exact keepSet5 (by assumption) z3 hl5 | with_reducible exact keepSet5 (by assumption) z3 (Nat.le_refl _) | with_reducible exact keepSet5 (by assumption) z3 (Nat.le_succ _) | with_reducible exact keepS5 (by assumption) ((Below.refl _ _).alloc (Nat.le_refl _) _) z3 | with_reducible exact keepS5 (by assumption) (below_of_grown hg5) z3 | with_reducible exact keepS5 (by assumption) hb6 z3 | with_reducible exact keepAl (by assumption) z3 (Nat.le_trans hl5 hl6) | with_reducible exact HS3.out)
      (first | (go_at_call 106; refine (inTurn_any _ _ _ _).mono ?_; rintro e w4 ⟨rfl, rfl⟩) | (go_at_call 84; (with_reducible refine (HC2.out ()).mono ?_); rintro e w5 ⟨a, c, rfl, ho5, hg5, hl5⟩; have HO5 : Hid _ := ho5; clear ho5) | (go_at_call 84; (with_reducible refine (HC1.out ()).mono ?_); rintro e w5 ⟨a, c, rfl, ho5, hg5, hz5, hl5⟩; have HO5 : Hid _ := ho5; clear ho5) | (go_at_call 84; (with_reducible refine (HC0.out ()).mono ?_); rintro e w5 ⟨a, c, rfl, ho5, hg5, hz5, hl5⟩; have HO5 : Hid _ := ho5; clear ho5) | (go_at_call 83; (with_reducible refine (HS0.out _ _ _ _ _ _ _ _ _ _ hz5).mono ?_); rintro e w6 ⟨rfl, hb6, hz6, hl6⟩; obtain ⟨k0, k1, k2, k3, k4, -⟩ := box5_cells hz6; obtain ⟨m0, m1, m2, m3, m4⟩ := box5_froz hz6) | (go_at_call 83; (with_reducible refine (HS2.out _ _ _ _ _ _ _ _ _).mono ?_); rintro e w6 ⟨rfl, hb6, hz6, hl6⟩; obtain ⟨k0, k1, k2, k3, k4, -⟩ := box5_cells hz6; obtain ⟨m0, m1, m2, m3, m4⟩ := box5_froz hz6) | (go_at_call 83; (with_reducible refine (HS1.out _ _ _ _ _ _ _ _ _).mono ?_); rintro e w6 ⟨rfl, hb6, hl6⟩))
    · exact HREST.out w6.heap.size a c _ _ _ _ (World.alloc_heap_new _ _) (s5_below (b := w2.heap.size) (v0 := .int .i64 d.f) (v1 := .int .i64 d.t) (v2 := .int .i64 d.b) (v3 := .int .i64 d.z) (v4 := .int .i64 d.all) (by assumption)) (Nat.le_trans hl5 hl6) (OwnsR.alloc (OwnsR.kept HO5.out (gbelow hb6)) _)
    · exact HREST.out w5.heap.size a c _ _ _ _ (fill5 hz6) (s5_below (b := w2.heap.size) (v0 := .int .i64 d.f) (v1 := .int .i64 d.t) (v2 := .int .i64 d.b) (v3 := .int .i64 d.z) (v4 := .int .i64 d.all) (by assumption)) hl5 (OwnsR.setT5 (OwnsR.kept (OwnsR.alloc HO5.out _) (gbelow hb6)) hz6 (by decide))
    · exact HREST.out (W3.heap.size + 1) a c _ _ _ _ (fill5 hz6) (s5_below (b := w2.heap.size) (v0 := .int .i64 d.f) (v1 := .int .i64 d.t) (v2 := .int .i64 d.b) (v3 := .int .i64 d.z) (v4 := .int .i64 d.all) (by assumption)) (Nat.le_succ _) (OwnsR.setT5 (OwnsR.kept HO5.out (gbelow hb6)) hz6 (by decide))
    · exact HREST.out W3.heap.size a c _ _ _ _ (fill5 hz6) (s5_below (b := w2.heap.size) (v0 := .int .i64 d.f) (v1 := .int .i64 d.t) (v2 := .int .i64 d.b) (v3 := .int .i64 d.z) (v4 := .int .i64 d.all) (by assumption)) (Nat.le_refl _) (OwnsR.setT5 (OwnsR.kept HO5.out (gbelow hb6)) hz6 (by decide))
end Go.Proofs.Ytkmeingnhaomaaa
/- The reference's Join. -/
namespace Go.Proofs.Ytkmeingnhaomaaa
open Go.RowKit Go.Shelf

set_option maxRecDepth 100000 in
set_option maxHeartbeats 40000000 in
theorem rjoin (sv : Value) (ts : List (List UInt8)) (w : World) (hT : Txs w.heap.size w sv ts) (hl : ∀ t ∈ ts, t.length ≤ 4611686018427387904) (htl : ts.length ≤ 4611686018427387904) :
    Calls Try.prog 35 #[sv] w (ToldJ ts w) := by
  obtain ⟨a0, cap0, rfl⟩ := hT.slice
  by_cases h0 : ts.length < 1
  · have HP : Hid (joinR ts = .inl 1) := by
      show _ = _
      unfold joinR
      rw [if_pos (.inl h0)]
    have d0 : decide (ts.length < 1) = true := by simpa using h0
    go_enter Try.func35, Try.ntmps35
    go_wp2
    go_ret2
    exact ⟨drew_grown _ 0 _, .inl ⟨1, HP.out, rfl⟩⟩
  by_cases h1 : 100 < ts.length
  · have HP : Hid (joinR ts = .inl 1) := by
      show _ = _
      unfold joinR
      rw [if_pos (.inr h1)]
    have d0 : decide (ts.length < 1) = false := by simpa using h0
    have d1 : decide (100 < ts.length) = true := by simpa using h1
    go_enter Try.func35, Try.ntmps35
    go_wp2
    go_ret2
    exact ⟨drew_grown _ 0 _, .inl ⟨1, HP.out, rfl⟩⟩
  have d0 : decide (ts.length < 1) = false := by simpa using h0
  have d1 : decide (100 < ts.length) = false := by simpa using h1
  have HJ : Hid (joinR ts = joinC (chunksOf ts)) := by
    show _ = _
    unfold joinR
    rw [if_neg (by omega)]
  have HT : Hid (∀ W, w.grownBy W none → Txs W.heap.size W (.slice a0 ts.length cap0) ts) := fun W h => hT.moved (below_of_grown h)
  have HL : Hid _ := hl
  clear hT hl
  go_enter Try.func35, Try.ntmps35
  go_wp2
  go_loopw [4, 5] (fun lv i wr => ∃ (k : Nat) (ps : List (Ck × Value)), k ≤ ts.length ∧ i = .int .i64 k ∧ chunksOf (ts.take k) = .inr (ps.map Prod.fst) ∧ OwnsK w.heap.size wr lv ps ∧ (∀ p ∈ ps, OwnsR w.heap.size wr p.2 p.1.rs) ∧ w.grownBy wr none) (fun _ i _ => ts.length - (intOf i).toNat)
  case atStart => exact ⟨0, [], Nat.zero_le _, rfl, rfl, World.ownsRow_nil _ _ _ _, (fun p hp => by cases hp), drew_grown _ 0 _⟩
  case round =>
    obtain ⟨k, ps, hk, rfl, hch, hO, hR, hG⟩ := hrel
    have hpl : ps.length ≤ 100 := by
      have := chunksOf_length _ _ hch
      rw [List.length_map, List.length_take] at this
      omega
    by_cases hlt : k < ts.length
    · obtain ⟨bb, off, ha, hbb, q0⟩ := (HT.out _ hG).at hlt
      subst ha
      have HC : Hid (∀ u : Unit, _) := fun _ => rchunk ts[k] wr (HL.out _ (List.getElem_mem hlt))
      have HB : Hid (∀ ke, chunkR ts[k] = .inl ke → chunksOf ts = .inl ke) := fun ke he => by
        have := chunksOf_bad (ts.take k) _ ts[k] (ts.drop (k + 1)) ke hch he
        rwa [← List.drop_eq_getElem_cons hlt, List.take_append_drop] at this
      have HN : Hid (∀ c, chunkR ts[k] = .inr c → chunksOf (ts.take (k + 1)) = .inr (ps.map Prod.fst ++ [c])) := fun c he => by
        rw [List.take_succ_eq_append_getElem hlt]
        exact chunksOf_ok _ _ _ c hch he
      have HO : Hid (OwnsK w.heap.size wr _ ps) := hO
      have HR : Hid _ := hR
      have HG : Hid _ := hG
      obtain ⟨al, cl, rfl⟩ := hO.slice
      clear hO hR hG hch
      generalize ts[k] = tk at *
      go_wp2_with fail
      refine (HC.out ()).mono ?_
      rintro e w2 ⟨hg2, (⟨ke, he, rfl⟩ | ⟨c, v, he, rfl, hown⟩)⟩
      · have hke := chunkR_err tk ke he
        have e1 : (ke != 0) = true := by simp; omega
        have HP : Hid (joinR ts = .inl ke) := by
          show _ = _
          rw [HJ.out, HB.out ke he]
          rfl
        have G2 : Hid _ := hg2
        clear he hke HB HN hg2 HC
        unfold ckV
        go_wp2
        go_ret2
        exact ⟨gallocR (gtrans HG.out G2.out) _, .inl ⟨ke, HP.out, rfl⟩⟩
      · have HN2 : Hid _ := HN.out c he
        obtain ⟨va, vl, vc, rfl⟩ := hown.slice
        have G2 : Hid _ := hg2
        have O2 : Hid (OwnsR wr.heap.size w2 (.slice va vl vc) c.rs) := hown
        have HO2 : Hid (OwnsK w.heap.size w2 (.slice al ps.length cl) ps) := HO.out.kept hg2
        have HR2 : Hid (∀ p ∈ ps, OwnsR w.heap.size w2 p.2 p.1.rs) := fun p hp => OwnsR.kept (HR.out p hp) hg2
        have HG2 : Hid (w.grownBy w2 none) := gtrans HG.out hg2
        clear he HB HN hg2 hown HC HO HR
        unfold ckV
        go_wp2_with (at_builtin; refine wpList_append_ck _ rfl _ _ rfl w.heap.size _ ps rfl (OwnsK.alloc (OwnsK.alloc HO2.out _) _) ⟨_, 0, none⟩ (c, .slice va vl vc) ⟨_, _, _, rfl⟩ rfl (cells_new2 _ _ _ _ (by simp)) (by omega) (by have h1 := HG2.out.size; simp; omega) ?_; intro v' w4 hO4 hg4)
        have HOA : Hid (∀ o o', OwnsK w.heap.size ((w2.alloc o).alloc o') (.slice al ps.length cl) ps) := fun o o' => OwnsK.alloc (OwnsK.alloc HO2.out _) _
        refine ⟨⟨k + 1, ps ++ [(c, .slice va vl vc)], by omega, by go_num, ?_, hO4, ?_, ?_⟩, by simp [intOf]; omega⟩
        · rw [HN2.out, List.map_append]
          rfl
        · intro p hp
          have hbase : OwnsR w.heap.size w2 p.2 p.1.rs := by
            rcases List.mem_append.1 hp with h | h
            · exact HR2.out p h
            · rw [List.mem_singleton.1 h]
              exact OwnsR.base O2.out HG.out.size
          exact OwnsR.beside (OwnsR.alloc (OwnsR.alloc hbase _) _) hg4 (fun g cs fr hg e => (HOA.out _ _).ne hg (by decide) e)
        · exact grow_own (gallocR (gallocR HG2.out _) _) hg4 (.inr HO2.out.own_ge)
    · obtain rfl : k = ts.length := by omega
      rw [List.take_length] at hch
      have hpl2 := chunksOf_length _ _ hch
      rw [List.length_map] at hpl2
      rw [hch] at HJ
      cases ps with
      | nil => simp at hpl2; omega
      | cons p0 ps0 =>
        rw [List.map_cons] at HJ
        unfold joinC at HJ
        obtain ⟨A, av⟩ := p0
        dsimp only at HJ
        obtain ⟨al, cl, rfl⟩ := hO.slice
        obtain ⟨g, rfl, hgB, hgl, hcells⟩ := hO.at (k := 0) (by simp)
        have HO : Hid (OwnsK w.heap.size wr (.slice (some ⟨g, 0, none⟩) ((A, av) :: ps0).length cl) ((A, av) :: ps0)) := hO
        have HR : Hid (∀ p ∈ (A, av) :: ps0, OwnsR w.heap.size wr p.2 p.1.rs) := hR
        have HG : Hid _ := hG
        obtain ⟨ava, avl, avc, hav⟩ := (hR (A, av) (by simp)).slice
        dsimp only at hav
        subst hav
        have k0 := hcells 0 (by omega)
        have k1 := hcells 1 (by omega)
        have k2 := hcells 2 (by omega)
        have k3 := hcells 3 (by omega)
        have k4 := hcells 4 (by omega)
        have k5 := hcells 5 (by omega)
        have k6 := hcells 6 (by omega)
        have k7 := hcells 7 (by omega)
        simp only [List.getElem_cons_zero, ckCells, Nat.zero_mul, Nat.zero_add, List.getElem?_cons_zero, List.getElem?_cons_succ] at k0 k1 k2 k3 k4 k5 k6 k7
        have hps : (0 : Int) < (((A, Value.slice ava avl avc) :: ps0).length : Int) := by simp
        have HPL : Hid (((A, Value.slice ava avl avc) :: ps0).length = ts.length) := hpl2
        have HCK : Hid (∀ c ∈ ((A, Value.slice ava avl avc) :: ps0).map Prod.fst, CkOk c) := chunksOf_mem _ _ hch
        rw [show A :: List.map Prod.fst ps0 = ((A, Value.slice ava avl avc) :: ps0).map Prod.fst from rfl] at HJ
        have HAI : Hid (CkOk A) := HCK.out A (by simp)
        clear hO hR hG hcells hch
        generalize hps' : ((A, Value.slice ava avl avc) :: ps0) = ps at *
        have hamx := HAI.out.many
        by_cases hmy : ps.length = A.many
        · have d2 : ((ps.length : Int) != (A.many : Int)) = false := by simp; omega
          have HMY : Hid _ := hmy
          have hmy2 : A.many ≤ 100 := by omega
          have hmp : 0 < A.many := by omega
          clear hmy hpl2 HPL
          go_wp2
          obtain ⟨W5, hW5⟩ : ∃ W5, W5 = (wr.alloc (.cells #[.int .i64 A.f, .int .i64 A.t, .int .i64 A.b, .int .i64 A.z, .slice ava avl avc, .int .i64 A.all, .int .i64 A.nu, .int .i64 A.many] 96)).alloc (.cells #[.int .i64 A.f, .int .i64 A.t, .int .i64 A.b, .int .i64 A.z, .slice none 0 0] 24) := ⟨_, rfl⟩
          have X5 : Hid (W5.heap[wr.heap.size]? = some (.cells #[.int .i64 A.f, .int .i64 A.t, .int .i64 A.b, .int .i64 A.z, .slice ava avl avc, .int .i64 A.all, .int .i64 A.nu, .int .i64 A.many] 96 (0, 0))) := by
            show _ = _
            rw [hW5]
            exact (Below.heap_alloc _ _ _ (by simp)).trans (World.alloc_heap_new _ _)
          have Y5 : Hid (W5.heap[wr.heap.size + 1]? = some (.cells #[.int .i64 A.f, .int .i64 A.t, .int .i64 A.b, .int .i64 A.z, .slice none 0 0] 24 (0, 0))) := by
            show _ = _
            rw [hW5, show wr.heap.size + 1 = (wr.alloc (.cells #[.int .i64 A.f, .int .i64 A.t, .int .i64 A.b, .int .i64 A.z, .slice ava avl avc, .int .i64 A.all, .int .i64 A.nu, .int .i64 A.many] 96)).heap.size from by simp]
            exact World.alloc_heap_new _ _
          have G5 : Hid (w.grownBy W5 none) := by
            show World.grownBy _ _ _
            rw [hW5]
            exact gallocR (gallocR HG.out _) _
          have O5 : Hid (OwnsK w.heap.size W5 (.slice (some ⟨g, 0, none⟩) ps.length cl) ps) := by
            show OwnsK _ _ _ _
            rw [hW5]
            exact OwnsK.alloc (OwnsK.alloc HO.out _) _
          have R5 : Hid (∀ p ∈ ps, OwnsR w.heap.size W5 p.2 p.1.rs) := by
            show ∀ p ∈ ps, _
            rw [hW5]
            exact fun p hp => OwnsR.alloc (OwnsR.alloc (HR.out p hp) _) _
          have hs5 : W5.heap.size = wr.heap.size + 2 := by rw [hW5]; simp
          rw [← hW5]
          have HWB : Hid (w.heap.size ≤ wr.heap.size) := HG.out.size
          clear hW5 k0 k1 k2 k3 k4 k5 k6 k7 HO HR HG
          generalize wr.heap.size = ab at *
          have HNK : Hid (∀ (t : TypeId) k cs fr, t ≠ 24 → W5.heap[k]? = some (.cells cs t fr) → some k ≠ some (ab + 1)) := fun t k cs fr ht hk e => by
            simp only [Option.some.injEq] at e
            rw [e, Y5.out] at hk
            simp only [Option.some.injEq, Obj.cells.injEq] at hk
            exact ht hk.2.1.symm
          have HX : Hid (∀ W, W5.grownBy W (some (ab + 1)) → W.heap[ab]? = some (.cells #[.int .i64 A.f, .int .i64 A.t, .int .i64 A.b, .int .i64 A.z, .slice ava avl avc, .int .i64 A.all, .int .i64 A.nu, .int .i64 A.many] 96 (0, 0)) ∧ OwnsK w.heap.size W (.slice (some ⟨g, 0, none⟩) ps.length cl) ps ∧ (∀ p ∈ ps, OwnsR w.heap.size W p.2 p.1.rs)) := fun W hW => by
            refine ⟨(hW.block ab (by omega) (by simp)).trans X5.out, OwnsK.beside O5.out hW (fun k cs fr hk => HNK.out _ k cs fr (by decide) hk), fun p hp => OwnsR.beside (R5.out p hp) hW (fun k cs fr hk => HNK.out _ k cs fr (by decide) hk)⟩
          go_loopw [10] (fun nv wq => ∃ (k : Nat) (sv : Value), k ≤ A.many ∧ nv = .int .i64 k ∧ wq.heap[ab + 1]? = some (.cells #[.int .i64 A.f, .int .i64 A.t, .int .i64 A.b, .int .i64 A.z, sv] 24 (0, 0)) ∧ OwnsR W5.heap.size wq sv (gatherAll (ps.map Prod.fst) k) ∧ (0 < k → ∀ c ∈ ps.map Prod.fst, sameHead A c = true) ∧ (∀ n, n < k → ((ps.map Prod.fst).filter (fun c => c.nu == n)).length = 1) ∧ (gatherAll (ps.map Prod.fst) k).length ≤ 100 * k ∧ W5.grownBy wq (some (ab + 1))) (fun nv _ => A.many - (intOf nv).toNat)
          case atStart => exact ⟨0, _, Nat.zero_le _, rfl, Y5.out, World.ownsRow_nil _ _ _ _, (fun h => absurd h (by omega)), (fun n h => absurd h (by omega)), by simp [gatherAll], drew_grown _ 0 _⟩
          case round =>
            obtain ⟨k, sv, hk2, rfl, hbx, hov, hsm, hon, hgl2, hG⟩ := hrel
            obtain ⟨hax, hok5, hor5⟩ := HX.out _ hG
            obtain ⟨a0', a1', a2', a3', a4', a5', a6', a7'⟩ := box8 hax
            obtain ⟨sva, svl, svc, rfl⟩ := hov.slice
            have hbl : ab + 1 < wr.heap.size := (Array.getElem?_eq_some_iff.1 hbx).1
            have hal : ab < wr.heap.size := by omega
            by_cases hlt2 : k < A.many
            · have HG0 : Hid (W5.grownBy wr (some (ab + 1))) := hG
              have HV0 : Hid (OwnsR W5.heap.size wr (.slice sva svl svc) (gatherAll (ps.map Prod.fst) k)) := hov
              have HB0 : Hid _ := hbx
              have HSM : Hid _ := hsm
              have HON : Hid _ := hon
              clear hG hov hbx hsm hon hax hok5 hor5
              go_wp2
              clear a0' a1' a2' a3' a4' a5' a6' a7' hbl hal
              go_loopw [11, 12] (fun fd i wq => ∃ (j : Nat) (sv : Value), j ≤ ps.length ∧ i = .int .i64 j ∧ fd = .int .i64 ((((ps.map Prod.fst).take j).filter (fun c => c.nu == k)).length : Nat) ∧ wq.heap[ab + 1]? = some (.cells #[.int .i64 A.f, .int .i64 A.t, .int .i64 A.b, .int .i64 A.z, sv] 24 (0, 0)) ∧ OwnsR W5.heap.size wq sv (gatherAll (ps.map Prod.fst) k ++ gathered ((ps.map Prod.fst).take j) k) ∧ (∀ c ∈ (ps.map Prod.fst).take j, sameHead A c = true) ∧ W5.grownBy wq (some (ab + 1))) (fun _ i _ => ps.length - (intOf i).toNat)
              case atStart => exact ⟨0, _, Nat.zero_le _, rfl, rfl, HB0.out, by simpa [gathered] using HV0.out, (fun c hc => by cases hc), HG0.out⟩
              case round =>
                obtain ⟨j, sv, hj, rfl, rfl, hbx, hov, hsm, hG⟩ := hrel
                obtain ⟨hax, hok5, hor5⟩ := HX.out _ hG
                obtain ⟨a0', a1', a2', a3', a4', a5', a6', a7'⟩ := box8 hax
                obtain ⟨sva2, svl2, svc2, rfl⟩ := hov.slice
                obtain ⟨b0', b1', b2', b3', b4', y0', y1', y2', y3', y4'⟩ := box5 hbx
                have hbl : ab + 1 < wr.heap.size := (Array.getElem?_eq_some_iff.1 hbx).1
                have hal : ab < wr.heap.size := by omega
                have hfl : (((ps.map Prod.fst).take j).filter (fun c => c.nu == k)).length ≤ 100 := by
                  refine Nat.le_trans (List.length_filter_le _ _) ?_
                  rw [List.length_take]
                  omega
                have hgl3 : (gatherAll (ps.map Prod.fst) k ++ gathered ((ps.map Prod.fst).take j) k).length ≤ 20000 := by
                  have := gathered_length k ((ps.map Prod.fst).take j) (fun c hc => HCK.out c (List.mem_of_mem_take hc))
                  rw [List.length_append]
                  omega
                have HG1 : Hid (W5.grownBy wr (some (ab + 1))) := hG
                have HV1 : Hid (OwnsR W5.heap.size wr (.slice sva2 svl2 svc2) (gatherAll (ps.map Prod.fst) k ++ gathered ((ps.map Prod.fst).take j) k)) := hov
                have HB1 : Hid _ := hbx
                have HSM1 : Hid _ := hsm
                have HWB2 : w.heap.size ≤ ab + 1 := Nat.le_trans HWB.out (by omega)
                by_cases hlt3 : j < ps.length
                · obtain ⟨g', e, -, hgl', hcells⟩ := hok5.at hlt3
                  simp only [Option.some.injEq, Addr.mk.injEq, and_true] at e
                  subst e
                  have hmem : ps[j] ∈ ps := List.getElem_mem hlt3
                  have hmem1 : ps[j].1 ∈ ps.map Prod.fst := List.mem_map.2 ⟨_, hmem, rfl⟩
                  have HRJ : Hid (OwnsR w.heap.size wr ps[j].2 ps[j].1.rs) := hor5 _ hmem
                  have hcko := HCK.out _ hmem1
                  have HGT : Hid _ := gathered_take (ps.map Prod.fst) k j (by rw [List.length_map]; exact hlt3)
                  rw [List.getElem_map] at HGT
                  have HBAD : Hid (sameHead A ps[j].1 = false → joinR ts = .inl 13) := fun hb => by
                    rw [HJ.out, if_neg]
                    rw [joinOk_iff]
                    rintro ⟨-, h2, -⟩
                    rw [h2 _ hmem1] at hb
                    cases hb
                  have HGD : Hid (sameHead A ps[j].1 = true → ∀ c ∈ (ps.map Prod.fst).take (j + 1), sameHead A c = true) := fun hb c hc => by
                    rw [List.take_succ_eq_append_getElem (by rw [List.length_map]; exact hlt3), List.getElem_map] at hc
                    rcases List.mem_append.1 hc with h | h
                    · exact HSM1.out c h
                    · rw [List.mem_singleton.1 h]
                      exact hb
                  clear hG hov hbx hsm hax hok5 hor5 hmem hmem1
                  generalize ps[j] = pj at *
                  obtain ⟨c, cv⟩ := pj
                  obtain ⟨cva, cvl, cvc, hcv⟩ := HRJ.out.slice
                  dsimp only at hcv
                  subst hcv
                  have k0 := hcells 0 (by omega)
                  have k1 := hcells 1 (by omega)
                  have k2 := hcells 2 (by omega)
                  have k3 := hcells 3 (by omega)
                  have k4 := hcells 4 (by omega)
                  have k5 := hcells 5 (by omega)
                  have k6 := hcells 6 (by omega)
                  have k7 := hcells 7 (by omega)
                  simp only [ckCells, Nat.add_zero, List.getElem?_cons_zero, List.getElem?_cons_succ] at k0 k1 k2 k3 k4 k5 k6 k7
                  clear hcells
                  dsimp only at HBAD HGD HGT HRJ hcko
                  have hjl : (j : Int) < (ps.length : Int) := by omega
                  by_cases e0 : c.f = A.f
                  case neg =>
                    have x0 : ((c.f : Int) != (A.f : Int)) = true := by simp; omega
                    have HP : Hid (joinR ts = .inl 13) := HBAD.out (by unfold sameHead; exact decide_eq_false (fun h => e0 h.1))
                    clear HBAD HGD
                    go_wp2
                    go_ret2
                    exact ⟨grow_but HWB2 G5.out (gallocR HG1.out _), .inl ⟨13, HP.out, rfl⟩⟩
                  have x0 : ((c.f : Int) != (A.f : Int)) = false := by simp; omega
                  by_cases e1 : c.t = A.t
                  case neg =>
                    have x1 : ((c.t : Int) != (A.t : Int)) = true := by simp; omega
                    have HP : Hid (joinR ts = .inl 13) := HBAD.out (by unfold sameHead; exact decide_eq_false (fun h => e1 h.2.1))
                    clear HBAD HGD
                    go_wp2
                    go_ret2
                    exact ⟨grow_but HWB2 G5.out (gallocR HG1.out _), .inl ⟨13, HP.out, rfl⟩⟩
                  have x1 : ((c.t : Int) != (A.t : Int)) = false := by simp; omega
                  by_cases e2 : c.b = A.b
                  case neg =>
                    have x2 : ((c.b : Int) != (A.b : Int)) = true := by simp; omega
                    have HP : Hid (joinR ts = .inl 13) := HBAD.out (by unfold sameHead; exact decide_eq_false (fun h => e2 h.2.2.1))
                    clear HBAD HGD
                    go_wp2
                    go_ret2
                    exact ⟨grow_but HWB2 G5.out (gallocR HG1.out _), .inl ⟨13, HP.out, rfl⟩⟩
                  have x2 : ((c.b : Int) != (A.b : Int)) = false := by simp; omega
                  by_cases e3 : c.z = A.z
                  case neg =>
                    have x3 : ((c.z : Int) != (A.z : Int)) = true := by simp; omega
                    have HP : Hid (joinR ts = .inl 13) := HBAD.out (by unfold sameHead; exact decide_eq_false (fun h => e3 h.2.2.2.1))
                    clear HBAD HGD
                    go_wp2
                    go_ret2
                    exact ⟨grow_but HWB2 G5.out (gallocR HG1.out _), .inl ⟨13, HP.out, rfl⟩⟩
                  have x3 : ((c.z : Int) != (A.z : Int)) = false := by simp; omega
                  by_cases e4 : c.all = A.all
                  case neg =>
                    have x4 : ((c.all : Int) != (A.all : Int)) = true := by simp; omega
                    have HP : Hid (joinR ts = .inl 13) := HBAD.out (by unfold sameHead; exact decide_eq_false (fun h => e4 h.2.2.2.2.1))
                    clear HBAD HGD
                    go_wp2
                    go_ret2
                    exact ⟨grow_but HWB2 G5.out (gallocR HG1.out _), .inl ⟨13, HP.out, rfl⟩⟩
                  have x4 : ((c.all : Int) != (A.all : Int)) = false := by simp; omega
                  by_cases e5 : c.many = A.many
                  case neg =>
                    have x5 : ((c.many : Int) != (A.many : Int)) = true := by simp; omega
                    have HP : Hid (joinR ts = .inl 13) := HBAD.out (by unfold sameHead; exact decide_eq_false (fun h => e5 h.2.2.2.2.2))
                    clear HBAD HGD
                    go_wp2
                    go_ret2
                    exact ⟨grow_but HWB2 G5.out (gallocR HG1.out _), .inl ⟨13, HP.out, rfl⟩⟩
                  have x5 : ((c.many : Int) != (A.many : Int)) = false := by simp; omega
                  have HSH : Hid _ := HGD.out (by unfold sameHead; exact decide_eq_true ⟨e0, e1, e2, e3, e4, e5⟩)
                  clear HBAD HGD
                  have JB : Hid (∀ o W', (World.alloc wr o).grownBy W' (Value.slice sva2 svl2 svc2).ownBlock → W'.heap[ab + 1]? = some (.cells #[.int .i64 A.f, .int .i64 A.t, .int .i64 A.b, .int .i64 A.z, .slice sva2 svl2 svc2] 24 (0, 0))) := fun o W' hW' => by
                    have hne : some (ab + 1) ≠ (Value.slice sva2 svl2 svc2).ownBlock := fun e => by have := HV1.out.own_ge _ e.symm; omega
                    exact (hW'.block (ab + 1) (by simp; omega) hne).trans ((Below.heap_alloc _ _ _ hbl).trans HB1.out)
                  by_cases hnu : c.nu = k
                  · have d6 : ((c.nu : Int) == (k : Int)) = true := by simp [hnu]
                    rw [if_pos (by simpa using hnu), if_pos (by simpa using hnu)] at HGT
                    go_wp2_with (at_builtin; refine wpList_append_recs _ rfl _ _ rfl W5.heap.size _ (gatherAll (ps.map Prod.fst) k ++ gathered ((ps.map Prod.fst).take j) k) w.heap.size _ c.rs rfl (OwnsR.alloc HV1.out _) rfl (OwnsR.alloc HRJ.out _) (by have := hcko.len; omega) (by have := HG1.out.size; simp; omega) ?_; intro v' w7 hO7 hg7; obtain ⟨a7, l7, c7, rfl⟩ := hO7.slice; have O7 : Hid _ := hO7; have G7 : Hid _ := hg7; have hb7 := JB.out _ _ hg7; obtain ⟨d0', d1', d2', d3', d4', z0', z1', z2', z3', z4'⟩ := box5 hb7; clear hO7 hg7 hb7)
                    obtain ⟨p1, p2, p3⟩ := box_step (A := W5) (by omega) ((Below.heap_alloc _ _ _ hbl).trans HB1.out) (OwnsR.alloc HV1.out _) (gallocR HG1.out _) G7.out O7.out
                    refine ⟨⟨j + 1, _, by omega, by go_num, by rw [HGT.out.2]; simp, p1, ?_, HSH.out, p3⟩, by simp [intOf]; omega⟩
                    rw [HGT.out.1, ← List.append_assoc]
                    exact p2
                  · have d6 : ((c.nu : Int) == (k : Int)) = false := by simp; omega
                    rw [if_neg (by simpa using hnu), if_neg (by simpa using hnu)] at HGT
                    go_wp2
                    refine ⟨⟨j + 1, _, by omega, by go_num, by rw [HGT.out.2]; rfl, (Below.heap_alloc _ _ _ hbl).trans HB1.out, ?_, HSH.out, gallocR HG1.out _⟩, by simp [intOf]; omega⟩
                    rw [HGT.out.1, List.append_nil]
                    exact OwnsR.alloc HV1.out _
                · obtain rfl : j = ps.length := by omega
                  rw [List.take_of_length_le (by rw [List.length_map]; omega)] at HSM1 HV1 hfl hgl3 ⊢
                  clear hG hov hbx hsm hax hok5 hor5
                  by_cases hone : ((ps.map Prod.fst).filter (fun c => c.nu == k)).length = 1
                  · rw [hone]
                    go_wp2
                    refine ⟨⟨k + 1, _, by omega, by go_num, HB1.out, ?_, fun _ => HSM1.out, ?_, ?_, HG1.out⟩, by simp [intOf]; omega⟩
                    · rw [gatherAll_succ]
                      exact HV1.out
                    · intro n hn
                      by_cases hnk : n = k
                      · rw [hnk]
                        exact hone
                      · exact HON.out n (by omega)
                    · have := gathered_length k (ps.map Prod.fst) HCK.out
                      rw [gatherAll_succ, List.length_append]
                      omega
                  · have d7 : ((((ps.map Prod.fst).filter (fun c => c.nu == k)).length : Int) != 1) = true := by simp; omega
                    have HP : Hid (joinR ts = .inl 13) := by
                      show _ = _
                      rw [HJ.out, if_neg]
                      rw [joinOk_iff]
                      rintro ⟨-, -, h3, -⟩
                      exact hone (h3 k hlt2)
                    clear hone
                    go_wp2
                    go_ret2
                    exact ⟨grow_but HWB2 G5.out HG1.out, .inl ⟨13, HP.out, rfl⟩⟩
            · obtain rfl : k = A.many := by omega
              have HWB2 : w.heap.size ≤ ab + 1 := Nat.le_trans HWB.out (by omega)
              have HG1 : Hid (W5.grownBy wr (some (ab + 1))) := hG
              have HB1 : Hid _ := hbx
              have HSM1 : Hid _ := hsm hmp
              have HON : Hid _ := hon
              have hsvl : svl = (gatherAll (ps.map Prod.fst) A.many).length := by
                obtain ⟨_, _, e⟩ := hov.recs.slice
                simp only [Value.slice.injEq] at e
                exact e.2.1
              subst hsvl
              have HV1 : Hid (OwnsR W5.heap.size wr (.slice sva (gatherAll (ps.map Prod.fst) A.many).length svc) (gatherAll (ps.map Prod.fst) A.many)) := hov
              have hgl4 : (gatherAll (ps.map Prod.fst) A.many).length ≤ 10000 := by omega
              obtain ⟨b0', b1', b2', b3', b4', -⟩ := box5 hbx
              clear hG hov hbx hsm hon hax hok5 hor5
              cases hro : recsOk A.b A.z (-1) (gatherAll (ps.map Prod.fst) A.many) with
              | false =>
                have HP : Hid (joinR ts = .inl 13) := by
                  show _ = _
                  rw [HJ.out, if_neg]
                  rw [joinOk_iff]
                  rintro ⟨-, -, -, h4, -⟩
                  rw [hro] at h4
                  cases h4
                have HSE : Hid (∀ u : Unit, _) := fun _ => ser_bad A.f A.t A.b A.z (.slice sva (gatherAll (ps.map Prod.fst) A.many).length svc) (gatherAll (ps.map Prod.fst) A.many) wr HV1.out.recs (by omega) (by rw [hro, Bool.and_false])
                clear hro
                go_wp2_with fail
                refine (HSE.out ()).mono ?_
                rintro e w8 ⟨rfl, hb8⟩
                go_wp2
                go_ret2
                exact ⟨grow_but HWB2 G5.out (gtrans HG1.out (gbelow hb8)), .inl ⟨13, HP.out, rfl⟩⟩
              | true =>
                have HSE : Hid (∀ u : Unit, _) := fun _ => ser_good A.f A.t A.b A.z (.slice sva (gatherAll (ps.map Prod.fst) A.many).length svc) (gatherAll (ps.map Prod.fst) A.many) wr HV1.out.recs HAI.out.head hro
                go_wp2_with fail
                refine (HSE.out ()).mono ?_
                rintro e w8 ⟨rfl, hb8⟩
                have G8 : Hid (W5.grownBy w8 (some (ab + 1))) := gtrans HG1.out (gbelow hb8)
                have hb8' := (hb8.block (ab + 1) hbl).trans HB1.out
                have ha8 := (HX.out _ G8.out).1
                obtain ⟨a0'', a1'', a2'', a3'', a4'', a5'', a6'', a7''⟩ := box8 ha8
                obtain ⟨b0'', b1'', b2'', b3'', b4'', -⟩ := box5 hb8'
                clear hb8 hb8' ha8
                by_cases hal2 : (gatherAll (ps.map Prod.fst) A.many).length = A.all
                · have HP : Hid (joinR ts = .inr (A.f, A.t, A.b, A.z, gatherAll (ps.map Prod.fst) A.many)) := by
                    show _ = _
                    rw [HJ.out, if_pos]
                    rw [joinOk_iff, List.length_map]
                    exact ⟨HMY.out, HSM1.out, HON.out, hro, hal2⟩
                  have d8 : (((gatherAll (ps.map Prod.fst) A.many).length : Int) != (A.all : Int)) = false := by simp; omega
                  clear hro hal2
                  go_wp2
                  go_ret2
                  exact ⟨grow_but HWB2 G5.out G8.out, .inr ⟨_, _, _, _, _, HP.out, rfl⟩⟩
                · have HP : Hid (joinR ts = .inl 13) := by
                    show _ = _
                    rw [HJ.out, if_neg]
                    rw [joinOk_iff]
                    rintro ⟨-, -, -, -, h5⟩
                    exact hal2 h5
                  have d8 : (((gatherAll (ps.map Prod.fst) A.many).length : Int) != (A.all : Int)) = true := by simp; omega
                  clear hro hal2
                  go_wp2
                  go_ret2
                  exact ⟨grow_but HWB2 G5.out G8.out, .inl ⟨13, HP.out, rfl⟩⟩
        · have d2 : ((ps.length : Int) != (A.many : Int)) = true := by simp; omega
          have HP : Hid (joinR ts = .inl 13) := by
            show _ = _
            rw [HJ.out, if_neg]
            rw [joinOk_iff, List.length_map]
            exact fun h => hmy h.1
          go_wp2
          go_ret2
          exact ⟨gallocR (gallocR HG.out _) _, .inl ⟨13, HP.out, rfl⟩⟩
end Go.Proofs.Ytkmeingnhaomaaa
/- The program's Join. -/
namespace Go.Proofs.Ytkmeingnhaomaaa
open Go.RowKit Go.Shelf

theorem sk_of {B : Nat} {W : World} : ∀ (ps : List (Ck × Value)), ReadCs B W ps → ∃ xs : List Sk, xs.map skP = ps
  | [], _ => ⟨[], rfl⟩
  | p :: ps, h => by
    obtain ⟨xs, hx⟩ := sk_of ps (fun q hq => h q (List.mem_cons_of_mem _ hq))
    obtain ⟨a, n, c, e⟩ := (h p (by simp)).slice
    refine ⟨(p.1, a, n, c) :: xs, ?_⟩
    rw [List.map_cons, hx]
    show ((p.1, Value.slice a n c) : Ck × Value) :: ps = p :: ps
    rw [← e]
theorem chunks_err : ∀ (xs : List (List UInt8)) (k : Int), chunksOf xs = .inl k → 2 ≤ k ∧ k ≤ 8
  | [], k, h => by cases h
  | x :: xs, k, h => by
    rw [chunksOf] at h
    cases hx : chunkR x with
    | inl k' =>
      rw [hx] at h
      simp only [Sum.inl.injEq] at h
      rw [← h]
      exact chunkR_err x k' hx
    | inr c0 =>
      rw [hx] at h
      simp only [] at h
      cases h2 : chunksOf xs with
      | inl k' =>
        rw [h2] at h
        simp only [Sum.inl.injEq] at h
        rw [← h]
        exact chunks_err xs k' h2
      | inr cs0 => rw [h2] at h; cases h
theorem fresh_row {w w1 w2 : World} {g : Nat} (h1 : w.grownBy w1 none) (h2 : w1.grownBy w2 (some g)) (hg : w.heap.size ≤ g) : w.grownBy w2 none := grown_fresh h1 h2 hg

set_option maxRecDepth 100000 in
set_option maxHeartbeats 2000000 in
theorem pjoin (sv : Value) (ts : List (List UInt8)) (w : World) (hT : Txs w.heap.size w sv ts) (hl : ∀ t ∈ ts, t.length ≤ 4611686018427387904) (htl : ts.length ≤ 4611686018427387904) :
    Calls Try.prog 34 #[sv] w (ToldJ ts w) := by
  have HR : Hid (∀ u : Unit, _) := fun _ => readAll_any sv ts w hT hl htl
  obtain ⟨a, c, rfl⟩ := hT.slice
  have hmf : ∀ (fn : Fn) (first cap : Array Value) (w : World), (Instr.makeFunc fn first cap).run Try.prog w = .ok (.func fn first cap) w := fun _ _ _ _ => rfl
  clear hT hl
  go_enter Try.func34, Try.ntmps34
  go_wp2_with fail
  refine (HR.out ()).mono ?_
  rintro e w1 (⟨hn, hg, rfl⟩ | ⟨h1, h100, hg, (⟨k, hk, rfl⟩ | ⟨ps, g, hk, rfl, ho, hr⟩)⟩)
  · have HJ : Hid (joinR ts = .inl 1) := by
      show _ = _
      unfold joinR
      rw [if_pos hn]
    have HG : Hid _ := hg
    clear hn hg HR
    go_wp2
    go_ret2
    exact ⟨HG.out, .inl ⟨1, HJ.out, rfl⟩⟩
  · have hke := chunks_err ts k hk
    have e1 : (k != 0) = true := by simp; omega
    have HJ : Hid (joinR ts = .inl k) := by
      show _ = _
      unfold joinR
      rw [if_neg (by omega), hk]
      rfl
    have HG : Hid _ := hg
    clear hg HR hk hke
    go_wp2
    go_ret2
    exact ⟨HG.out, .inl ⟨k, HJ.out, rfl⟩⟩
  · obtain ⟨xs, hx⟩ := sk_of ps hr
    have hlen : xs.length = ts.length := by
      have e1 := chunksOf_length _ _ hk
      rw [← hx] at e1
      simpa using e1
    have hgB : w.heap.size ≤ g := by
      rcases ho.2 with ⟨e0, _⟩ | ⟨g', cap, cur, e0, hb, _⟩
      · cases e0
      · simp only [Value.slice.injEq, Option.some.injEq, Addr.mk.injEq] at e0
        obtain ⟨⟨rfl, -, -⟩, -, -⟩ := e0
        exact hb
    have hmem : ∀ x ∈ xs, CkOk x.1 ∧ x.1.nu < x.1.many := fun x hxm => by
      have hm : x.1 ∈ ps.map Prod.fst := by
        rw [← hx, List.map_map]
        exact List.mem_map.2 ⟨x, hxm, rfl⟩
      exact ⟨chunksOf_mem _ _ hk _ hm, chunksOf_nu _ _ hk _ hm⟩
    have hJC : joinR ts = joinC (.inr (xs.map (·.1))) := by
      unfold joinR
      rw [if_neg (by omega), hk, ← hx, List.map_map]
      rfl
    have HJ : Hid _ := hJC
    have HD : Hid (∀ u : Unit, _) := fun _ => joined_any g ts.length w.heap.size xs w1 (by rw [hlen, hx]; exact ho) (by omega) (by omega) (fun x hxm => hr (skP x) (by rw [← hx]; exact List.mem_map.2 ⟨x, hxm, rfl⟩)) hmem
    rw [hlen] at HD
    have HG : Hid _ := hg
    clear hg HR hk hr ho hx hmem hJC
    go_wp2_with fail
    refine (HD.out ()).mono ?_
    rintro e w2 ⟨hg2, (⟨hj, f, t, b, z, a', n', c', rfl⟩ | ⟨f, t, b, z, sv', rs, hj, hw, hro, hrec, rfl⟩)⟩
    · have HA : Hid (joinR ts = .inl 13) := HJ.out.trans hj
      have G2 : Hid (w.grownBy w2 none) := fresh_row HG.out hg2 hgB
      clear hj hg2 HD
      go_wp2
      go_ret2
      exact ⟨gallocR G2.out _, .inl ⟨13, HA.out, rfl⟩⟩
    · have HA : Hid (joinR ts = .inr (f, t, b, z, rs)) := HJ.out.trans hj
      have G2 : Hid (w.grownBy w2 none) := fresh_row HG.out hg2 hgB
      obtain ⟨a', c', rfl⟩ := hrec.slice
      obtain ⟨W3, hW3⟩ : ∃ W3, W3 = w2.alloc (.cells #[.int .i64 f, .int .i64 t, .int .i64 b, .int .i64 z, .slice a' rs.length c'] 24) := ⟨_, rfl⟩
      have HW : Hid (∀ u : Unit, _) := fun _ => write_any f t b z (.slice a' rs.length c') rs W3 (by rw [hW3]; exact hrec.moved ((Below.refl _ _).alloc (Nat.le_refl _) _)) hw hro
      have G3 : Hid (w.grownBy W3 none) := by rw [hW3]; exact gallocR G2.out _
      clear hj hg2 HD hrec hw hro
      go_wp2_with fail
      rw [← hW3]
      clear hW3
      refine (HW.out ()).mono ?_
      rintro e w4 ⟨rfl, hb⟩
      have G4 : Hid (w.grownBy w4 none) := gtrans G3.out (gbelow hb)
      clear hb HW
      go_wp2
      go_ret2
      exact ⟨G4.out, .inr ⟨f, t, b, z, rs, HA.out, rfl⟩⟩
end Go.Proofs.Ytkmeingnhaomaaa
/- Lists of texts that are owned, written into and looked at again. -/
namespace Go.Proofs.Ytkmeingnhaomaaa
open Go.RowKit Go.Shelf

theorem Try.infoStrs : (Try.prog.info? 52).map (fun i => (i.zero, i.size, i.bytes)) = some (some (.slice none 0 0), 1, 24) := by kernel_rfl

/-- The slice value sv holds the texts cs, in a block below B; or there are none. -/
def Tss (B : Nat) (W : World) (sv : Value) (cs : List ByteArray) : Prop :=
  (cs = [] ∧ ∃ a cap, sv = .slice a 0 cap) ∨ ∃ b off cap, sv = .slice (some ⟨b, off, none⟩) cs.length cap ∧ b < B ∧
    ∀ j (h : j < cs.length), W.cell? ⟨b, off + j, none⟩ = some (.string cs[j])
theorem Tss.moved {W W' : World} {sv : Value} {cs : List ByteArray} (h : Tss W.heap.size W sv cs) (hb : Below W.heap.size W W') : Tss W'.heap.size W' sv cs := by
  rcases h with h | ⟨b, off, cap, e, hlt, hc⟩
  · exact .inl h
  · exact .inr ⟨b, off, cap, e, Nat.lt_of_lt_of_le hlt hb.size, fun j hj => (hb.cell (p := ⟨b, _, none⟩) hlt).trans (hc j hj)⟩
theorem Tss.slice {B : Nat} {W : World} {sv : Value} {cs : List ByteArray} (h : Tss B W sv cs) : ∃ a cap, sv = .slice a cs.length cap := by
  rcases h with ⟨rfl, a, cap, e⟩ | ⟨b, off, cap, e, _⟩
  · exact ⟨a, cap, e⟩
  · exact ⟨_, cap, e⟩
theorem Tss.at {B : Nat} {W : World} {a : Option Addr} {l cap : Nat} {cs : List ByteArray} (h : Tss B W (.slice a l cap) cs) {k : Nat} (hk : k < cs.length) :
    ∃ b off, a = some ⟨b, off, none⟩ ∧ b < B ∧ W.cell? ⟨b, off + k, none⟩ = some (.string cs[k]) := by
  rcases h with ⟨rfl, _⟩ | ⟨b, off, cap', e, hlt, hc⟩
  · simp at hk
  · simp only [Value.slice.injEq] at e
    exact ⟨b, off, e.1, hlt, hc k hk⟩

def strVals (cs : List ByteArray) : List Value := cs.map Value.string
theorem strVals_snoc (cs : List ByteArray) (r : ByteArray) : strVals (cs ++ [r]) = strVals cs ++ [.string r] := by simp [strVals]
theorem strVals_length (cs : List ByteArray) : (strVals cs).length = cs.length * 1 := by simp [strVals]
theorem strVals_at (cs : List ByteArray) (j : Nat) (h : j < cs.length) : (strVals cs)[j]? = some (.string cs[j]) := by simp [strVals, h]
theorem strVals_set (cs : List ByteArray) (k : Nat) (r : ByteArray) : strVals (cs.set k r) = (strVals cs).set k (.string r) := by simp [strVals, List.map_set]

/-- v owns the texts cs, in a block from B on. -/
def OwnsS (B : Nat) (w : World) (v : Value) (cs : List ByteArray) : Prop := w.ownsRow B 9 1 v cs.length (strVals cs)
theorem ownsS_snoc {B : Nat} {W : World} {v : Value} {pre : List ByteArray} {x : ByteArray} (h : W.ownsRow B 9 1 v (pre.length + 1) (strVals pre ++ [.string x])) : OwnsS B W v (pre ++ [x]) := by
  unfold OwnsS
  rw [strVals_snoc, List.length_append]
  exact h
theorem OwnsS.slice {B : Nat} {W : World} {v : Value} {cs : List ByteArray} (h : OwnsS B W v cs) : ∃ a cp, v = .slice a cs.length cp := by
  rcases h.2 with ⟨rfl, h0⟩ | ⟨g, cap, cur, rfl, _⟩
  · exact ⟨none, 0, by rw [h0]⟩
  · exact ⟨_, _, rfl⟩
theorem OwnsS.own_ge {B : Nat} {W : World} {v : Value} {cs : List ByteArray} (h : OwnsS B W v cs) : ∀ g, v.ownBlock = some g → B ≤ g := by
  intro g e
  rcases h.2 with ⟨rfl, _⟩ | ⟨g', cap, cur, rfl, hb, _⟩
  · simp [Value.ownBlock] at e
  · obtain rfl : g' = g := by simpa [Value.ownBlock] using e
    exact hb
theorem OwnsS.kept {B : Nat} {W W' : World} {v : Value} {cs : List ByteArray} (h : OwnsS B W v cs) (hg : W.grownBy W' none) : OwnsS B W' v cs := by
  refine World.ownsRow.kept h hg ?_
  rcases h.2 with ⟨rfl, _⟩ | ⟨g, cap, cur, rfl, _⟩
  · exact .inl rfl
  · exact .inr (by simp [Value.ownBlock])
theorem OwnsS.alloc {B : Nat} {W : World} {v : Value} {cs : List ByteArray} (h : OwnsS B W v cs) (o : Obj) : OwnsS B (W.alloc o) v cs := World.ownsRow.alloc h o
theorem OwnsS.base {B B' : Nat} {W : World} {v : Value} {cs : List ByteArray} (h : OwnsS B W v cs) (hb : B' ≤ B) : OwnsS B' W v cs := by
  refine ⟨h.1, ?_⟩
  rcases h.2 with hn | ⟨g, cap, cur, hv, hbg, rest⟩
  · exact .inl hn
  · exact .inr ⟨g, cap, cur, hv, Nat.le_trans hb hbg, rest⟩
theorem OwnsS.row {B : Nat} {W : World} {g n cap : Nat} {cs : List ByteArray} (h : OwnsS B W (.slice (some ⟨g, 0, none⟩) n cap) cs) (j : Nat) (hj : j < cs.length) :
    W.cell? ⟨g, j, none⟩ = some (.string cs[j]) := by
  have h0 : W.ownsRow B 9 1 (.slice (some ⟨g, 0, none⟩) n cap) cs.length (strVals cs) := h
  have e0 := strVals_at cs j hj
  obtain ⟨rfl⟩ : n = cs.length := by
    rcases h0.2 with ⟨e, _⟩ | ⟨g', cap', cur, e, _⟩
    · cases e
    · cases e; rfl
  have c0 := h0.cells (g := g) rfl _ _ e0
  simp only [Addr.add_lit, Nat.zero_add] at c0 ⊢
  exact c0
theorem OwnsS.store {B : Nat} {W : World} {g n cap : Nat} {cs : List ByteArray} (h : OwnsS B W (.slice (some ⟨g, 0, none⟩) n cap) cs) (k : Nat) (r : ByteArray) :
    OwnsS B (W.setCell ⟨g, k, none⟩ (.string r)) (.slice (some ⟨g, 0, none⟩) n cap) (cs.set k r) := by
  have h0 : W.ownsRow B 9 1 (.slice (some ⟨g, 0, none⟩) n cap) cs.length (strVals cs) := h
  rcases h0.2 with ⟨e, _⟩ | ⟨g', cap', cur, e, hb, hg, h1, h2, h3, h4⟩
  · cases e
  cases e
  have b1 := block_set (i := k) hg (.string r)
  have hlen : (strVals (cs.set k r)).length = (cs.set k r).length * 1 := strVals_length _
  refine ⟨hlen, .inr ⟨g, cap, _, by rw [List.length_set], hb, b1, by rw [List.length_set]; exact h1, h2, by simpa using h3, ?_⟩⟩
  rw [List.length_set, strVals_set, ← h4]
  simp only [Array.toList_setIfInBounds, List.take_set]

/-- A list that lies from the front of a block below N. -/
def OldS (N : Nat) (W : World) (s : Value) (xs : List ByteArray) : Prop :=
  (xs = [] ∧ ∃ a cap, s = .slice a 0 cap) ∨ ∃ b cap, s = .slice (some ⟨b, 0, none⟩) xs.length cap ∧ b < N ∧
    ∀ j (h : j < xs.length), W.cell? ⟨b, j, none⟩ = some (.string xs[j])
theorem OwnsS.old {B : Nat} {W : World} {v : Value} {cs : List ByteArray} (h : OwnsS B W v cs) : OldS W.heap.size W v cs := by
  rcases h.2 with ⟨rfl, hn⟩ | ⟨g, cap, cur, rfl, _, hg, _⟩
  · exact .inl ⟨List.eq_nil_of_length_eq_zero hn, none, 0, rfl⟩
  · exact .inr ⟨g, cap, rfl, (Array.getElem?_eq_some_iff.1 hg).1, h.row⟩
theorem OldS.tss {N : Nat} {W : World} {v : Value} {cs : List ByteArray} (h : OldS N W v cs) : Tss N W v cs := by
  rcases h with h | ⟨b, cap, e, hb, hc⟩
  · exact .inl h
  · refine .inr ⟨b, 0, cap, e, hb, fun j hj => ?_⟩
    have := hc j hj
    simpa only [Nat.zero_add] using this
theorem OwnsS.tss {B : Nat} {W : World} {v : Value} {cs : List ByteArray} (h : OwnsS B W v cs) : Tss W.heap.size W v cs := h.old.tss
theorem OldS.mono {N N' : Nat} {W : World} {v : Value} {cs : List ByteArray} (h : OldS N W v cs) (hN : N ≤ N') : OldS N' W v cs := by
  rcases h with h | ⟨b, cap, e, hb, hc⟩
  · exact .inl h
  · exact .inr ⟨b, cap, e, Nat.lt_of_lt_of_le hb hN, hc⟩
theorem OldS.below {N : Nat} {W W' : World} {v : Value} {cs : List ByteArray} (h : OldS N W v cs) (hb : ∀ k, k < N → W'.heap[k]? = W.heap[k]?) : OldS N W' v cs := by
  rcases h with h | ⟨b, cap, e, hlt, hc⟩
  · exact .inl h
  · exact .inr ⟨b, cap, e, hlt, fun j hj => (World.cell?_of_block (hb b hlt)).trans (hc j hj)⟩
theorem OldS.room {B N : Nat} {W W' : World} {s : Value} {xs cs : List ByteArray} {r : ByteArray} {g n n' cap cap' : Nat} (h : OldS N W s xs) (ho : OwnsS B W (.slice (some ⟨g, 0, none⟩) n cap) cs) (ho' : OwnsS B W' (.slice (some ⟨g, 0, none⟩) n' cap') (cs ++ [r])) (hg : W.grownBy W' (some g)) (hN : N ≤ W.heap.size) (hl : xs.length ≤ cs.length) : OldS N W' s xs := by
  rcases h with h | ⟨b, c, e, hlt, hc⟩
  · exact .inl h
  · refine .inr ⟨b, c, e, hlt, fun j hj => ?_⟩
    have h0 := hc j hj
    by_cases hbg : b = g
    · subst hbg
      have o0 := ho.row j (by omega)
      have p0 := ho'.row j (by rw [List.length_append]; omega)
      rw [List.getElem_append_left (by omega)] at p0
      rw [h0] at o0
      exact p0.trans o0.symm
    · exact (World.cell?_of_block (hg.block b (Nat.lt_of_lt_of_le hlt hN) (by simpa using hbg))).trans h0
theorem OldS.other {N : Nat} {W W' : World} {s : Value} {xs : List ByteArray} {go : Nat} {a : Option Addr} {l c : Nat} (h : OldS N W s xs) (hg : W.grownBy W' (some go)) (hN : N ≤ W.heap.size) (hc : W.cell? ⟨go, 0, none⟩ = some (.slice a l c)) : OldS N W' s xs := by
  rcases h with h | ⟨b, cap, e, hlt, hcs⟩
  · exact .inl h
  · refine .inr ⟨b, cap, e, hlt, fun j hj => ?_⟩
    have h0 := hcs j hj
    have hne : b ≠ go := by
      rintro rfl
      have := hcs 0 (by omega)
      rw [hc] at this
      cases this
    exact (World.cell?_of_block (hg.block b (Nat.lt_of_lt_of_le hlt hN) (by simpa using hne))).trans h0
theorem OldS.alloc {N : Nat} {W : World} {s : Value} {xs : List ByteArray} (h : OldS N W s xs) (hN : N ≤ W.heap.size) (o : Obj) : OldS N (W.alloc o) s xs := h.below fun k hk => Below.heap_alloc W o k (by omega)
theorem OldS.slice {N : Nat} {W : World} {s : Value} {xs : List ByteArray} (h : OldS N W s xs) : ∃ a cap, s = .slice a xs.length cap := h.tss.slice

/-- **'g = append(g, r)': the lists ahead stay.** -/
theorem wpList_append_sw (w : World) {ops : Array Oper} {rest : List Oper} {o : Oper} {a : Act} {Q : Exit → Act → World → Prop} (hgd : o.guard = none) (s x : Operand)
    (ho : o.op = .call { callee := .builtin .append, args := #[s, x], argTypes := #[52, 52] })
    (B : Nat) (v : Value) (cs : List ByteArray) (hs : a.eval s = v) (hown : OwnsS B w v cs) (ad : Addr) (r : ByteArray) (hx : a.eval x = .slice (some ad) 1 1)
    (hnews : ∀ j u, [Value.string r][j]? = some u → w.cell? (ad.add j) = some u) (hl : cs.length ≤ 2000) (hB : B ≤ w.heap.size)
    (h : ∀ v' w', OwnsS B w' v' (cs ++ [r]) → w.grownBy w' v.ownBlock → (∀ N sv xs, N ≤ w.heap.size → xs.length ≤ cs.length → OldS N w sv xs → OldS N w' sv xs) → (v'.ownBlock = v.ownBlock ∨ ∀ g, v'.ownBlock = some g → w.heap.size ≤ g) → wpList Try.prog ops Q rest (a.put o.dst v') w') : wpList Try.prog ops Q (o :: rest) a w := by
  obtain ⟨i0, hi, hz0, hz1, hz2⟩ := info_parts Try.infoStr
  have hml : cs.length + 1 ≤ maxLen := Nat.le_trans (show cs.length + 1 ≤ 2001 by omega) (by decide)
  have h0 : w.ownsRow B 9 1 v cs.length (strVals cs) := hown
  have h1c : ∀ u ∈ [Value.string r], u.oneCell' = true := by simp [Value.oneCell']
  rcases h0.2 with ⟨rfl, hn⟩ | ⟨g, cap, cur, rfl, _⟩
  · obtain rfl : cs = [] := List.eq_nil_of_length_eq_zero hn
    refine wpList_append_own w hgd s x 52 ho w.heap.size 9 i0 _ 1 16 Try.underlying52 hi hz0 hz1 hz2 rfl (by decide) _ _ _ hs (World.ownsRow_nil _ _ _ _) ad 1 1 _ hx rfl hnews h1c hml (by omega) (Nat.le_refl _) ?_
    intro v' w' ho' hg' _
    have hO : OwnsS w.heap.size w' v' ([] ++ [r]) := ownsS_snoc (pre := []) ho'
    exact h v' w' (hO.base hB) hg' (fun N sv xs hN _ hold => hold.below (fun k hk => hg'.block k (by omega) (by simp [Value.ownBlock]))) (.inr hO.own_ge)
  · by_cases hroom : cs.length + 1 ≤ cap
    · refine wpList_append_own_spare w hgd s x 52 ho B 9 i0 1 Try.underlying52 hi hz1 g cs.length cap _ hs h0 ad 1 1 _ hx rfl hnews h1c hroom ?_
      intro w' ho' hg'
      exact h _ w' (ownsS_snoc ho') hg' (fun N sv xs hN hxl hold => hold.room hown (ownsS_snoc ho') hg' hN hxl) (.inl rfl)
    · refine wpList_append_grows w hgd s x 52 ho 9 i0 _ 1 16 Try.underlying52 hi hz0 hz1 hz2 rfl (by decide) (some ⟨g, 0, none⟩) cs.length cap (strVals cs) hs (fun e => by cases e) h0.1 (fun b e j u hj => by cases e; exact h0.cells (g := g) rfl j u hj) ad 1 1 _ hx rfl hnews h1c (by omega) hml (by omega) ?_
      intro v' w' ho' hg'
      have hO : OwnsS w.heap.size w' v' (cs ++ [r]) := ownsS_snoc ho'
      refine h v' w' (hO.base hB) ?_ (fun N sv xs hN _ hold => hold.below (fun k hk => hg'.block k (by omega) (by simp))) (.inr hO.own_ge)
      exact ⟨hg'.os, hg'.tape, hg'.output, hg'.size, fun j hj _ => hg'.block j hj (by simp)⟩

/-- Four lists, each as its owner left it. -/
def MarkedS (N : Nat) (W : World) (vo : Value) (m : ByteArray) (n : Nat) : Prop :=
  ∃ (g cap : Nat) (ss : List Value), vo = .slice (some ⟨g, 0, none⟩) 4 cap ∧ g < N ∧ ss.length = 4 ∧ ∀ j (h : j < ss.length), W.cell? ⟨g, j, none⟩ = some ss[j] ∧ OldS N W ss[j] (List.replicate (n + j) m)
theorem MarkedS.below {N : Nat} {W W' : World} {vo : Value} {m : ByteArray} {n : Nat} (h : MarkedS N W vo m n) (hb : Below N W W') : MarkedS N W' vo m n := by
  obtain ⟨g, cap, ss, e, hg, hl, hc⟩ := h
  exact ⟨g, cap, ss, e, hg, hl, fun j hj => ⟨(hb.cell (p := ⟨g, j, none⟩) hg).trans (hc j hj).1, (hc j hj).2.below hb.block⟩⟩
theorem rows_neS {B B' : Nat} {W : World} {v vo : Value} {cs : List ByteArray} {k : Nat} {ss : List Value} (h : OwnsS B W v cs) (ho : W.ownsRow B' 52 1 vo k ss) : (vo.ownBlock = none ∨ vo.ownBlock ≠ v.ownBlock) ∧ (v.ownBlock = none ∨ v.ownBlock ≠ vo.ownBlock) := by
  rcases h.2 with ⟨rfl, _⟩ | ⟨g, cap, cur, rfl, _, hgb, _⟩
  · refine ⟨?_, .inl rfl⟩
    rcases ho.2 with ⟨rfl, _⟩ | ⟨g', cap', cur', rfl, _⟩
    · exact .inl rfl
    · exact .inr (by simp [Value.ownBlock])
  · rcases ho.2 with ⟨rfl, _⟩ | ⟨g', cap', cur', rfl, _, hgb', _⟩
    · exact ⟨.inl rfl, .inr (by simp [Value.ownBlock])⟩
    · have hne : g ≠ g' := by
        rintro rfl
        rw [hgb] at hgb'
        simp only [Option.some.injEq, Obj.cells.injEq] at hgb'
        exact absurd hgb'.2.1 (by decide)
      exact ⟨.inr (by simpa [Value.ownBlock] using fun e => hne e.symm), .inr (by simpa [Value.ownBlock] using hne)⟩
theorem mark_setS (cs : List ByteArray) (k : Nat) (r : ByteArray) (h : k < cs.length) : (List.replicate k r ++ cs.drop k).set k r = List.replicate (k + 1) r ++ cs.drop (k + 1) := by
  rw [List.set_append_right _ _ (by simp)]
  simp only [List.length_replicate, Nat.sub_self]
  rw [List.drop_eq_getElem_cons h, List.set_cons_zero, List.replicate_succ']
  simp
end Go.Proofs.Ytkmeingnhaomaaa
/- strandlaw's ownTexts, sameTexts and keptTexts. -/
namespace Go.Proofs.Ytkmeingnhaomaaa
open Go.RowKit Go.Shelf

theorem OwnsS.slice3 {B : Nat} {W : World} {v : Value} {cs : List ByteArray} (h : OwnsS B W v cs) : ∃ a ln cp, v = .slice a ln cp := by
  obtain ⟨a, cp, e⟩ := h.slice
  exact ⟨a, _, cp, e⟩
theorem row_throughS {B B' : Nat} {W W' : World} {v vo : Value} {rs : List ByteArray} {k : Nat} {ss : List Value} {o : Obj} (h : OwnsS B W v rs) (ho : W.ownsRow B' 52 1 vo k ss) (hg : (W.alloc o).grownBy W' v.ownBlock) : W'.ownsRow B' 52 1 vo k ss :=
  World.ownsRow.kept (World.ownsRow.alloc ho o) hg (rows_neS (h.alloc o) (World.ownsRow.alloc ho o)).1

/-- A round of ownRecords' second loop. -/
theorem own_roundS {w wr w3 w5 : World} {B n k : Nat} {m : ByteArray} {vg v' out : Value} {r : Option Nat} {ss : List Value} {t1 t2 : Obj}
    (hsl : ss.length = k + 1) (HR : wr.ownsRow w.heap.size 52 1 out (k + 1) ss) (H0 : ∃ a0 l0 c0, ss[0]? = some (.slice a0 l0 c0)) (HO : OwnsS B wr vg (List.replicate (n + k) m))
    (HL : ∀ j (h : j < ss.length), OldS wr.heap.size wr ss[j] (List.replicate (n + j) m)) (HG : w.grownBy wr r) (HA : vg.ownBlock = r ∨ ∀ x, vg.ownBlock = some x → w.heap.size ≤ x)
    (O3 : OwnsS B w3 v' (List.replicate (n + k) m ++ [m])) (G3 : (wr.alloc t1).grownBy w3 vg.ownBlock)
    (L3 : ∀ N sv xs, N ≤ (wr.alloc t1).heap.size → xs.length ≤ (List.replicate (n + k) m).length → OldS N (wr.alloc t1) sv xs → OldS N w3 sv xs)
    (A3 : v'.ownBlock = vg.ownBlock ∨ ∀ g, v'.ownBlock = some g → (wr.alloc t1).heap.size ≤ g)
    (hg5 : (w3.alloc t2).grownBy w5 out.ownBlock) :
    (ss ++ [v']).length = k + 1 + 1 ∧ (∃ a0 l0 c0, (ss ++ [v'])[0]? = some (.slice a0 l0 c0)) ∧ OwnsS B w5 v' (List.replicate (n + (k + 1)) m) ∧
      (∀ j (h : j < (ss ++ [v']).length), OldS w5.heap.size w5 (ss ++ [v'])[j] (List.replicate (n + j) m)) ∧ w.grownBy w5 r ∧ (v'.ownBlock = r ∨ ∀ x, v'.ownBlock = some x → w.heap.size ≤ x) := by
  have R3 := row_throughS HO HR G3
  have erep : List.replicate (n + k) m ++ [m] = List.replicate (n + (k + 1)) m := by
    rw [← Nat.add_assoc, List.replicate_succ']
  have hs3 : wr.heap.size + 1 ≤ w3.heap.size := by have := G3.size; simpa using this
  have hs5 : w3.heap.size + 1 ≤ w5.heap.size := by have := hg5.size; simpa using this
  obtain ⟨a0, l0, c0, h00⟩ := H0
  obtain ⟨go, hgo, hc0, hge⟩ : ∃ go, out.ownBlock = some go ∧ (w3.alloc t2).cell? ⟨go, 0, none⟩ = some (.slice a0 l0 c0) ∧ w.heap.size ≤ go := by
    have R3a := World.ownsRow.alloc R3 t2
    rcases R3a.2 with ⟨_, h⟩ | ⟨go, cap, cur, e, hbg, _⟩
    · omega
    · have hgo : out.ownBlock = some go := by rw [e]; rfl
      have := R3a.cells hgo 0 _ h00
      rw [Addr.add_lit] at this
      exact ⟨go, hgo, this, hbg⟩
  refine ⟨by rw [List.length_append, hsl]; rfl, ⟨a0, l0, c0, by rw [List.getElem?_append_left (by omega)]; exact h00⟩, ?_, ?_, ?_, ?_⟩
  · rw [← erep]
    exact World.ownsRow.kept (OwnsS.alloc O3 t2) hg5 (rows_neS (OwnsS.alloc O3 t2) (World.ownsRow.alloc R3 t2)).2
  · intro j hj
    rw [List.length_append, hsl] at hj
    simp only [List.length_cons, List.length_nil, Nat.zero_add] at hj
    rw [hgo] at hg5
    by_cases hjk : j < k + 1
    · rw [List.getElem_append_left (by omega)]
      have h1 := (HL j (by omega)).alloc (Nat.le_refl _) t1
      have h2 := L3 wr.heap.size _ _ (by simp) (by simp; omega) h1
      have h3 := h2.alloc (by omega) t2
      exact (h3.other hg5 (by simp; omega) hc0).mono (by omega)
    · obtain rfl : j = k + 1 := by omega
      rw [List.getElem_append_right (by omega)]
      have h2 := O3.old
      rw [erep] at h2
      have h3 := h2.alloc (Nat.le_refl _) t2
      have h4 := (h3.other hg5 (by simp) hc0).mono (show w3.heap.size ≤ w5.heap.size by omega)
      simpa [hsl] using h4
  · have g1 := grow_own (gallocR HG t1) G3 HA
    exact grow_own (gallocR g1 t2) hg5 (.inr fun x e => by rw [hgo] at e; cases e; exact hge)
  · rcases A3 with e | h
    · rw [e]
      exact HA
    · refine .inr fun x e => ?_
      have := h x e
      have := HG.size
      simp at *
      omega

set_option maxRecDepth 100000 in
set_option maxHeartbeats 1000000 in
theorem ownTexts_any (v : Value) (rs : List ByteArray) (m : ByteArray) (B : Nat) (w : World) (ho : OwnsS B w v rs) (hl : rs.length ≤ 1000) (hB : B ≤ w.heap.size) :
    Calls Try.prog 31 #[v, .string m] w fun e w' => ∃ vo, e = .returned vo ∧ MarkedS w'.heap.size w' vo m rs.length ∧ w.grownBy w' v.ownBlock := by
  obtain ⟨a, c, rfl⟩ := ho.slice
  go_enter Try.func31, Try.ntmps31
  go_wp2
  go_loopw [5] (fun i wr => ∃ k : Nat, k ≤ rs.length ∧ i = .int .i64 k ∧ OwnsS B wr (.slice a rs.length c) (List.replicate k m ++ rs.drop k) ∧ w.grownBy wr (Value.slice a rs.length c).ownBlock) (fun i _ => rs.length - (intOf i).toNat)
  case atStart => exact ⟨0, Nat.zero_le _, rfl, ho, drew_grown w 0 _⟩
  case round =>
    obtain ⟨k, hk, rfl, hown, hgw⟩ := hrel
    have HO : Hid _ := hown
    have HG : Hid _ := hgw
    by_cases hlt : k < rs.length
    · obtain ⟨g, rfl⟩ : ∃ g, a = some ⟨g, 0, none⟩ := by
        rcases hown.2 with ⟨e, _⟩ | ⟨g, cap, cur, e, _⟩
        · simp only [Value.slice.injEq] at e
          omega
        · simp only [Value.slice.injEq] at e
          exact ⟨g, e.1⟩
      have q0 := hown.row k (by simp; omega)
      have hfz : ∀ o, wr.frozen? ⟨g, o, none⟩ = false := by
        rcases hown.2 with ⟨e, _⟩ | ⟨g', cap, cur, e, _, hgb, _⟩
        · cases e
        · simp only [Value.slice.injEq, Option.some.injEq, Addr.mk.injEq] at e
          obtain ⟨⟨rfl, _⟩, _⟩ := e
          exact fun o => boxed_frozen hgb
      have z0 := hfz k
      clear hfz hown hgw ho
      go_wp2
      refine ⟨⟨k + 1, by omega, by go_num, ?_, ?_⟩, by simp [intOf]; omega⟩
      · have h := OwnsS.store HO.out k m
        rw [mark_setS rs k _ hlt] at h
        exact h
      · exact gtrans HG.out (gset _ _ _ _)
    · obtain rfl : k = rs.length := by omega
      rw [List.drop_length, List.append_nil] at hown
      have hb0 : ∀ g, (Value.slice a rs.length c).ownBlock = some g → B ≤ g := hown.own_ge
      clear HO HG ho
      go_wp2
      have O1 := OwnsS.alloc hown (.cells #[.slice a rs.length c] 52)
      have G1 : w.grownBy (wr.alloc (.cells #[.slice a rs.length c] 52)) (Value.slice a rs.length c).ownBlock := gallocR hgw _
      have R1 : (wr.alloc (.cells #[.slice a rs.length c] 52)).ownsRow w.heap.size 52 1 (.slice (some ⟨wr.heap.size, 0, none⟩) 1 1) 1 [.slice a rs.length c] := ⟨rfl, .inr ⟨wr.heap.size, 1, _, rfl, hgw.size, World.alloc_heap_new _ _, Nat.le_refl _, by decide, rfl, rfl⟩⟩
      generalize wr.alloc (.cells #[.slice a rs.length c] 52) = W1 at *
      go_loopw [6, 7, 8] (fun out g i wq => ∃ (k : Nat) (ss : List Value), k ≤ 3 ∧ i = .int .i64 k ∧ ss.length = k + 1 ∧ wq.ownsRow w.heap.size 52 1 out (k + 1) ss ∧ (∃ a0 l0 c0, ss[0]? = some (.slice a0 l0 c0)) ∧ OwnsS B wq g (List.replicate (rs.length + k) m) ∧ (∀ j (h : j < ss.length), OldS wq.heap.size wq ss[j] (List.replicate (rs.length + j) m)) ∧ w.grownBy wq (Value.slice a rs.length c).ownBlock ∧ (g.ownBlock = (Value.slice a rs.length c).ownBlock ∨ ∀ x, g.ownBlock = some x → w.heap.size ≤ x)) (fun _ _ i _ => 3 - (intOf i).toNat)
      case atStart =>
        refine ⟨0, _, by omega, rfl, rfl, R1, ⟨_, _, _, rfl⟩, O1, ?_, G1, .inl rfl⟩
        intro j hj
        obtain rfl : j = 0 := by simpa using hj
        exact O1.old
      case round =>
        obtain ⟨k, ss, hk3, rfl, hsl, hrow, hs0, hO, hold, hG, hat⟩ := hrel
        by_cases hlt : k < 3
        · have HR : Hid _ := hrow
          have H0 : Hid _ := hs0
          have HO : Hid _ := hO
          have HL : Hid _ := hold
          have HG : Hid _ := hG
          have HA : Hid _ := hat
          clear hrow hs0 hO hold hG hat hown hgw O1 G1 R1
          have hBw : B ≤ wr.heap.size := Nat.le_trans hB HG.out.size
          have hkk : (List.replicate (rs.length + k) m).length ≤ 2000 := by simp; omega
          have hml : k + 1 + 1 ≤ maxLen := Nat.le_trans (show k + 1 + 1 ≤ 5 by omega) (by decide)
          obtain ⟨i1, hi1, hy0, hy1, hy2⟩ := info_parts Try.infoStrs
          go_wp2_with (at_builtin; first
            | (refine wpList_append_sw _ rfl _ _ rfl B _ (List.replicate (rs.length + k) m) rfl (OwnsS.alloc HO.out _) ⟨_, 0, none⟩ m rfl (cells_new2 _ _ _ _ (by simp)) hkk (by simp; omega) ?_; intro v' w3 hO3 hg3 hold3 hat3; obtain ⟨a3, l3, c3, rfl⟩ := OwnsS.slice3 hO3; have O3 : Hid _ := hO3; have G3 : Hid _ := hg3; have L3 : Hid _ := hold3; have A3 : Hid _ := hat3; have R3 := row_throughS HO.out HR.out hg3; clear hO3 hg3 hold3 hat3)
            | (refine wpList_append_own _ rfl _ _ 56 rfl w.heap.size 52 i1 _ 1 24 Try.underlying56 hi1 hy0 hy1 hy2 rfl (by decide) _ _ _ rfl (World.ownsRow.alloc R3 _) ⟨_, 0, none⟩ 1 1 [_] rfl rfl (cells_new2 _ _ _ _ (by simp)) (by simp [Value.oneCell']) hml (by omega) (by have := G3.out.size; have := HG.out.size; simp at *; omega) ?_; intro vo w5 hrow5 hg5 hn5))
          obtain ⟨p1, p2, p3, p4, p5, p6⟩ := own_roundS hsl HR.out H0.out HO.out HL.out HG.out HA.out O3.out G3.out L3.out A3.out hg5
          exact ⟨⟨k + 1, _, by omega, by go_num, p1, hrow5, p2, p3, p4, p5, p6⟩, by simp [intOf]; omega⟩
        · obtain rfl : k = 3 := by omega
          go_wp2
          go_ret
          refine ⟨_, rfl, ?_, hG⟩
          rcases hrow.2 with ⟨_, h0⟩ | ⟨g, cap, cur, hv, hbg, hgb, _⟩
          · omega
          refine ⟨g, cap, ss, hv, (Array.getElem?_eq_some_iff.1 hgb).1, by omega, fun j hj => ⟨?_, hold j hj⟩⟩
          have := World.ownsRow.cells hrow (g := g) (by rw [hv]; rfl) j ss[j] (List.getElem?_eq_getElem hj)
          rw [Addr.add_lit, Nat.zero_add] at this
          exact this

set_option maxRecDepth 100000 in
set_option maxHeartbeats 1000000 in
/-- sameCells of two lists that hold the same. -/
theorem sameT_any (sv sv' : Value) (rs : List ByteArray) (w : World) (hR : Tss w.heap.size w sv rs) (hR' : Tss w.heap.size w sv' rs) (hlen : rs.length ≤ 4611686018427387904) :
    Calls Try.prog 30 #[sv, sv'] w fun e w' => e = .returned (.bool true) ∧ ∃ n, w' = w.drewN n := by
  obtain ⟨a, c, rfl⟩ := hR.slice
  obtain ⟨a', c', rfl⟩ := hR'.slice
  go_enter Try.func30, Try.ntmps30
  go_wp2
  go_loopw [5] (fun i wr => ∃ k : Nat, k ≤ rs.length ∧ i = .int .i64 k ∧ ∃ n, wr = w.drewN n) (fun i _ => rs.length - (intOf i).toNat)
  case atStart => exact ⟨0, Nat.zero_le _, rfl, 0, rfl⟩
  case round =>
    obtain ⟨k, hk, rfl, n, rfl⟩ := hrel
    by_cases hlt : k < rs.length
    · obtain ⟨b, off, ha, hb, q0⟩ := hR.at hlt
      obtain ⟨b', off', ha', hb', q0'⟩ := hR'.at hlt
      subst ha
      subst ha'
      generalize rs[k] = r at *
      go_wp2
      go_quiet (fail)
      go_wp2
      go_roundw
      case rel => exact ⟨k + 1, by omega, by go_num, _, rfl⟩
      case measure => simp [intOf]; omega
    · go_wp2
      go_ret
      exact ⟨rfl, n, rfl⟩

set_option maxRecDepth 100000 in
set_option maxHeartbeats 1000000 in
theorem keptTexts_any (vo : Value) (m : ByteArray) (n N : Nat) (w : World) (h : MarkedS N w vo m n) (hn : n ≤ 1000) :
    Calls Try.prog 32 #[vo, .string m] w fun e w' => e = .returned (.bool true) ∧ w.grownBy w' none := by
  obtain ⟨g, cap, ss, rfl, hg, hl, hc⟩ := h
  have HC : Hid _ := hc
  clear hc
  go_enter Try.func32, Try.ntmps32
  go_wp2
  go_loop [5] (fun i => ∃ k : Nat, k ≤ 4 ∧ i = .int .i64 k) (fun i => 4 - (intOf i).toNat)
  case atStart => exact ⟨0, by omega, rfl⟩
  case round =>
    obtain ⟨k, hk, rfl⟩ := hrel
    by_cases hlt : k < 4
    · obtain ⟨q, hold⟩ := HC.out k (by omega)
      obtain ⟨a, c, hs⟩ := hold.slice
      rw [List.length_replicate] at hs
      rw [hs] at q hold
      have HO : Hid _ := hold
      clear hold hs
      go_wp2
      go_loop [6] (fun i => ∃ j : Nat, j ≤ n + k ∧ i = .int .i64 j) (fun i => n + k - (intOf i).toNat)
      case atStart => exact ⟨0, by omega, rfl⟩
      case round =>
        obtain ⟨j, hj, rfl⟩ := hrel
        by_cases hjt : j < n + k
        · obtain ⟨b, rfl, o0⟩ : ∃ b, a = some ⟨b, 0, none⟩ ∧ w.cell? ⟨b, j, none⟩ = some (.string m) := by
            rcases HO.out with ⟨h0, _⟩ | ⟨b, cap', e, _, hcs⟩
            · have := congrArg List.length h0
              simp at this
              omega
            · simp only [Value.slice.injEq] at e
              have h0 := hcs j (by simpa using hjt)
              simp only [List.getElem_replicate] at h0
              exact ⟨b, e.1, h0⟩
          go_wp2
          go_round
          case rel => exact ⟨j + 1, by omega, by go_num⟩
          case measure => simp [intOf]; omega
        · go_wp2
          go_round
          case rel => exact ⟨k + 1, by omega, by go_num⟩
          case measure => simp [intOf]; omega
    · go_wp2
      go_ret
      exact ⟨rfl, drew_grown w 0 none⟩
end Go.Proofs.Ytkmeingnhaomaaa
/- strandlaw's texts and intact. -/
namespace Go.Proofs.Ytkmeingnhaomaaa
open Go.RowKit Go.Shelf

theorem Tss.cells {B : Nat} {W : World} {b off l cap : Nat} {cs : List ByteArray} (h : Tss B W (.slice (some ⟨b, off, none⟩) l cap) cs) : ∀ j v, (strVals cs)[j]? = some v → W.cell? ⟨b, off + j, none⟩ = some v := by
  intro j v hj
  have hlt : j < cs.length := by
    have := (List.getElem?_eq_some_iff.1 hj).1
    simpa [strVals] using this
  obtain ⟨b', off', e, _, q0⟩ := h.at (k := j) hlt
  simp only [Option.some.injEq, Addr.mk.injEq] at e
  obtain ⟨rfl, rfl, _⟩ := e
  rw [strVals_at cs j hlt] at hj
  cases hj
  exact q0
theorem strVals_one (cs : List ByteArray) : ∀ u ∈ strVals cs, u.oneCell' = true := by
  intro u hu
  simp only [strVals, List.mem_map] at hu
  obtain ⟨r, _, rfl⟩ := hu
  rfl
theorem run_copy_strs (w : World) (ty : TypeId) (g dLen dCap : Nat) (sv : Value) (cs : List ByteArray) (cur : Array Value) (hg : w.heap[g]? = some (.cells cur 9 (0, 0))) (hR : Tss w.heap.size w sv cs) (hd : cs.length ≤ dLen) (hfit : cs.length ≤ cur.size) :
    (Builtin.copy_ #[52, 52] ty #[.slice (some ⟨g, 0, none⟩) dLen dCap, sv]).run Try.prog w = .ok (goInt cs.length) (w.setRow g (strVals cs ++ cur.toList.drop cs.length).toArray) := by
  obtain ⟨i0, hi, hz0, hz1, hz2⟩ := info_parts Try.infoStr
  obtain ⟨a, cap, rfl⟩ := hR.slice
  have hst := run_storeCells_at Try.prog g 0 9 (strVals cs) 0 cur w hg (by rw [strVals_length]; omega) (strVals_one cs)
  have hl : (Builtin.firstCells 1 cs.length (.slice a cs.length cap)).run Try.prog w = .ok (strVals cs).toArray w := by
    cases cs with
    | nil =>
      cases a with
      | none => simp [Builtin.firstCells, strVals]
      | some ad => simp [Builtin.firstCells, strVals, loadCells, loadCellsFrom]
    | cons r cs' =>
      obtain ⟨b, off, e, _⟩ := hR.at (k := 0) (by simp)
      subst e
      have := run_loadCells_list (P := Try.prog) w ⟨b, off, none⟩ (strVals (r :: cs')) (fun j v hj => by
        rw [Addr.add_lit]; exact hR.cells j v hj)
      rw [strVals_length] at this
      simpa [Builtin.firstCells] using this
  have hm : min cs.length dLen = cs.length := Nat.min_eq_left hd
  simp only [Nat.add_zero, Nat.zero_add, List.take_zero, List.nil_append, strVals_length, Nat.mul_one] at hst
  simp [Builtin.copy_, run_underlying Try.underlying52, Builtin.lenOf, sizeOf, typeInfo, hi, hz1, hm, hl, hst]

/-- The bytes of 'beyond'. -/
def beyondB : ByteArray := ⟨#[98, 101, 121, 111, 110, 100]⟩
/-- A list as a caller hands it in, with two places behind it. -/
def Roomy (W : World) (g : Nat) (cs : List ByteArray) : Prop := ∃ A : Array Value, W.heap[g]? = some (.cells A 9 (0, 0)) ∧ A.size = cs.length + 2 ∧ (∀ j (h : j < cs.length), A[j]? = some (.string cs[j])) ∧ A[cs.length]? = some (.string beyondB) ∧ A[cs.length + 1]? = some (.string beyondB)
theorem Roomy.below {W W' : World} {g : Nat} {cs : List ByteArray} (h : Roomy W g cs) (hb : Below W.heap.size W W') : Roomy W' g cs := by
  obtain ⟨A, h1, h2⟩ := h
  exact ⟨A, (hb.block g (Array.getElem?_eq_some_iff.1 h1).1).trans h1, h2⟩
theorem Roomy.tss {W : World} {g : Nat} {cs : List ByteArray} (h : Roomy W g cs) (cap : Nat) : Tss W.heap.size W (.slice (some ⟨g, 0, none⟩) cs.length cap) cs := by
  obtain ⟨A, h1, h2, h3, _⟩ := h
  exact .inr ⟨g, 0, cap, rfl, (Array.getElem?_eq_some_iff.1 h1).1, fun j hj => by rw [Nat.zero_add]; exact boxed_cell h1 (h3 j hj)⟩

set_option maxRecDepth 100000 in
set_option maxHeartbeats 4000000 in
theorem texts_any (sv : Value) (cs : List ByteArray) (w : World) (hR : Tss w.heap.size w sv cs) (hlen : cs.length * 16 ≤ 140737488355328) :
    Calls Try.prog 33 #[sv] w fun e w' => e = .returned (.slice (some ⟨w.heap.size, 0, none⟩) cs.length (cs.length + 2)) ∧ Roomy w' w.heap.size cs ∧ Below w.heap.size w w' := by
  obtain ⟨i0, hi, hz0, hz1, hz2⟩ := info_parts Try.infoStr
  obtain ⟨a, cap, rfl⟩ := hR.slice
  have hmk : ∀ W : World, (Instr.makeSlice 52 (.int .i64 (cs.length + 2)) (.int .i64 (cs.length + 2))).run Try.prog W = .ok (.slice (some ⟨W.heap.size, 0, none⟩) (cs.length + 2) (cs.length + 2)) (W.alloc (.cells (madeCells (Value.string ⟨#[]⟩).cells ((cs.length + 2) * 1)) 9)) := by
    intro W
    have := run_make (P := Try.prog) W 52 9 i0 _ Try.underlying52 hi hz0 .i64 .i64 ((cs.length : Int) + 2) ((cs.length : Int) + 2) (by omega) (Int.le_refl _) (by rw [hz2]; omega) (by omega)
    rw [hz1, show ((cs.length : Int) + 2).toNat = cs.length + 2 from by omega] at this
    exact this
  obtain ⟨M, hM⟩ : ∃ M, M = madeCells (Value.string ⟨#[]⟩).cells ((cs.length + 2) * 1) := ⟨_, rfl⟩
  have hMs : M.size = cs.length + 2 := by rw [hM, size_madeCells]; omega
  have hB1 : Below w.heap.size w (w.alloc (.cells M 9)) := (Below.refl _ _).alloc (Nat.le_refl _) _
  have hG1 : (w.alloc (.cells M 9)).heap[w.heap.size]? = some (.cells M 9 (0, 0)) := World.alloc_heap_new _ _
  have hcp := run_copy_strs (w.alloc (.cells M 9)) 3 w.heap.size (cs.length + 2) (cs.length + 2) (.slice a cs.length cap) cs M hG1 (hR.moved hB1) (by omega) (by omega)
  obtain ⟨W2, hW2⟩ : ∃ W2, W2 = (w.alloc (.cells M 9)).setRow w.heap.size (strVals cs ++ M.toList.drop cs.length).toArray := ⟨_, rfl⟩
  have hG2 : W2.heap[w.heap.size]? = some (.cells (strVals cs ++ M.toList.drop cs.length).toArray 9 (0, 0)) := by
    rw [hW2]; exact setRow_heap _ _ _ _ _ _ hG1
  have hB2 : Below w.heap.size w W2 := by
    rw [hW2]; exact hB1.trans ⟨rfl, rfl, rfl, by simp [World.setRow], fun k hk => setRow_other _ _ _ _ (by omega)⟩
  rw [← hW2] at hcp
  rw [← hM] at hmk
  clear hW2 hG1 hB1 hM
  have harr : (strVals cs ++ M.toList.drop cs.length).toArray.size = cs.length + 2 := by
    simp [strVals, hMs]
  have hpre : ∀ j (h : j < cs.length), (strVals cs ++ M.toList.drop cs.length).toArray[j]? = some (.string cs[j]) := fun j h => by
    rw [List.getElem?_toArray, List.getElem?_append_left (by simp [strVals]; exact h)]
    exact strVals_at cs j h
  have HPre : Hid _ := hpre
  clear hpre
  generalize (strVals cs ++ M.toList.drop cs.length).toArray = A at *
  obtain ⟨x1, u1⟩ : ∃ v, W2.cell? ⟨w.heap.size, cs.length, none⟩ = some v := ⟨_, boxed_cell hG2 (Array.getElem?_eq_getElem (by omega))⟩
  obtain ⟨x2, u2⟩ : ∃ v, W2.cell? ⟨w.heap.size, cs.length + 1, none⟩ = some v := ⟨_, boxed_cell hG2 (Array.getElem?_eq_getElem (by omega))⟩
  have hfr : ∀ o, W2.frozen? ⟨w.heap.size, o, none⟩ = false := fun o => boxed_frozen hG2
  have HG2 : Hid _ := hG2
  have HB2 : Hid _ := hB2
  clear hG2 hB2
  go_enter Try.func33, Try.ntmps33
  go_wp2
  go_ret
  refine ⟨rfl, ⟨_, block_set (block_set HG2.out _) _, ?_, ?_, ?_, ?_⟩, ?_⟩
  · rw [Array.size_setIfInBounds, Array.size_setIfInBounds]
    exact harr
  · intro j h
    rw [Array.getElem?_setIfInBounds_ne (by omega), Array.getElem?_setIfInBounds_ne (by omega)]
    exact HPre.out j h
  · rw [Array.getElem?_setIfInBounds_ne (by omega), Array.getElem?_setIfInBounds, if_pos rfl, if_pos (by omega)]
    rfl
  · rw [Array.getElem?_setIfInBounds, if_pos rfl, if_pos (by rw [Array.size_setIfInBounds]; omega)]
    rfl
  · exact (HB2.out.setCell (p := ⟨w.heap.size, cs.length, none⟩) (by simp) _).setCell (p := ⟨w.heap.size, cs.length + 1, none⟩) (by simp) _

set_option maxRecDepth 100000 in
set_option maxHeartbeats 4000000 in
theorem intact_any (g : Nat) (sv : Value) (cs : List ByteArray) (w : World) (hQ : Roomy w g cs) (hR : Tss w.heap.size w sv cs) (hlen : cs.length ≤ 4611686018427380000) :
    Calls Try.prog 36 #[.slice (some ⟨g, 0, none⟩) cs.length (cs.length + 2), sv] w fun e w' => e = .returned (.bool true) ∧ w.grownBy w' none := by
  obtain ⟨a, cap, rfl⟩ := hR.slice
  have HS : Hid (∀ cap' W, Below w.heap.size w W → _) := fun cap' W h => sameT_any _ _ cs W ((hQ.below h).tss cap') (hR.moved h) (by omega)
  have HQ : Hid (Roomy w g cs) := hQ
  have q1 : (0 : Int) ≤ (cs.length : Int) := by omega
  have q2 : (cs.length : Int) ≤ (cs.length : Int) + 2 := by omega
  clear hQ hR
  go_enter Try.func36, Try.ntmps36
  go_wp2_with fail
  refine (HS.out _ _ (Below.refl _ _)).mono ?_
  rintro e w1 ⟨rfl, n1, h1⟩
  obtain ⟨A, p1, p2, p3, p4, p5⟩ := HQ.out.below (W' := w1) (by rw [h1]; exact ⟨rfl, rfl, rfl, Nat.le_refl _, fun _ _ => rfl⟩)
  have e1 := boxed_cell p1 p4
  have e2 := boxed_cell p1 p5
  have G1 : Hid (w.grownBy w1 none) := by
    show World.grownBy _ _ _
    rw [h1]
    exact ⟨rfl, rfl, rfl, Nat.le_refl _, fun _ _ _ => rfl⟩
  unfold beyondB at e1 e2
  clear h1 p1 p2 p3 p4 p5
  go_wp2
  go_ret
  exact ⟨rfl, G1.out⟩
end Go.Proofs.Ytkmeingnhaomaaa
/- The walk of Joins. -/
namespace Go.Proofs.Ytkmeingnhaomaaa
open Go.RowKit Go.Shelf

theorem Tss.txs {B : Nat} {W : World} {sv : Value} {cs : List ByteArray} (h : Tss B W sv cs) : Txs B W sv (cs.map (fun q => q.data.toList)) := by
  rcases h with ⟨rfl, h⟩ | ⟨b, off, cap, e, hb, hc⟩
  · exact .inl ⟨rfl, h⟩
  · refine .inr ⟨b, off, cap, by rw [List.length_map]; exact e, hb, fun j hj => ?_⟩
    rw [List.length_map] at hj
    rw [hc j hj, List.getElem_map]
/-- Both answer the same. -/
theorem told_join (ts : List (List UInt8)) : ∃ (q : ByteArray) (k : Int), ∀ w e w', ToldJ ts w e w' → e = .returned (.tuple #[.string q, .int .i64 k]) ∧ w.grownBy w' none := by
  cases hs : joinR ts with
  | inl k =>
    refine ⟨⟨#[]⟩, k, ?_⟩
    rintro w e w' ⟨hg, (⟨k', hk, rfl⟩ | ⟨f, t, b, z, rs, hk, rfl⟩)⟩
    · rw [hs] at hk; cases hk
      exact ⟨rfl, hg⟩
    · rw [hs] at hk; cases hk
  | inr x =>
    obtain ⟨f, t, b, z, rs⟩ := x
    refine ⟨⟨(serB f t b z rs).toArray⟩, 0, ?_⟩
    rintro w e w' ⟨hg, (⟨k', hk, rfl⟩ | ⟨f', t', b', z', rs', hk, rfl⟩)⟩
    · rw [hs] at hk; cases hk
    · rw [hs] at hk; cases hk
      exact ⟨rfl, hg⟩

set_option maxRecDepth 100000 in
set_option maxHeartbeats 2000000 in
theorem joins_walk (sv : Value) (cs : List ByteArray) (w : World) (hR : Tss w.heap.size w sv cs) (hnone : ∀ l c, sv = .slice none l c → cs = []) (hlen : cs.length * 16 ≤ 140737488355328) (hl : ∀ q ∈ cs, q.size ≤ 4611686018427387904) :
    Calls Try.prog 8 #[sv] w fun e w' => e = .returned (.bool true) ∧ w.grownBy w' none := by
  obtain ⟨q, k, hb⟩ := told_join (cs.map (fun q => q.data.toList))
  have hl2 : ∀ t ∈ cs.map (fun q => q.data.toList), t.length ≤ 4611686018427387904 := fun t ht => by
    obtain ⟨x, hx, rfl⟩ := List.mem_map.1 ht
    have := hl x hx
    simpa using this
  have hl3 : (cs.map (fun q => q.data.toList)).length ≤ 4611686018427387904 := by rw [List.length_map]; omega
  have HRJ : Hid (∀ sv W, Tss W.heap.size W sv cs → _) := fun sv W h => (rjoin sv _ W h.txs hl2 hl3).mono (hb W)
  have HPJ : Hid (∀ sv W, Tss W.heap.size W sv cs → _) := fun sv W h => (pjoin sv _ W h.txs hl2 hl3).mono (hb W)
  have HTX : Hid (∀ u : Unit, _) := fun _ => texts_any sv cs w hR hlen
  have HRS : Hid (∀ W, Below w.heap.size w W → Tss W.heap.size W sv cs) := fun W h => hR.moved h
  have hnil := fun (x : Option Addr) (l c : Nat) (W : World) => Lib.run_eql_slice_nil (P := Try.prog) W 52 9 x l c 0 0 Try.underlying52
  obtain ⟨a, cap, rfl⟩ := hR.slice
  have HNO : Hid (a = none → cs = []) := fun e => hnone _ _ (by rw [e])
  clear hb hl hl2 hl3 hR hnone
  go_enter Try.func8, Try.ntmps8
  go_wp2_with fail
  refine (HTX.out ()).mono ?_
  rintro e w1 ⟨rfl, hq, hb1⟩
  have HQ1 : Hid (Roomy w1 w.heap.size cs) := hq
  have HB1 : Hid (Below w.heap.size w w1) := hb1
  clear hq hb1 HTX
  cases a with
  | none =>
    obtain rfl : cs = [] := HNO.out rfl
    go_wp2_with fail
    refine (HPJ.out (.slice none 0 0) w1 (.inl ⟨rfl, none, 0, rfl⟩)).mono ?_
    rintro e w2 ⟨rfl, g2⟩
    have B2 : Hid (Below w.heap.size w w2) := HB1.out.trans ((below_of_grown g2).mono HB1.out.size)
    have Q2 : Hid (Roomy w2 w.heap.size []) := HQ1.out.below (below_of_grown g2)
    clear g2
    go_wp2_with fail
    refine (HRJ.out _ w2 (HRS.out _ B2.out)).mono ?_
    rintro e w3 ⟨rfl, g3⟩
    have B3 : Hid (Below w.heap.size w w3) := B2.out.trans ((below_of_grown g3).mono B2.out.size)
    have Q3 : Hid (Roomy w3 w.heap.size []) := Q2.out.below (below_of_grown g3)
    clear g3
    go_wp2_with fail
    refine (intact_any w.heap.size _ [] w3 Q3.out (HRS.out _ B3.out) (by simp)).mono ?_
    rintro e w4 ⟨rfl, g4⟩
    have G4 : Hid _ := g4
    clear g4
    go_wp2
    go_ret
    exact ⟨rfl, gtrans (gbelow B3.out) G4.out⟩
  | some ad =>
    go_wp2_with fail
    refine (HPJ.out _ w1 (HQ1.out.tss _)).mono ?_
    rintro e w2 ⟨rfl, g2⟩
    have B2 : Hid (Below w.heap.size w w2) := HB1.out.trans ((below_of_grown g2).mono HB1.out.size)
    have Q2 : Hid (Roomy w2 w.heap.size cs) := HQ1.out.below (below_of_grown g2)
    clear g2
    go_wp2_with fail
    refine (HRJ.out _ w2 (HRS.out _ B2.out)).mono ?_
    rintro e w3 ⟨rfl, g3⟩
    have B3 : Hid (Below w.heap.size w w3) := B2.out.trans ((below_of_grown g3).mono B2.out.size)
    have Q3 : Hid (Roomy w3 w.heap.size cs) := Q2.out.below (below_of_grown g3)
    clear g3
    go_wp2_with fail
    refine (intact_any w.heap.size _ cs w3 Q3.out (HRS.out _ B3.out) (by omega)).mono ?_
    rintro e w4 ⟨rfl, g4⟩
    have G4 : Hid _ := g4
    clear g4
    go_wp2
    go_ret
    exact ⟨rfl, gtrans (gbelow B3.out) G4.out⟩
end Go.Proofs.Ytkmeingnhaomaaa
/- The statement on Joins. -/
namespace Go.Proofs.Ytkmeingnhaomaaa
open Go.ChangeShapes Go.WideShapes Go.ChangeAt Go.RowKit

theorem Try.bytesStr : Try.prog.bytesOf 9 = 16 := by kernel_rfl
theorem Try.cellsStr : Try.prog.cellsOf 9 = 1 := by kernel_rfl

set_option maxRecDepth 100000 in
/-- A slice of texts, opened. -/
theorem open_txs {H : Type} {enc : TypeId × Value → H} {W : World} {base : Nat} {v : Value} {d : DataW H} {p : List MemPlace} (hv : Value.okWide Try.prog W .any base 52 v) (h : DataW.Trod enc Try.prog W 0 (fun _ => true) true 52 v d p) :
    ∃ cs : List ByteArray, Tss W.heap.size W v cs ∧ (∀ l c, v = .slice none l c → cs = []) ∧ (cs = [] ∨ ∃ sp, d = .slice (cs.map fun q => .lit (.string q.data.toList)) sp) := by
  obtain ⟨a0, len0, cap0, rfl⟩ := okWide_slice Try.underlying52 hv
  obtain ⟨fuel, hf⟩ := h
  rcases Deep.open_strs Try.underlying52 Try.underlying9 Try.cellsStr hf with ⟨e, _⟩ | ⟨a, len, cap, m, Sx, e, _, hl, hm, hmm, hx, hc⟩
  · simp [Value.cells] at e
    obtain ⟨rfl, rfl, rfl⟩ := e
    exact ⟨[], .inl ⟨rfl, none, 0, rfl⟩, fun _ _ _ => rfl, .inl rfl⟩
  · simp [Value.cells] at e
    obtain ⟨rfl, rfl, rfl⟩ := e
    simp only [if_true] at hmm
    subst hmm
    refine ⟨(List.range len0).map Sx, ?_, (fun l c e => by cases e), .inr ⟨(List.range (m - len0)).map (fun j => .lit (.string (Sx (len0 + j)).data.toList)), ?_⟩⟩
    · by_cases h0 : len0 = 0
      · subst h0
        exact .inl ⟨rfl, _, _, rfl⟩
      · obtain ⟨b, off, spot⟩ := a
        have c0 := (hc 0 (by omega)).1
        have hspot : spot = none := by
          have := World.cell?_spot c0
          simpa [Addr.add] using this
        subst hspot
        refine .inr ⟨b, off, m, by simp, World.block_lt_of_cell? W _ c0, fun j hj => ?_⟩
        have hj' : j < len0 := by simpa using hj
        have := (hc j (by omega)).1
        rw [Addr.add_lit] at this
        simpa using this
    · have := congrArg Prod.fst hx
      rw [List.map_map]
      exact this
theorem weightsAll_mem {H : Type} (P : Program) (e : TypeId) : ∀ (ds : List (DataW H)) (d : DataW H), d ∈ ds → ∀ n ∈ d.weights P e, n ∈ DataW.weightsAll P e ds
  | x :: ds, d, hd, n, hn => by
    rw [DataW.weightsAll, List.mem_append]
    rcases List.mem_cons.1 hd with rfl | hd
    · exact .inl hn
    · exact .inr (weightsAll_mem P e ds d hd n hn)

set_option maxRecDepth 100000 in
theorem joins_lifted (os : Os) (started : os.Started) (H : Type) (enc : TypeId × Value → H) :
    ReturnsInHanded {} Try.checked os 8 .any (Rows.joinsSpec.pre6 enc Try.prog Try.f8 Rows.joinsRow.domain false) (Rows.joinsSpec.post enc Try.prog Try.f8 false true false false) := by
  refine returnsInHanded_of_change_sized (C := Try.checked) Try.own started (by kernel_rfl) Try.func8
    (ChangeSpec.witness6 (enc := enc) (C := Try.checked) false ⟨#[], #[.slice none 0 0], []⟩ 8 (by kernel_rfl) (by kernel_rfl) (by kernel_rfl) (by kernel_rfl)) ?_
  intro W base args ds gs before hval0 hW _ hsz0 _
  have hsz : (DataW.weightsEach Try.prog (Try.f8.params.toList ++ Rows.joinsSpec.plain.varTypes Try.prog) (ds ++ gs)).all (· ≤ reachBytes) = true := hsz0
  clear hsz0
  have hval : ∀ (j : Nat) t v, Try.f8.params[j]? = some t → args[j]? = some v → Value.okWide Try.prog W .any base t v := hval0
  have hW' := hW
  obtain ⟨p, q, hA0, hV, rfl, _, _⟩ := hW
  have hA : DataW.TrodAll enc Try.prog W 0 (fun _ => true) true Try.f8.params.toList args.toList ds p := hA0
  rw [Try.params8] at hA hval hsz
  obtain ⟨v0, vs0, d0, ds0, p0, q0, hargs, rfl, rfl, h0, r0⟩ := trodAll_cons hA
  obtain ⟨rfl, rfl, rfl⟩ := trodAll_nil r0
  obtain rfl : args = #[v0] := by cases args; simp_all
  obtain ⟨rfl, rfl⟩ := trodVars_none hV
  obtain ⟨cs, hcs, hnone, hsh⟩ := open_txs (hval 0 52 v0 rfl rfl) h0
  clear hA0 hval0
  simp only [List.append_nil] at hW'
  have hlt : ∀ x ∈ p0, x.block < W.heap.size := fun x hx => by simpa using hW'.lt x (by simp [hx])
  have hb4 : ∀ n ∈ d0.weights Try.prog 52, n ≤ 140737488355328 := fun n hn => by
    have h4 := DataW.weights_mem_each (H := H) (P := Try.prog) (j := 0) (ts := [52] ++ Rows.joinsSpec.plain.varTypes Try.prog) (ds := [d0] ++ []) rfl rfl n hn
    have h5 := of_decide_eq_true (List.all_eq_true.1 hsz _ h4)
    simp only [reachBytes] at h5
    omega
  have hlen : cs.length * 16 ≤ 140737488355328 := by
    rcases hsh with rfl | ⟨sp, rfl⟩
    · simp
    · have := hb4 ((cs.length + sp.length) * Try.prog.bytesOf 9) (by simp [DataW.weights, Try.underlying52])
      rw [Try.bytesStr] at this
      omega
  have hel : ∀ q ∈ cs, q.size ≤ 4611686018427387904 := fun q hq => by
    rcases hsh with rfl | ⟨sp, rfl⟩
    · cases hq
    · have h6 : q.data.toList.length ∈ DataW.weightsAll Try.prog 9 (cs.map fun q => (DataW.lit (.string q.data.toList) : DataW H)) := weightsAll_mem _ _ _ (.lit (.string q.data.toList)) (List.mem_map.2 ⟨q, hq, rfl⟩) _ (by simp [DataW.weights])
      have := hb4 q.data.toList.length (by simp only [DataW.weights, Try.underlying52]; exact List.mem_cons_of_mem _ (List.mem_append_left _ h6))
      simp at this
      omega
  have hwalk := joins_walk v0 cs W hcs hnone hlen hel
  refine hwalk.mono fun e W' ⟨he, hg⟩ => ?_
  subst he
  have hb := below_of_grown hg
  refine ⟨_, rfl, _, _, _, [], p0 ++ [], [], hW', ?_, ?_, rfl, hb.frame _, fun h => by cases h⟩
  · exact trodAll_cons_mk (shut_bool Try.underlying4 _) trodAll_mk0
  · exact trodAll_cons_mk (Below.trod Try.laidOut (by kernel_rfl) (of_decide_eq_true (by kernel_rfl)) h0 hb hlt) trodAll_mk0

theorem joins_holds : Rows.JoinsSaid :=
  OpenClaim.holds_of_wide 8 Try.f8 rfl rfl rfl rfl rfl rfl rfl ⟨rfl, rfl, rfl, rfl, rfl⟩ rfl rfl rfl rfl rfl (by kernel_rfl) Try.func8 (by kernel_rfl)
    (of_decide_eq_true (by kernel_rfl)) (by unfold Func.isWrapper; first | (rw [if_pos (by decide +kernel)]; kernel_rfl) | (rw [if_neg (by decide +kernel)]; exact ⟨rfl, rfl⟩))
    (fun os started H enc _ => joins_lifted os started H enc)
end Go.Proofs.Ytkmeingnhaomaaa
