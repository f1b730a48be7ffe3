/- PChunkW, PPieces, PPieces2, RSplit, PTexts, PSplit -/
import Derived.Test.YtdjmhagclcfnfabGreatJoinMToPSplit1
import Derived.Test.YtdjmhagclcfnfabGreatRWriteToRJoinM
/- The program's writeChunk. -/
namespace Go.Proofs.YtdjmhagclcfnfabGreat
open Go.RowKit Go.Shelf

theorem chunkB_shut (f t b z all nu many : Nat) (rs : List Rc) : chunkB f t b z all nu many rs = shutB (((([83, 84, 82, 67] ++ headB f t b z all) ++ lowB nu 2) ++ lowB many 2 ++ lowB rs.length 2) ++ recsB rs) := rfl

/-- The head of a chunk, the first k of its last numbers written. -/
def chHead (L : List UInt8) (nu many n : Nat) : Nat → List UInt8
  | 0 => L
  | 1 => L ++ lowB nu 2
  | 2 => L ++ lowB nu 2 ++ lowB many 2
  | _ => L ++ lowB nu 2 ++ lowB many 2 ++ lowB n 2

set_option maxRecDepth 100000 in
set_option maxHeartbeats 4000000 in
theorem writeChunk_any (f t b z all nu many : Nat) (sv : Value) (rs : List Rc) (w : World) (hR : Recs w.heap.size w sv rs) (hf : f < 4294967296) (ht : t < 4294967296) (hb : b < 4294967296) (h9 : (z : Int) ≤ 64) (hall : all < 4294967296) (hnu : nu < 4294967296) (hmany : many < 4294967296) (hn : rs.length ≤ 100) (ho : ∀ r ∈ rs, RecFit z r) :
    Calls Tryz.prog 29 #[.agg #[.int .i64 f, .int .i64 t, .int .i64 b, .int .i64 z, .int .i64 all, .int .i64 nu, .int .i64 many, sv]] w fun e w' => e = .returned (.string ⟨(chunkB f t b z all nu many rs).toArray⟩) ∧ Below w.heap.size w w' := by
  obtain ⟨a, c, rfl⟩ := hR.slice
  have hzz : z < 4294967296 := by omega
  have hlb := lowB_length
  have HW1 : ∀ W : World, W = w.alloc (.cells #[.int .i64 f, .int .i64 t, .int .i64 b, .int .i64 z, .int .i64 all, .int .i64 nu, .int .i64 many, .slice a rs.length c] 59) → W.heap.size = w.heap.size + 1 ∧ Below w.heap.size w W ∧ W.heap[w.heap.size]? = some (.cells #[.int .i64 f, .int .i64 t, .int .i64 b, .int .i64 z, .int .i64 all, .int .i64 nu, .int .i64 many, .slice a rs.length c] 59 (0, 0)) := by
    rintro W rfl
    exact ⟨by simp, (Below.refl _ _).alloc (Nat.le_refl _) _, World.alloc_heap_new _ _⟩
  have e1 : IntKind.u32.wrap (nu : Int) = nu := by rw [IntKind.wrap_u32]; omega
  have e2 : IntKind.u32.wrap (many : Int) = many := by rw [IntKind.wrap_u32]; omega
  have e3 : IntKind.u32.wrap (rs.length : Int) = rs.length := by rw [IntKind.wrap_u32]; omega
  have e1' : (nu : Int) % 4294967296 = nu := by omega
  have e2' : (many : Int) % 4294967296 = many := by omega
  have e3' : (rs.length : Int) % 4294967296 = rs.length := by omega
  go_enter Tryz.func29, Tryz.ntmps29
  go_wp2_with fail
  obtain ⟨w1, hw1⟩ : ∃ w1, w1 = w.alloc (.cells #[.int .i64 f, .int .i64 t, .int .i64 b, .int .i64 z, .int .i64 all, .int .i64 nu, .int .i64 many, .slice a rs.length c] 59) := ⟨_, rfl⟩
  obtain ⟨hs1, hB1, hx1⟩ := HW1 w1 hw1
  rw [← hw1]
  clear hw1 HW1
  have hsl : w.heap.size < w1.heap.size := by omega
  have HX : Hid (∀ W, Below w1.heap.size w1 W → W.heap[w.heap.size]? = some (.cells #[.int .i64 f, .int .i64 t, .int .i64 b, .int .i64 z, .int .i64 all, .int .i64 nu, .int .i64 many, .slice a rs.length c] 59 (0, 0))) := fun W h => (h.block _ hsl).trans hx1
  have HR : Hid (∀ W, Below w1.heap.size w1 W → Recs W.heap.size W (.slice a rs.length c) rs) := fun W h => (hR.moved hB1).moved h
  clear hR hx1
  refine (headText_any [83, 84, 82, 67] rfl f t b z all w1 hf ht hb hzz hall).mono ?_
  rintro e w2 ⟨rfl, hb2⟩
  have hl2 : ([83, 84, 82, 67] ++ headB f t b z all).length = 18 := by simp [headB_length]
  have HCH : Hid (chunkB f t b z all nu many rs = shutB (chHead ([83, 84, 82, 67] ++ headB f t b z all) nu many rs.length 3 ++ recsB rs)) := by
    show _ = _
    rw [chunkB_shut]
    simp [chHead]
  generalize [83, 84, 82, 67] ++ headB f t b z all = L2 at *
  have x2 := boxed_cell (i := 5) (HX.out _ hb2) rfl
  have x3 := boxed_cell (i := 6) (HX.out _ hb2) rfl
  have x4 := boxed_cell (i := 7) (HX.out _ hb2) rfl
  have hz2 : w.heap.size < w2.heap.size := Nat.lt_of_lt_of_le hsl hb2.size
  have HB2 : Hid (Below w1.heap.size w1 w2) := hb2
  clear hb2
  go_wp2
  obtain ⟨w3, hw3⟩ : ∃ w3, w3 = w2.alloc (.cells #[.int .i64 nu, .int .i64 many, .int .i64 rs.length] 3) := ⟨_, rfl⟩
  have hb3 : Below w1.heap.size w1 w3 := by rw [hw3]; exact HB2.out.alloc HB2.out.size _
  have hi3 : w3.heap[w2.heap.size]? = some (.cells #[.int .i64 nu, .int .i64 many, .int .i64 rs.length] 3 (0, 0)) := by rw [hw3]; exact World.alloc_heap_new _ _
  rw [← hw3]
  clear hw3 x2 x3 x4
  go_loopw [3, 18] (fun h i wr => ∃ k : Nat, k ≤ 3 ∧ i = .int .i64 k ∧ h = .string ⟨(chHead L2 nu many rs.length k).toArray⟩ ∧ wr.heap[w2.heap.size]? = some (.cells #[.int .i64 nu, .int .i64 many, .int .i64 rs.length] 3 (0, 0)) ∧ Below w1.heap.size w1 wr) (fun _ i _ => 3 - (intOf i).toNat)
  case atStart => exact ⟨0, by omega, rfl, rfl, hi3, hb3⟩
  case round =>
    obtain ⟨k, hk, rfl, rfl, hi, hbr⟩ := hrel
    have q0 := boxed_cell (i := 0) (v := .int .i64 nu) hi rfl
    have q1 := boxed_cell (i := 1) (v := .int .i64 many) hi rfl
    have q2 := boxed_cell (i := 2) (v := .int .i64 rs.length) hi rfl
    have HI : Hid _ := hi
    have HBR : Hid (Below w1.heap.size w1 wr) := hbr
    clear hi hbr hi3 hb3
    have hk4 : k = 0 ∨ k = 1 ∨ k = 2 ∨ k = 3 := by omega
    rcases hk4 with rfl | rfl | rfl | rfl
    · simp only [chHead]
      go_wp2_with (go_at_call 50; refine (ntext_int _ _ _ ?_ ?_ ?_ ?_).mono ?_; omega; omega; omega; omega; rintro e w4 ⟨rfl, hb4⟩)
      go_roundw
      case rel =>
        refine ⟨1, by omega, by go_num, ?_, (hb4.block _ (Array.getElem?_eq_some_iff.1 HI.out).1).trans HI.out, HBR.out.trans (hb4.mono HBR.out.size)⟩
        exact congrArg Value.string (by apply ByteArray.ext; simp)
      case measure => simp [intOf]
    · simp only [chHead]
      have hl3 : (L2 ++ lowB nu 2).length = 20 := by rw [List.length_append, lowB_length]; omega
      generalize hL3 : L2 ++ lowB nu 2 = L3 at *
      have HL3 : Hid _ := hL3
      clear hL3
      go_wp2_with (go_at_call 50; refine (ntext_int _ _ _ ?_ ?_ ?_ ?_).mono ?_; omega; omega; omega; omega; rintro e w4 ⟨rfl, hb4⟩)
      go_roundw
      case rel =>
        refine ⟨2, by omega, by go_num, ?_, (hb4.block _ (Array.getElem?_eq_some_iff.1 HI.out).1).trans HI.out, HBR.out.trans (hb4.mono HBR.out.size)⟩
        exact congrArg Value.string (by apply ByteArray.ext; simp [← HL3.out])
      case measure => simp [intOf]
    · simp only [chHead]
      have hl4 : (L2 ++ lowB nu 2 ++ lowB many 2).length = 22 := by rw [List.length_append, List.length_append, lowB_length, lowB_length]; omega
      generalize hL4 : L2 ++ lowB nu 2 ++ lowB many 2 = L4 at *
      have HL4 : Hid _ := hL4
      clear hL4
      go_wp2_with (go_at_call 50; refine (ntext_int _ _ _ ?_ ?_ ?_ ?_).mono ?_; omega; omega; omega; omega; rintro e w4 ⟨rfl, hb4⟩)
      go_roundw
      case rel =>
        refine ⟨3, by omega, by go_num, ?_, (hb4.block _ (Array.getElem?_eq_some_iff.1 HI.out).1).trans HI.out, HBR.out.trans (hb4.mono HBR.out.size)⟩
        exact congrArg Value.string (by apply ByteArray.ext; simp [← HL4.out])
      case measure => simp [intOf]
    · have hl5 : (chHead L2 nu many rs.length 3).length = 24 := by
        simp only [chHead, List.length_append, lowB_length]
        omega
      generalize chHead L2 nu many rs.length 3 = L5 at *
      have x5 := boxed_cell (i := 7) (HX.out _ HBR.out) rfl
      have hzr : w.heap.size < wr.heap.size := Nat.lt_of_lt_of_le hsl HBR.out.size
      clear q0 q1 q2
      go_wp2_with fail
      refine (values_any _ _ _ _).mono ?_
      rintro e w6 ⟨rfl, rfl⟩
      have hb6 : Below w1.heap.size w1 (wr.alloc (.cells #[.slice a rs.length c] 25)) := HBR.out.alloc HBR.out.size _
      have hv6 : (wr.alloc (.cells #[.slice a rs.length c] 25)).cell? ⟨wr.heap.size, 0, none⟩ = some (.slice a rs.length c) := by simp [go_sem]
      have HCL : Hid (∀ u : Unit, _) := fun _ => closed_any z L5 (.slice a rs.length c) rs wr.heap.size _ (HR.out _ hb6) hv6 (by simp) (by omega) h9 (by omega) ho
      have HB6 : Hid _ := hb6
      clear hb6 hv6
      go_wp2_with fail
      refine (HCL.out ()).mono ?_
      rintro e w7 ⟨rfl, hb7⟩
      have HB7 : Hid (Below w.heap.size w w7) := hB1.trans ((HB6.out.trans (hb7.mono HB6.out.size)).mono hB1.size)
      clear hb7
      go_wp2
      go_ret
      exact ⟨by rw [HCH.out]; rfl, HB7.out⟩
end Go.Proofs.YtdjmhagclcfnfabGreat
/- The program's pieces. -/
namespace Go.Proofs.YtdjmhagclcfnfabGreat
open Go.RowKit Go.Shelf

attribute [local go_sem] Oper.semAt_some

/-- A row of one's own abides an iterator without cells. -/
theorem row_it {B B' sz n : Nat} {e : TypeId} {W W' : World} {v : Value} {xs : List Value} {row : Option Nat} (ho : W.ownsRow B e sz v n xs) (hg : W.grownBy W' row) (hr : ItRow none B' W row) : W'.ownsRow B e sz v n xs := by
  refine World.ownsRow.kept ho hg ?_
  rcases ho.2 with ⟨rfl, _⟩ | ⟨g, cap, cur, rfl, _, hgb, _⟩
  · exact .inl rfl
  · refine .inr fun e => ?_
    rcases hr g (by simpa [Value.ownBlock] using e.symm) with e2 | ⟨_, o, ho', hc⟩
    · cases e2
    · rw [hgb] at ho'; cases ho'; cases hc
/-- A piece that is closed: its records, in a block below N. -/
def Pie (B N : Nat) (W : World) (q : Value × List Rc) : Prop := OwnsR B W q.1 q.2 ∧ ∀ g, q.1.ownBlock = some g → g < N
/-- Closed pieces stay where a block is written that is from N on or of another type. -/
theorem Pie.kept {B N N' : Nat} {W W' : World} {q : Value × List Rc} {row : Option Nat} (h : Pie B N W q) (hN : N ≤ N') (hg : W.grownBy W' row) (hr : ∀ r, row = some r → N ≤ r ∨ ∀ cs fr, W.heap[r]? ≠ some (.cells cs 40 fr)) : Pie B N' W' q := by
  refine ⟨World.ownsRow.kept h.1 hg ?_, fun g e => Nat.lt_of_lt_of_le (h.2 g e) hN⟩
  obtain ⟨v, rs⟩ := q
  rcases h.1.2 with ⟨e, _⟩ | ⟨g, cap, cur, e, _, hgb, _⟩
  · exact .inl (by rw [show v = _ from e]; rfl)
  · refine .inr fun e2 => ?_
    have hgl : v.ownBlock = some g := by rw [show v = _ from e]; rfl
    have hlt := h.2 g hgl
    rcases hr g (by rw [← hgl]; exact e2.symm) with h3 | h3
    · omega
    · exact h3 _ _ hgb

/-- The state between two records: the boxes, what they hold, the closed pieces. -/
structure PSt (S0 : Nat) (w : World) (limit : Int) (qs : List (Value × List Rc)) (vl vp : Value) (cur : List Rc) (by_ N : Nat) (W : World) : Prop where
  lim : W.heap[S0]? = some (.cells #[.int .i64 limit] 3 (0, 0))
  lis : W.heap[S0 + 1]? = some (.cells #[vl] 53 (0, 0))
  pie : W.heap[S0 + 2]? = some (.cells #[vp] 25 (0, 0))
  byt : W.heap[S0 + 3]? = some (.cells #[.int .i64 (by_ : Nat)] 3 (0, 0))
  row : Own1 25 (S0 + 4) W vl (qs.map Prod.fst)
  own : OwnsR N W vp cur
  lo : S0 + 4 ≤ N
  hi : N ≤ W.heap.size
  old : ∀ q ∈ qs, Pie S0 N W q
  bel : Below S0 w W

theorem OwnsR.row_ne {B : Nat} {W : World} {v : Value} {rs : List Rc} (h : OwnsR B W v rs) : ∀ r, v.ownBlock = some r → B ≤ r ∧ ∃ cs, W.heap[r]? = some (.cells cs 40 (0, 0)) := by
  intro r e
  rcases h.2 with ⟨rfl, _⟩ | ⟨g, cap, cur, rfl, hb, hgb, _⟩
  · simp [Value.ownBlock] at e
  · obtain rfl : g = r := by simpa [Value.ownBlock] using e
    exact ⟨hb, cur, hgb⟩
theorem Own1.row_ne {t : TypeId} {B : Nat} {W : World} {v : Value} {xs : List Value} (h : Own1 t B W v xs) : ∀ r, v.ownBlock = some r → B ≤ r ∧ ∃ cs, W.heap[r]? = some (.cells cs t (0, 0)) := by
  intro r e
  rcases h.2 with ⟨rfl, _⟩ | ⟨g, cap, cur, rfl, hb, hgb, _⟩
  · simp [Value.ownBlock] at e
  · obtain rfl : g = r := by simpa [Value.ownBlock] using e
    exact ⟨hb, cur, hgb⟩
/-- Two rows of different types: where the one is written the other stays. -/
theorem row_beside {B sz n : Nat} {e e' : TypeId} {W W' : World} {v : Value} {xs : List Value} {row : Option Nat} (ho : W.ownsRow B e sz v n xs) (hg : W.grownBy W' row) (hr : ∀ r, row = some r → ∃ cs, W.heap[r]? = some (.cells cs e' (0, 0))) (hne : e ≠ e') : W'.ownsRow B e sz v n xs := by
  refine World.ownsRow.kept ho hg ?_
  rcases ho.2 with ⟨rfl, _⟩ | ⟨g, cap, cur, rfl, _, hgb, _⟩
  · exact .inl rfl
  · refine .inr fun e2 => ?_
    obtain ⟨cs, h⟩ := hr g (by simpa [Value.ownBlock] using e2.symm)
    rw [hgb] at h
    simp only [Option.some.injEq, Obj.cells.injEq] at h
    exact hne h.2.1

variable {S0 : Nat} {w : World} {limit : Int} {qs : List (Value × List Rc)} {vl vp : Value} {cur : List Rc} {by_ N : Nat} {W : World}

/-- Only new blocks. -/
theorem PSt.more (h : PSt S0 w limit qs vl vp cur by_ N W) {W' : World} (hb : Below W.heap.size W W') : PSt S0 w limit qs vl vp cur by_ N W' := by
  have lt := fun {k : Nat} {o : Obj} (e : W.heap[k]? = some o) => (Array.getElem?_eq_some_iff.1 e).1
  have hg : W.grownBy W' none := gbelow hb
  exact ⟨(hb.block _ (lt h.lim)).trans h.lim, (hb.block _ (lt h.lis)).trans h.lis, (hb.block _ (lt h.pie)).trans h.pie, (hb.block _ (lt h.byt)).trans h.byt, h.row.kept hg, OwnsR.keptN h.own hg, h.lo, Nat.le_trans h.hi hb.size, fun q hq => (h.old q hq).kept (Nat.le_refl _) hg (fun r e => by cases e), h.bel.trans (hb.mono (by have := h.lo; have := h.hi; omega))⟩
/-- An iterator without cells. -/
theorem PSt.it (h : PSt S0 w limit qs vl vp cur by_ N W) {W' : World} {row : Option Nat} {B' : Nat} (hB : S0 ≤ B') (hS : S0 ≤ w.heap.size) (hg : W.grownBy W' row) (hr : ItRow none B' W row) : PSt S0 w limit qs vl vp cur by_ N W' := by
  have bl : ∀ {k : Nat} {cs : Array Value} {t : TypeId} {fr : Nat × Nat}, W.heap[k]? = some (.cells cs t fr) → W'.heap[k]? = some (.cells cs t fr) := fun {k cs t fr} e => (hg.block k (Array.getElem?_eq_some_iff.1 e).1 (fun e2 => by
    rcases hr k e2.symm with e3 | ⟨_, o, ho, hc⟩
    · cases e3
    · rw [e] at ho; cases ho; cases hc)).trans e
  refine ⟨bl h.lim, bl h.lis, bl h.pie, bl h.byt, row_it h.row hg hr, row_it h.own hg hr, h.lo, Nat.le_trans h.hi hg.size, fun q hq => ⟨row_it (h.old q hq).1 hg hr, (h.old q hq).2⟩, h.bel.grown hg (Nat.le_trans hS h.bel.size) (fun k e => ?_)⟩
  rcases hr k e with e2 | ⟨h2, _⟩
  · cases e2
  · omega
/-- The open piece is closed. -/
theorem PSt.shut (h : PSt S0 w limit qs vl vp cur by_ N W) {A W3 : World} {v' : Value} (hA : Below W.heap.size W A) (hown : W3.ownsRow (S0 + 4) 25 1 v' (qs.length + 1) (qs.map Prod.fst ++ [vp])) (hg : A.grownBy W3 vl.ownBlock) (hw : S0 ≤ w.heap.size) :
    PSt S0 w limit (qs ++ [(vp, cur)]) v' (.slice none 0 0) [] 28 W3.heap.size (((W3.setCell ⟨S0 + 1, 0, none⟩ v').setCell ⟨S0 + 2, 0, none⟩ (.slice none 0 0)).setCell ⟨S0 + 3, 0, none⟩ (.int .i64 28)) ∧ W3.heap[S0 + 1]? = some (.cells #[vl] 53 (0, 0)) ∧ (W3.setCell ⟨S0 + 1, 0, none⟩ v').heap[S0 + 2]? = some (.cells #[vp] 25 (0, 0)) ∧ ((W3.setCell ⟨S0 + 1, 0, none⟩ v').setCell ⟨S0 + 2, 0, none⟩ (.slice none 0 0)).heap[S0 + 3]? = some (.cells #[.int .i64 (by_ : Nat)] 3 (0, 0)) ∧ (∀ k cs, S0 + 4 ≤ k → W.heap[k]? = some (.cells cs 40 (0, 0)) → (((W3.setCell ⟨S0 + 1, 0, none⟩ v').setCell ⟨S0 + 2, 0, none⟩ (.slice none 0 0)).setCell ⟨S0 + 3, 0, none⟩ (.int .i64 28)).heap[k]? = some (.cells cs 40 (0, 0))) := by
  have h1 := h.more hA
  have hrow := h1.row.row_ne
  have bl : ∀ {k : Nat} {o : Obj}, k < S0 + 4 → A.heap[k]? = some o → W3.heap[k]? = some o := fun {k o} hk e => (hg.block k (Array.getElem?_eq_some_iff.1 e).1 (fun e2 => by have := (hrow k e2.symm).1; omega)).trans e
  have l3 := bl (by omega) h1.lis
  have p3 := bl (by omega) h1.pie
  have b3 := bl (by omega) h1.byt
  have m3 := bl (by omega) h1.lim
  have hO3 : OwnsR N W3 vp cur := row_beside h1.own hg (fun r e => (hrow r e).2) (by decide)
  have hs : A.heap.size ≤ W3.heap.size := hg.size
  have hlo := h1.lo
  have hhi := h1.hi
  have ne := fun (a b : Nat) (hne : a ≠ b) => hne
  have p4 : (W3.setCell ⟨S0 + 1, 0, none⟩ v').heap[S0 + 2]? = _ := (Below.heap_setCell _ _ _ _ (by show S0 + 2 ≠ S0 + 1; omega)).trans p3
  have b5 : ((W3.setCell ⟨S0 + 1, 0, none⟩ v').setCell ⟨S0 + 2, 0, none⟩ (.slice none 0 0)).heap[S0 + 3]? = _ := (Below.heap_setCell _ _ _ _ (by show S0 + 3 ≠ S0 + 2; omega)).trans ((Below.heap_setCell _ _ _ _ (by show S0 + 3 ≠ S0 + 1; omega)).trans b3)
  have far : ∀ {k : Nat} {o : Obj}, k ≠ S0 + 1 → k ≠ S0 + 2 → k ≠ S0 + 3 → W3.heap[k]? = some o → (((W3.setCell ⟨S0 + 1, 0, none⟩ v').setCell ⟨S0 + 2, 0, none⟩ (.slice none 0 0)).setCell ⟨S0 + 3, 0, none⟩ (.int .i64 28)).heap[k]? = some o := fun {k o} n1 n2 n3 e => (Below.heap_setCell _ _ _ _ n3).trans ((Below.heap_setCell _ _ _ _ n2).trans ((Below.heap_setCell _ _ _ _ n1).trans e))
  have hgs : ∀ (X : World) (k : Nat) (v : Value), X.grownBy (X.setCell ⟨k, 0, none⟩ v) (some k) := fun X k v => gset X k 0 v
  have hbel : Below S0 w W3 := h1.bel.grown hg (Nat.le_trans hw h1.bel.size) (fun k e => by have := (hrow k e).1; omega)
  have keepR : ∀ {B sz n : Nat} {t : TypeId} {v : Value} {xs : List Value}, (∀ g, v.ownBlock = some g → S0 + 4 ≤ g) → W3.ownsRow B t sz v n xs → (((W3.setCell ⟨S0 + 1, 0, none⟩ v').setCell ⟨S0 + 2, 0, none⟩ (.slice none 0 0)).setCell ⟨S0 + 3, 0, none⟩ (.int .i64 28)).ownsRow B t sz v n xs := fun {B sz n t v xs} hge ho => by
    have nb : ∀ k, k < S0 + 4 → v.ownBlock ≠ some k := fun k hk e => by have := hge k e; omega
    exact World.ownsRow.kept (World.ownsRow.kept (World.ownsRow.kept ho (hgs _ _ _) (.inr (nb _ (by omega)))) (hgs _ _ _) (.inr (nb _ (by omega)))) (hgs _ _ _) (.inr (nb _ (by omega)))
  have hge' : ∀ g, v'.ownBlock = some g → S0 + 4 ≤ g := by
    intro g e
    rcases hown.2 with ⟨rfl, _⟩ | ⟨g', cap, cu, rfl, hb, _⟩
    · simp [Value.ownBlock] at e
    · obtain rfl : g' = g := by simpa [Value.ownBlock] using e
      exact hb
  refine ⟨⟨far (by omega) (by omega) (by omega) m3, ?_, ?_, block_set (i := 0) b5 _, ?_, World.ownsRow_nil _ _ _ _, by omega, by simp, ?_, ?_⟩, l3, p4, b5, fun k cs hk e => ?_⟩
  · exact (Below.heap_setCell _ _ _ _ (by show S0 + 1 ≠ S0 + 3; omega)).trans ((Below.heap_setCell _ _ _ _ (by show S0 + 1 ≠ S0 + 2; omega)).trans (block_set (i := 0) l3 _))
  · exact (Below.heap_setCell _ _ _ _ (by show S0 + 2 ≠ S0 + 3; omega)).trans (block_set (i := 0) p4 _)
  · rw [List.map_append]
    refine keepR hge' (own1_snoc ?_)
    rw [List.length_map]
    exact hown
  · intro q hq
    rw [List.mem_append, List.mem_singleton] at hq
    have q3 : Pie S0 W3.heap.size W3 q := by
      rcases hq with hq | rfl
      · refine (h1.old q hq).kept (by omega) hg (fun r e => .inr fun cs fr e2 => ?_)
        obtain ⟨cs', h3⟩ := (hrow r e).2
        rw [h3] at e2
        simp only [Option.some.injEq, Obj.cells.injEq] at e2
        exact absurd e2.2.1 (by decide)
      · refine ⟨OwnsR.base hO3 (by omega), fun g e => ?_⟩
        obtain ⟨_, cs, hcs⟩ := hO3.row_ne g e
        exact (Array.getElem?_eq_some_iff.1 hcs).1
    refine ⟨?_, fun g e => by have := q3.2 g e; simpa using this⟩
    refine keepR ?_ q3.1
    intro g e
    rcases hq with hq | rfl
    · obtain ⟨hgb, cs, hcs⟩ := (h1.old q hq).1.row_ne g e
      have : ∀ k, k < S0 + 4 → S0 ≤ k → k ≠ g := by
        intro k hk hk2 e2
        subst e2
        have hc : ∀ {cs' : Array Value} {t : TypeId}, A.heap[k]? = some (.cells cs' t (0, 0)) → t = 40 := fun e3 => by
          rw [hcs] at e3
          simp only [Option.some.injEq, Obj.cells.injEq] at e3
          exact e3.2.1.symm
        rcases (show k = S0 ∨ k = S0 + 1 ∨ k = S0 + 2 ∨ k = S0 + 3 by omega) with rfl | rfl | rfl | rfl
        · exact absurd (hc h1.lim) (by decide)
        · exact absurd (hc h1.lis) (by decide)
        · exact absurd (hc h1.pie) (by decide)
        · exact absurd (hc h1.byt) (by decide)
      by_cases hlt : g < S0 + 4
      · exact absurd rfl (this g hlt hgb)
      · omega
    · have := (hO3.row_ne g e).1
      omega
  · exact ((hbel.setCell (p := ⟨S0 + 1, 0, none⟩) (by simp) _).setCell (p := ⟨S0 + 2, 0, none⟩) (by simp) _).setCell (p := ⟨S0 + 3, 0, none⟩) (by simp) _
  · have e1 : A.heap[k]? = _ := (hA.block k (Array.getElem?_eq_some_iff.1 e).1).trans e
    refine far (by omega) (by omega) (by omega) ((hg.block k (Array.getElem?_eq_some_iff.1 e1).1 (fun e2 => ?_)).trans e1)
    obtain ⟨cs', h3⟩ := (hrow k e2.symm).2
    rw [e1] at h3
    simp only [Option.some.injEq, Obj.cells.injEq] at h3
    exact absurd h3.2.1 (by decide)
/-- One more record in the open piece. -/
theorem PSt.put (h : PSt S0 w limit qs vl vp cur by_ N W) {A W3 : World} {v' : Value} {x : Rc} (m : Nat) (hA : Below W.heap.size W A) (hown : W3.ownsRow N 40 3 v' (cur.length + 1) (recVals cur ++ [.bool x.free, .int .i64 x.block, .string x.data])) (hg : A.grownBy W3 vp.ownBlock) (hw : S0 ≤ w.heap.size) :
    PSt S0 w limit qs vl v' (cur ++ [x]) m N ((W3.setCell ⟨S0 + 2, 0, none⟩ v').setCell ⟨S0 + 3, 0, none⟩ (.int .i64 (m : Nat))) ∧ W3.heap[S0 + 2]? = some (.cells #[vp] 25 (0, 0)) ∧ (W3.setCell ⟨S0 + 2, 0, none⟩ v').heap[S0 + 3]? = some (.cells #[.int .i64 (by_ : Nat)] 3 (0, 0)) := by
  have h1 := h.more hA
  have hrow := h1.own.row_ne
  have hlo := h1.lo
  have hhi := h1.hi
  have bl : ∀ {k : Nat} {o : Obj}, k < S0 + 4 → A.heap[k]? = some o → W3.heap[k]? = some o := fun {k o} hk e => (hg.block k (Array.getElem?_eq_some_iff.1 e).1 (fun e2 => by have := (hrow k e2.symm).1; omega)).trans e
  have l3 := bl (by omega) h1.lis
  have p3 := bl (by omega) h1.pie
  have b3 := bl (by omega) h1.byt
  have m3 := bl (by omega) h1.lim
  have hs : A.heap.size ≤ W3.heap.size := hg.size
  have b4 : (W3.setCell ⟨S0 + 2, 0, none⟩ v').heap[S0 + 3]? = _ := (Below.heap_setCell _ _ _ _ (by show S0 + 3 ≠ S0 + 2; omega)).trans b3
  have hbel : Below S0 w W3 := h1.bel.grown hg (Nat.le_trans hw h1.bel.size) (fun k e => by have := (hrow k e).1; omega)
  have far : ∀ {k : Nat} {o : Obj}, k ≠ S0 + 2 → k ≠ S0 + 3 → W3.heap[k]? = some o → ((W3.setCell ⟨S0 + 2, 0, none⟩ v').setCell ⟨S0 + 3, 0, none⟩ (.int .i64 (m : Nat))).heap[k]? = some o := fun {k o} n2 n3 e => (Below.heap_setCell _ _ _ _ n3).trans ((Below.heap_setCell _ _ _ _ n2).trans e)
  have hgs : ∀ (X : World) (k : Nat) (v : Value), X.grownBy (X.setCell ⟨k, 0, none⟩ v) (some k) := fun X k v => gset X k 0 v
  have keepR : ∀ {B sz n : Nat} {t : TypeId} {v : Value} {xs : List Value}, (∀ g, v.ownBlock = some g → g ≠ S0 + 2 ∧ g ≠ S0 + 3) → W3.ownsRow B t sz v n xs → ((W3.setCell ⟨S0 + 2, 0, none⟩ v').setCell ⟨S0 + 3, 0, none⟩ (.int .i64 (m : Nat))).ownsRow B t sz v n xs := fun {B sz n t v xs} hge ho =>
    World.ownsRow.kept (World.ownsRow.kept ho (hgs _ _ _) (.inr (fun e => (hge _ e).1 rfl))) (hgs _ _ _) (.inr (fun e => (hge _ e).2 rfl))
  refine ⟨⟨far (by omega) (by omega) m3, far (by omega) (by omega) l3, (Below.heap_setCell _ _ _ _ (by show S0 + 2 ≠ S0 + 3; omega)).trans (block_set (i := 0) p3 _), block_set (i := 0) b4 _, ?_, ?_, hlo, by simp; omega, ?_, ?_⟩, p3, b4⟩
  · refine keepR (fun g e => ?_) (row_beside h1.row hg (fun r e => (hrow r e).2) (by decide))
    have := (h1.row.row_ne g e).1
    exact ⟨by omega, by omega⟩
  · refine keepR (fun g e => ?_) (ownsR_snoc hown)
    rcases hown.2 with ⟨rfl, _⟩ | ⟨g', cap, cu, rfl, hb, _⟩
    · simp [Value.ownBlock] at e
    · obtain rfl : g' = g := by simpa [Value.ownBlock] using e
      exact ⟨by omega, by omega⟩
  · intro q hq
    have q3 := (h1.old q hq).kept (Nat.le_refl N) hg (fun r e => .inl (hrow r e).1)
    refine ⟨keepR (fun g e => ?_) q3.1, q3.2⟩
    obtain ⟨hgb, cs, hcs⟩ := q3.1.row_ne g e
    refine ⟨fun e2 => ?_, fun e2 => ?_⟩
    · rw [e2, p3] at hcs
      simp only [Option.some.injEq, Obj.cells.injEq] at hcs
      exact absurd hcs.2.1 (by decide)
    · rw [e2, b3] at hcs
      simp only [Option.some.injEq, Obj.cells.injEq] at hcs
      exact absurd hcs.2.1 (by decide)
  · exact (hbel.setCell (p := ⟨S0 + 2, 0, none⟩) (by simp) _).setCell (p := ⟨S0 + 3, 0, none⟩) (by simp) _

theorem OwnsR.alloc1 {B : Nat} {W : World} {v : Value} {rs : List Rc} (h : OwnsR B W v rs) (o : Obj) : OwnsR B (W.alloc o) v rs := World.ownsRow.alloc h o
theorem keeps_row {A W3 : World} {row : Option Nat} (hg : A.grownBy W3 row) (hr : ∀ r, row = some r → ∃ t cs, A.heap[r]? = some (.cells cs t (0, 0))) : KeepsOthers A W3 :=
  KeepsOthers.of_grownBy hg fun j o ej hj => by
    obtain ⟨t, cs, h⟩ := hr j ej
    rw [h] at hj
    cases hj
    rfl
theorem PSt.keptOn (h : PSt S0 w limit qs vl vp cur by_ N W) {qs' : List (Value × List Rc)} {vl' vp' : Value} {cur' : List Rc} {by' N' : Nat} {W' : World} (h' : PSt S0 w limit qs' vl' vp' cur' by' N' W') {K : Nat → Prop} (hK : ∀ k, K k → k < S0) : KeptOn K W W' :=
  fun k hk => (h'.bel.block k (hK k hk)).trans (h.bel.block k (hK k hk)).symm
end Go.Proofs.YtdjmhagclcfnfabGreat
/- The program's pieces: the walk. -/
namespace Go.Proofs.YtdjmhagclcfnfabGreat
open Go.RowKit Go.Shelf

attribute [local go_sem] Oper.semAt_some

set_option maxRecDepth 100000 in
set_option maxHeartbeats 4000000 in
theorem pieces_any (z : Nat) (limit : Int) (sv : Value) (rs : List Rc) (Bs : Nat) (w : World) (hR : Recs w.heap.size w sv rs) (hBs : w.cell? ⟨Bs, 0, none⟩ = some sv) (hBl : Bs < w.heap.size) (h9 : (z : Int) ≤ 64) (hn : rs.length ≤ 100) (ho : ∀ r ∈ rs, RecFit z r) (hlo : -9223372036854775808 ≤ limit) (hhi : limit ≤ 9223372036854775807) :
    Calls Tryz.prog 18 #[.func (.func 28) #[] #[.pointer (some ⟨Bs, 0, none⟩)], .int .i64 limit] w fun e w' => ∃ (v : Value) (qs : List (Value × List Rc)), e = .returned v ∧ Own1 25 w.heap.size w' v (qs.map Prod.fst) ∧ qs.map Prod.snd = (cutS limit rs).1 ++ [(cutS limit rs).2.1] ∧ (∀ q ∈ qs, Recs w'.heap.size w' q.1 q.2) ∧ Below w.heap.size w w' := by
  obtain ⟨a, c, rfl⟩ := hR.slice
  obtain ⟨i0, hi, hz0, hz1, hz2⟩ := info_parts Tryz.infoRec
  obtain ⟨j0, hj, jz0, jz1, jz2⟩ := info_parts Tryz.infoRecs
  refine (callsIn_wide (n := 9)).1 ?_
  refine callsIn_of_wp_marks Tryz.func18 rfl trivial ?_ rfl
  simp only [Tryz.ntmps18, List.size_toArray, List.length_cons, List.length_nil, Nat.reduceAdd, Nat.reduceSub, Array.replicate_succ, Array.replicate_zero, List.push_toArray, List.append_toArray, List.nil_append, List.cons_append]
  gi_wp2_with fail
  obtain ⟨W3, hW3⟩ : ∃ W3, W3 = (((w.alloc (.cells #[.int .i64 limit] 3)).alloc (.cells #[.slice none 0 0] 53)).alloc (.cells #[.slice none 0 0] 25)).alloc (.cells #[.int .i64 28] 3) := ⟨_, rfl⟩
  have hs3 : W3.heap.size = w.heap.size + 4 := by rw [hW3]; simp
  have hB3 : Below w.heap.size w W3 := by rw [hW3]; exact ((((Below.refl _ _).alloc (Nat.le_refl _) _).alloc (by simp) _).alloc (by simp; omega) _).alloc (by simp; omega) _
  have q0 : W3.heap[w.heap.size]? = some (.cells #[.int .i64 limit] 3 (0, 0)) := by
    rw [hW3]
    exact (Below.heap_alloc _ _ _ (by simp; omega)).trans ((Below.heap_alloc _ _ _ (by simp; omega)).trans ((Below.heap_alloc _ _ _ (by simp)).trans (World.alloc_heap_new _ _)))
  have q1 : W3.heap[w.heap.size + 1]? = some (.cells #[.slice none 0 0] 53 (0, 0)) := by
    rw [hW3]
    refine (Below.heap_alloc _ _ _ (by simp)).trans ((Below.heap_alloc _ _ _ (by simp)).trans ?_)
    have h := World.alloc_heap_new (w.alloc (.cells #[.int .i64 limit] 3)) (.cells #[.slice none 0 0] 53)
    rwa [World.size_alloc] at h
  have q2 : W3.heap[w.heap.size + 2]? = some (.cells #[.slice none 0 0] 25 (0, 0)) := by
    rw [hW3]
    refine (Below.heap_alloc _ _ _ (by simp)).trans ?_
    have h := World.alloc_heap_new ((w.alloc (.cells #[.int .i64 limit] 3)).alloc (.cells #[.slice none 0 0] 53)) (.cells #[.slice none 0 0] 25)
    rwa [World.size_alloc, World.size_alloc] at h
  have q3 : W3.heap[w.heap.size + 3]? = some (.cells #[.int .i64 28] 3 (0, 0)) := by
    rw [hW3]
    have h := World.alloc_heap_new (((w.alloc (.cells #[.int .i64 limit] 3)).alloc (.cells #[.slice none 0 0] 53)).alloc (.cells #[.slice none 0 0] 25)) (.cells #[.int .i64 28] 3)
    rwa [World.size_alloc, World.size_alloc, World.size_alloc] at h
  rw [← hW3]
  clear hW3
  have hst : PSt w.heap.size w limit [] (.slice none 0 0) (.slice none 0 0) [] 28 W3.heap.size W3 := ⟨q0, q1, q2, q3, own1_nil _ _ _, World.ownsRow_nil _ _ _ _, by omega, Nat.le_refl _, fun q hq => (by cases hq), hB3⟩
  have hKW : ∀ k, (rs ≠ [] ∧ ∃ off, a = some ⟨k, off, none⟩) → k < w.heap.size := fun k ⟨hne, off, e⟩ => hR.block_lt hne e
  clear q0 q1 q2 q3
  refine range_law (n := 9) rfl (by decide) (gf := 28) (lb := #[.pointer (some ⟨Bs, 0, none⟩)]) rfl trivial (enters_of Tryz.func28 (by kernel_rfl) rfl)
    (values_seq 8 (by decide) Bs (.slice a rs.length c) rs (by omega) W3 (by omega) ((hB3.cell (p := ⟨Bs, 0, none⟩) hBl).trans hBs) (hR.moved hB3) (fun k => rs ≠ [] ∧ ∃ off, a = some ⟨k, off, none⟩) (fun k hk => by have := hKW k hk; omega) (fun hne b off l cap e => by simp only [Value.slice.injEq] at e; exact ⟨hne, off, e.1⟩))
    (Below.refl _ _) (fun k hk => by have := hKW k hk; omega) (fun b e => by cases e) (fun _ => rfl)
    (fun pre W => ∃ (qs : List (Value × List Rc)) (vl vp : Value) (N : Nat), PSt w.heap.size w limit qs vl vp (cutS limit pre).2.1 (cutS limit pre).2.2 N W ∧ qs.map Prod.snd = (cutS limit pre).1)
    (fun _ _ _ => False)
    ?hI (fun cd => OwnIt.pure _ _ _)
    ⟨[], _, _, _, hst, rfl⟩
    (fun (x : Rc) (a' : Act) (W : World) => ∃ Bx : Nat, W3.heap.size ≤ Bx ∧ W.heap[Bx]? = some (.cells #[.bool x.free, .int .i64 x.block, .string x.data] 40 (0, 0)) ∧ a' = { tmps := #[.func (.func 28) #[] #[.pointer (some ⟨Bs, 0, none⟩)], .int .i64 limit, undef, .pointer (some ⟨w.heap.size, 0, none⟩), .slice none 0 0, .pointer (some ⟨w.heap.size + 1, 0, none⟩), .pointer (some ⟨w.heap.size + 2, 0, none⟩), .pointer (some ⟨w.heap.size + 3, 0, none⟩), .pointer (some ⟨Bx, 0, none⟩), undef, .func (.func 28) #[] #[.pointer (some ⟨Bs, 0, none⟩)], .agg #[.bool x.free, .int .i64 x.block, .string x.data], undef, undef, undef, undef, undef, undef, undef, undef, undef, undef, undef, undef, undef, undef, undef, undef, undef, undef, undef, undef, undef, undef], defers := [] })
    (fun x a' => ownIt_some _ fun Bx => OwnIt.and (OwnIt.pure _ _ _) (OwnIt.and (ownIt_block _ _ (fun _ => _) (fun _ => rfl)) (OwnIt.pure _ _ _)))
    ?assign ?body ?done ?stop ?panic
  case hI =>
    rintro s W W' row ⟨qs, vl, vp, N, h1, h2⟩ hg hr
    exact ⟨qs, vl, vp, N, h1.it (by omega) (Nat.le_refl _) hg hr, h2⟩
  case assign =>
    rintro l pre x W K ⟨qs, vl, vp, N, h1, h2⟩ hK
    gi_wp2
    refine hK _ _ ((KeepsOthers.alloc _ _).from _) ?_ ⟨qs, vl, vp, N, h1.more ((Below.refl _ _).alloc (Nat.le_refl _) _), h2⟩ ⟨W.heap.size, by have := h1.lo; have := h1.hi; omega, World.alloc_heap_new _ _, rfl⟩
    exact (KeptOn.refl _ _).alloc (fun k hk => by have := hKW k hk; have := h1.bel.size; omega) _
  case body =>
    rintro l pre x a' W ⟨qs, vl, vp, N, h1, h2⟩ ⟨Bx, hBx, hx, rfl⟩ hG
    have lt := fun {k : Nat} {o : Obj} (e : W.heap[k]? = some o) => (Array.getElem?_eq_some_iff.1 e).1
    have hfx := ho x (hG.subset (by simp))
    have hlx := lenR_fit z x hfx
    have hsx := fit_size z h9 x hfx
    have hpl := hG.length_le
    rw [List.length_append] at hpl
    have hcl := cut_len limit pre
    have HQ : Hid (qs.map Prod.snd = (cutS limit pre).1) := h2
    have hql : qs.length ≤ 100 := by
      have := congrArg List.length h2
      rw [List.length_map] at this
      simp at hpl
      omega
    have r0 := boxed_cell (i := 0) hx rfl
    have r1 := boxed_cell (i := 1) hx rfl
    have r2 := boxed_cell (i := 2) hx rfl
    have HC : Hid (cutS limit (pre ++ [x]) = cutStep limit (cutS limit pre) x) := cutS_snoc limit pre x
    obtain ⟨hnb, hcur⟩ := cut_small limit pre (fun r hr => by
      rw [lenR_fit z r (ho r (hG.subset (by simp [hr])))]
      have := fit_size z h9 r (ho r (hG.subset (by simp [hr])))
      omega)
    have hpl2 : pre.length < 100 := by simp at hpl; omega
    generalize cutS limit pre = cs at *
    obtain ⟨ps, cur, nb⟩ := cs
    have H1 : Hid (PSt w.heap.size w limit qs vl vp cur nb N W) := h1
    clear h1 h2 hcl
    refine wpIn_block ?_
    refine wpIn_seq_k (fun K hK => ?_)
    have HK : Hid (∀ a w, _ → K a w) := hK
    clear hK
    gi_wp2_with fail
    refine ⟨trivial, (CallsIn.inRound l (callsIn_wide.2 (recordBytes_any x _ (by omega)))).mono ?_⟩
    rintro e W1 ⟨rfl, hb1⟩
    have hx1 := (hb1.block Bx (lt hx)).trans hx
    have h1 := H1.out.more hb1
    have hKF : Hid (KeepsFrom W3.heap.size W W1) := ⟨hb1.size, fun k o _ hk _ => (hb1.block k (lt hk)).trans hk⟩
    clear r0 r1 r2
    gi_wp2
    refine HK.out _ _ ?_
    clear HK
    refine wpIn_seq_k (fun K hK => ?_)
    have HK : Hid (∀ a w, _ → K a w) := hK
    clear hK
    have c0 := boxed_cell (i := 0) h1.lim rfl
    have c1 := boxed_cell (i := 0) h1.lis rfl
    have c2 := boxed_cell (i := 0) h1.pie rfl
    have c3 := boxed_cell (i := 0) h1.byt rfl
    obtain ⟨pa, pn, pk, rfl⟩ : ∃ a ln cp, vp = .slice a ln cp := by
      rcases h1.own.2 with ⟨rfl, _⟩ | ⟨g, cap, cur, rfl, _⟩
      · exact ⟨_, _, _, rfl⟩
      · exact ⟨_, _, _, rfl⟩
    have hlo := h1.lo
    have hhi := h1.hi
    have hml1 : (qs.map Prod.fst).length + 1 ≤ maxLen := Nat.le_trans (show (qs.map Prod.fst).length + 1 ≤ 101 by rw [List.length_map]; omega) (by decide)
    have hml2 : cur.length + 1 ≤ maxLen := Nat.le_trans (show cur.length + 1 ≤ 1000 by omega) (by decide)
    have hml3 : ([] : List Rc).length + 1 ≤ maxLen := by decide
    by_cases hc : limit < ((nb + lenR x : Nat) : Int)
    · have e1 : decide (limit < (nb : Int) + (3 + (x.data.size : Int))) = true := by simp; omega
      have hA1 : Below W1.heap.size W1 (W1.alloc (.cells #[.slice pa pn pk] 25)) := (Below.refl _ _).alloc (Nat.le_refl _) _
      gi_wp2_with (have hA2 := hA1; gi_at_builtin; refine wpListIn_append_own_at _ rfl _ _ 53 rfl (w.heap.size + 4) 25 j0 _ 1 24 Tryz.underlying53 hj jz0 jz1 jz2 rfl (by decide) _ _ _ rfl (World.ownsRow.alloc h1.row _) ⟨W1.heap.size, 0, none⟩ 1 1 [.slice pa pn pk] rfl rfl (cells_new _ _ _) (by simp [Value.oneCell']) hml1 (by rw [List.length_map]; omega) (by simp; omega) ?_; intro v' w3 hown' hg3' hnil' hat'; rw [List.length_map] at hown'; obtain ⟨h2, g1, g2, g3, g4⟩ := PSt.shut h1 hA1 hown' hg3' (Nat.le_refl _); obtain ⟨lg, lcap, rfl⟩ := ownsRow_succ hown'; have p1 := boxed_cell (i := 0) g1 rfl; have f1 := boxed_frozen (i := 0) g1; have p2 := boxed_cell (i := 0) g2 rfl; have f2 := boxed_frozen (i := 0) g2; have p3 := boxed_cell (i := 0) g3 rfl; have f3 := boxed_frozen (i := 0) g3)
      have hx2 := g4 Bx _ (by omega) hx1
      refine HK.out _ _ ?_
      obtain ⟨X2, hX2⟩ : ∃ X2, X2 = ((w3.setCell ⟨w.heap.size + 1, 0, none⟩ (.slice (some ⟨lg, 0, none⟩) (qs.length + 1) lcap)).setCell ⟨w.heap.size + 2, 0, none⟩ (.slice none 0 0)).setCell ⟨w.heap.size + 3, 0, none⟩ (.int .i64 28) := ⟨_, rfl⟩
      have KF2 : KeepsFrom W3.heap.size W X2 := by
        rw [hX2]
        exact hKF.out.trans ((((KeepsOthers.alloc _ _).trans (keeps_row hg3' (fun r e => ⟨_, ((Own1.alloc h1.row _).row_ne r e).2⟩))).trans ((KeepsOthers.setCell _ _ _).trans ((KeepsOthers.setCell _ _ _).trans (KeepsOthers.setCell _ _ _)))).from _)
      rw [← hX2] at h2 hx2
      rw [← hX2]
      clear hX2 g1 g2 g3 g4 hown' hnil' hat' p1 f1 p2 f2 p3 f3 c0 c1 c2 c3 h1 hA1 hx1 HK
      obtain ⟨vp2, hvp2⟩ : ∃ v : Value, v = .slice none 0 0 := ⟨_, rfl⟩
      rw [← hvp2] at h2
      clear hvp2
      have u0 := boxed_cell (i := 0) hx2 rfl
      have u1 := boxed_cell (i := 1) hx2 rfl
      have u2 := boxed_cell (i := 2) hx2 rfl
      have s2 := boxed_cell (i := 0) (v := vp2) h2.pie rfl
      have s3 := boxed_cell (i := 0) (v := .int .i64 28) h2.byt rfl
      have hsX := h2.hi
      have hsL := h2.lo
      have hA2 : Below X2.heap.size X2 (X2.alloc (.cells #[.bool x.free, .int .i64 x.block, .string x.data] 40)) := (Below.refl _ _).alloc (Nat.le_refl _) _
      gi_wp2_with (have hA3 := hA2; gi_at_builtin; refine wpListIn_append_own_at _ rfl _ _ 25 rfl w3.heap.size 40 i0 _ 3 32 Tryz.underlying25 hi hz0 hz1 hz2 rfl (by decide) _ _ _ rfl (World.ownsRow.alloc h2.own _) ⟨X2.heap.size, 0, none⟩ 1 1 [.bool x.free, .int .i64 x.block, .string x.data] rfl rfl (cells_new _ _ _) (by simp [Value.oneCell']) hml3 (by decide) (by simp; omega) ?_; intro v' w5 hown2 hg5 hn5 ha5; obtain ⟨h3, k1, k2⟩ := PSt.put h2 (28 + (3 + x.data.size)) hA2 hown2 hg5 (Nat.le_refl _); have KO5 := keeps_row hg5 (fun r e => ⟨_, ((OwnsR.alloc1 h2.own _).row_ne r e).2⟩); obtain ⟨pg, pcap, rfl⟩ := ownsRow_succ hown2; simp only [List.length_nil, Nat.zero_add] at k2 h3; have t1 := boxed_cell (i := 0) k1 rfl; have y1 := boxed_frozen (i := 0) k1; have t2 := boxed_cell (i := 0) k2 rfl; have y2 := boxed_frozen (i := 0) k2; clear hA2 hA3)
      have hst2 : cutStep limit (ps, cur, nb) x = (ps ++ [cur], [x], 28 + lenR x) := if_pos hc
      refine ⟨KF2.trans ((((KeepsOthers.alloc _ _).trans KO5).trans ((KeepsOthers.setCell _ _ _).trans (KeepsOthers.setCell _ _ _))).from _), H1.out.keptOn h3 hKW, qs ++ [(.slice pa pn pk, cur)], .slice (some ⟨lg, 0, none⟩) (qs.length + 1) lcap, .slice (some ⟨pg, 0, none⟩) 1 pcap, w3.heap.size, ?_, ?_⟩
      · rw [HC.out, hst2, hlx]
        simpa using h3
      · rw [HC.out, hst2]
        simp [← HQ.out]
    · have e1 : decide (limit < (nb : Int) + (3 + (x.data.size : Int))) = false := by simp; omega
      gi_wp2
      refine HK.out _ _ ?_
      have h2 := h1
      have hx2 := hx1
      clear c0 c1 c2 c3 h1 hx1 HK
      have u0 := boxed_cell (i := 0) hx2 rfl
      have u1 := boxed_cell (i := 1) hx2 rfl
      have u2 := boxed_cell (i := 2) hx2 rfl
      have s2 := boxed_cell (i := 0) (v := .slice pa pn pk) h2.pie rfl
      have s3 := boxed_cell (i := 0) (v := .int .i64 nb) h2.byt rfl
      have hsX := h2.hi
      have hsL := h2.lo
      have hA2 : Below W1.heap.size W1 (W1.alloc (.cells #[.bool x.free, .int .i64 x.block, .string x.data] 40)) := (Below.refl _ _).alloc (Nat.le_refl _) _
      gi_wp2_with (have hA3 := hA2; gi_at_builtin; refine wpListIn_append_own_at _ rfl _ _ 25 rfl N 40 i0 _ 3 32 Tryz.underlying25 hi hz0 hz1 hz2 rfl (by decide) _ _ _ rfl (World.ownsRow.alloc h2.own _) ⟨W1.heap.size, 0, none⟩ 1 1 [.bool x.free, .int .i64 x.block, .string x.data] rfl rfl (cells_new _ _ _) (by simp [Value.oneCell']) hml2 (by omega) (by simp; omega) ?_; intro v' w5 hown2 hg5 hn5 ha5; obtain ⟨h3, k1, k2⟩ := PSt.put h2 (nb + (3 + x.data.size)) hA2 hown2 hg5 (Nat.le_refl _); have KO5 := keeps_row hg5 (fun r e => ⟨_, ((OwnsR.alloc1 h2.own _).row_ne r e).2⟩); obtain ⟨pg, pcap, rfl⟩ := ownsRow_succ hown2; have t1 := boxed_cell (i := 0) k1 rfl; have y1 := boxed_frozen (i := 0) k1; have t2 := boxed_cell (i := 0) k2 rfl; have y2 := boxed_frozen (i := 0) k2; clear hA2 hA3)
      have hst2 : cutStep limit (ps, cur, nb) x = (ps, cur ++ [x], nb + lenR x) := if_neg (by simpa using hc)
      refine ⟨hKF.out.trans ((((KeepsOthers.alloc _ _).trans KO5).trans ((KeepsOthers.setCell _ _ _).trans (KeepsOthers.setCell _ _ _))).from _), H1.out.keptOn h3 hKW, qs, vl, .slice (some ⟨pg, 0, none⟩) (cur.length + 1) pcap, N, ?_, ?_⟩
      · rw [HC.out, hst2, hlx]
        simpa using h3
      · rw [HC.out, hst2]
        simp [← HQ.out]
  case done =>
    rintro D ys W hD rfl ⟨qs, vl, vp, N, h1, h2⟩ hK
    obtain ⟨pa, pn, pk, rfl⟩ : ∃ a ln cp, vp = .slice a ln cp := by
      rcases h1.own.2 with ⟨rfl, _⟩ | ⟨g, cap, cur, rfl, _⟩
      · exact ⟨_, _, _, rfl⟩
      · exact ⟨_, _, _, rfl⟩
    have hcl := cut_len limit ys
    have hql : qs.length ≤ 100 := by
      have := congrArg List.length h2
      rw [List.length_map] at this
      omega
    have hlo := h1.lo
    have hhi := h1.hi
    have hml1 : (qs.map Prod.fst).length + 1 ≤ maxLen := Nat.le_trans (show (qs.map Prod.fst).length + 1 ≤ 101 by rw [List.length_map]; omega) (by decide)
    have c1 := boxed_cell (i := 0) h1.lis rfl
    have c2 := boxed_cell (i := 0) h1.pie rfl
    have H1 : Hid (PSt w.heap.size w limit qs vl (.slice pa pn pk) (cutS limit ys).2.1 (cutS limit ys).2.2 N W) := h1
    have HQ : Hid _ := h2
    have hA1 : Below W.heap.size W (W.alloc (.cells #[.slice pa pn pk] 25)) := (Below.refl _ _).alloc (Nat.le_refl _) _
    clear h2
    gi_wp2_with (have hA2 := hA1; gi_at_builtin; refine wpListIn_append_own_at _ rfl _ _ 53 rfl (w.heap.size + 4) 25 j0 _ 1 24 Tryz.underlying53 hj jz0 jz1 jz2 rfl (by decide) _ _ _ rfl (World.ownsRow.alloc h1.row _) ⟨W.heap.size, 0, none⟩ 1 1 [.slice pa pn pk] rfl rfl (cells_new _ _ _) (by simp [Value.oneCell']) hml1 (by rw [List.length_map]; omega) (by simp; omega) ?_; intro v' w3 hown' hg3' hnil' hat'; rw [List.length_map] at hown'; obtain ⟨lg, lcap, rfl⟩ := ownsRow_succ hown'; clear hA1 hA2)
    have h1' := H1.out.more ((Below.refl W.heap.size W).alloc (Nat.le_refl _) (.cells #[.slice pa pn pk] 25))
    have hrow := (Own1.alloc h1.row (.cells #[.slice pa pn pk] 25)).row_ne
    have hK3 : w3.heap[D]? = some (.deferred (some [])) := by
      have e1 := (Below.heap_alloc W (.cells #[.slice pa pn pk] 25) D (Array.getElem?_eq_some_iff.1 hK).1).trans hK
      refine (hg3'.block D (Array.getElem?_eq_some_iff.1 e1).1 (fun e => ?_)).trans e1
      obtain ⟨_, cs, h⟩ := hrow D e.symm
      rw [e1] at h
      cases h
    refine ⟨by simp, .inl ⟨_, _, rfl, run_takeDeferred hK3, ?_⟩⟩
    have hbel : Below w.heap.size w w3 := h1'.bel.grown hg3' h1'.bel.size (fun k e => by have := (hrow k e).1; omega)
    have hownE : Own1 25 (w.heap.size + 4) w3 (.slice (some ⟨lg, 0, none⟩) (qs.length + 1) lcap) ((qs ++ [((Value.slice pa pn pk), (cutS limit ys).2.1)]).map Prod.fst) := by
      rw [List.map_append]
      refine own1_snoc ?_
      rw [List.length_map]
      exact hown'
    have hlD : D < w3.heap.size := (Array.getElem?_eq_some_iff.1 hK3).1
    have recs : ∀ q : Value × List Rc, OwnsR w.heap.size w3 q.1 q.2 → Recs (w3.putObj D (.deferred none)).heap.size (w3.putObj D (.deferred none)) q.1 q.2 := fun q hq => OwnsR.recs (ownsRow_putObj hq _ hK3 rfl)
    refine ⟨_, results_tmp rfl _ _ _, _, qs ++ [(.slice pa pn pk, (cutS limit ys).2.1)], rfl, ?_, ?_, ?_, hbel.trans (belowK_b (w := w) (Nat.le_refl _) _ D _ _ (by omega) hK3 rfl rfl)⟩
    · exact Own1.base (B := w.heap.size + 4) (ownsRow_putObj hownE _ hK3 rfl) (Nat.le_add_right _ _)
    · rw [List.map_append, HQ.out]
      rfl
    · intro q hq
      rw [List.mem_append, List.mem_singleton] at hq
      rcases hq with hq | rfl
      · refine recs q ((h1'.old q hq).kept (N' := N) (Nat.le_refl _) hg3' (fun r e => .inr fun cs fr e2 => ?_)).1
        obtain ⟨cs', h3⟩ := (hrow r e).2
        rw [h3] at e2
        simp only [Option.some.injEq, Obj.cells.injEq] at e2
        exact absurd e2.2.1 (by decide)
      · exact recs _ (OwnsR.base (row_beside h1'.own hg3' (fun r e => (hrow r e).2) (by decide)) (by omega))
  case stop =>
    rintro D cd pre W _ _ h
    exact h.elim
  case panic =>
    rintro D ch xs W _ hp
    exact hp.elim
end Go.Proofs.YtdjmhagclcfnfabGreat
/- The reference's Split. -/
namespace Go.Proofs.YtdjmhagclcfnfabGreat
open Go.RowKit Go.Shelf

def intV (n : Nat) : Value := .int .i64 n
theorem own1_lit (e : TypeId) (B : Nat) (W : World) (x : Value) (hB : B ≤ W.heap.size) : Own1 e B (W.alloc (.cells #[x] e)) (.slice (some ⟨W.heap.size, 0, none⟩) 1 1) [x] :=
  ⟨rfl, .inr ⟨W.heap.size, 1, #[x], rfl, hB, World.alloc_heap_new _ _, Nat.le_refl _, by decide, rfl, rfl⟩⟩
def texV (q : List UInt8) : Value := .string ⟨q.toArray⟩
theorem OwnsR.fits {B : Nat} {W : World} {a : Option Addr} {ln cp : Nat} {rs : List Rc} (h : OwnsR B W (.slice a ln cp) rs) : rs.length ≤ cp := by
  rcases h.2 with ⟨e, h0⟩ | ⟨g, cap, cur, e, _, _, hc, _⟩
  · omega
  · simp only [Value.slice.injEq] at e
    omega
theorem Recs.part {B : Nat} {W : World} {a : Option Addr} {cap cap' : Nat} {rs : List Rc} (h : Recs B W (.slice a rs.length cap) rs) (hcap : rs.length ≤ cap) (lo hi : Nat) (h1 : lo ≤ hi) (h2 : hi ≤ rs.length) : Recs B W (.slice (if cap = lo then a else Option.map (fun x => x.add (lo * 3)) a) (hi - lo) cap') ((rs.take hi).drop lo) := by
  have hl : ((rs.take hi).drop lo).length = hi - lo := by rw [List.length_drop, List.length_take]; omega
  by_cases he : hi = lo
  · subst he
    exact .inl ⟨List.eq_nil_of_length_eq_zero (by omega), _, _, congrArg (fun x => Value.slice _ x _) (Nat.sub_self hi)⟩
  · rcases h with ⟨rfl, _⟩ | ⟨b, o, cap2, e, hb, hc⟩
    · simp at h2; omega
    · simp only [Value.slice.injEq] at e
      obtain ⟨rfl, -, rfl⟩ := e
      refine .inr ⟨b, o + lo * 3, cap', ?_, hb, fun j hj => ?_⟩
      · rw [if_neg (by omega), hl]
        simp only [Option.map_some, Addr.add_lit]
      · rw [hl] at hj
        have := hc (lo + j) (by omega)
        simp only [List.getElem_drop, List.getElem_take]
        rw [show o + lo * 3 + j * 3 = o + (lo + j) * 3 from by omega]
        exact this
/-- What Split tells. -/
def ToldP (l : List UInt8) (limit : Int) (w : World) (e : Ending) (w' : World) : Prop :=
  w.grownBy w' none ∧
    ((∃ k, splitR l limit = .inl k ∧ e = .returned (.tuple #[.slice none 0 0, .int .i64 k])) ∨
     (∃ ts v, splitR l limit = .inr ts ∧ e = .returned (.tuple #[v, .int .i64 0]) ∧ Own1 9 w.heap.size w' v (ts.map texV)))

end Go.Proofs.YtdjmhagclcfnfabGreat
/- The program's chunkTexts. -/
namespace Go.Proofs.YtdjmhagclcfnfabGreat
open Go.RowKit Go.Shelf

theorem Own1.set {e : TypeId} {B : Nat} {W : World} {g l cp : Nat} {xs : List Value} (h : Own1 e B W (.slice (some ⟨g, 0, none⟩) l cp) xs) (k : Nat) (x : Value) : Own1 e B (W.setCell ⟨g, k, none⟩ x) (.slice (some ⟨g, 0, none⟩) l cp) (xs.set k x) := by
  have h1 := h.1
  rcases h.2 with ⟨e0, h0⟩ | ⟨g', cap, cur, e0, hb, hg, hc, hm, hs, ht⟩
  · cases e0
  · have e1 := e0
    simp only [Value.slice.injEq, Option.some.injEq, Addr.mk.injEq] at e1
    obtain ⟨⟨rfl, -, -⟩, -, -⟩ := e1
    refine ⟨by simp, .inr ⟨g, cap, cur.setIfInBounds k x, by simpa using e0, hb, block_set (i := k) hg x, by simpa using hc, hm, by simpa using hs, ?_⟩⟩
    rw [Array.toList_setIfInBounds, List.length_set, List.take_set, ht]

/-- The texts of the first k pieces, the others still empty. -/
def texK (F : Nat → Value) (n k : Nat) : List Value := (List.range k).map F ++ List.replicate (n - k) (.string ⟨#[]⟩)
theorem texK_set (F : Nat → Value) (n k : Nat) (h : k < n) : (texK F n k).set k (F k) = texK F n (k + 1) := by
  unfold texK
  rw [List.set_append_right _ _ (by simp), List.length_map, List.length_range, Nat.sub_self, show n - k = (n - (k + 1)) + 1 from by omega, List.replicate_succ, List.set_cons_zero, List.range_succ, List.map_append, List.append_assoc]
  rfl
theorem texK_length (F : Nat → Value) (n k : Nat) (h : k ≤ n) : (texK F n k).length = n := by
  simp [texK]
  omega
theorem made_texts (n : Nat) : (madeCells #[.string ⟨#[]⟩] n).toList = List.replicate n (.string ⟨#[]⟩) := by
  apply List.ext_getElem?
  intro i
  rw [Array.getElem?_toList]
  by_cases hi : i < n
  · rw [List.getElem?_replicate, if_pos hi]
    simp [madeCells, hi, Nat.mod_one]
  · rw [List.getElem?_eq_none (by simp; omega), Array.getElem?_eq_none (by simp [size_madeCells]; omega)]

set_option maxRecDepth 100000 in
set_option maxHeartbeats 4000000 in
theorem chunkTexts_any (f t b z all : Nat) (v : Value) (qs : List (Value × List Rc)) (B : Nat) (w : World) (hv : Own1 25 B w v (qs.map Prod.fst)) (hq : ∀ q ∈ qs, Recs w.heap.size w q.1 q.2) (hf : f < 4294967296) (ht : t < 4294967296) (hb : b < 4294967296) (h9 : (z : Int) ≤ 64) (hall : all < 4294967296) (hn : qs.length ≤ 200) (hn1 : ∀ q ∈ qs, q.2.length ≤ 100) (ho : ∀ q ∈ qs, ∀ r ∈ q.2, RecFit z r) :
    Calls Tryz.prog 16 #[.agg #[.int .i64 f, .int .i64 t, .int .i64 b, .int .i64 z, .int .i64 all], v] w fun e w' => ∃ v', e = .returned v' ∧ Own1 9 w.heap.size w' v' ((List.range qs.length).map fun i => texV (chunkB f t b z all i qs.length ((qs[i]?.map Prod.snd).getD []))) ∧ Below w.heap.size w w' := by
  obtain ⟨i0, hi, hz0, hz1, hz2⟩ := info_parts Tryz.infoStr
  obtain ⟨va, vc, rfl⟩ := hv.slice
  rw [List.length_map] at hv
  rw [List.length_map]
  have hmk : ∀ W : World, (Instr.makeSlice 31 (.int .i64 qs.length) (.int .i64 qs.length)).run Tryz.prog W = .ok (.slice (some ⟨W.heap.size, 0, none⟩) qs.length qs.length) (W.alloc (.cells (madeCells (Value.string ⟨#[]⟩).cells (qs.length * 1)) 9)) := by
    intro W
    have := run_make (P := Tryz.prog) W 31 9 i0 _ Tryz.underlying31 hi hz0 .i64 .i64 (qs.length : Int) (qs.length : Int) (by omega) (Int.le_refl _) (by rw [hz2]; omega) (by omega)
    rw [hz1, show ((qs.length : Int)).toNat = qs.length from by omega] at this
    exact this
  go_enter Tryz.func16, Tryz.ntmps16
  go_wp2
  obtain ⟨M, hM⟩ : ∃ M, M = madeCells #[.string ⟨#[]⟩] qs.length := ⟨_, rfl⟩
  obtain ⟨W1, hW1⟩ : ∃ W1, W1 = (w.alloc (.cells #[.int .i64 f, .int .i64 t, .int .i64 b, .int .i64 z, .int .i64 all] 51)).alloc (.cells (madeCells #[.string ⟨#[]⟩] qs.length) 9) := ⟨_, rfl⟩
  have hs1 : W1.heap.size = w.heap.size + 2 := by rw [hW1]; simp
  have hB1 : Below w.heap.size w W1 := by rw [hW1]; exact ((Below.refl _ _).alloc (Nat.le_refl _) _).alloc (by simp) _
  have hh1 : W1.heap[w.heap.size]? = some (.cells #[.int .i64 f, .int .i64 t, .int .i64 b, .int .i64 z, .int .i64 all] 51 (0, 0)) := by rw [hW1]; exact (Below.heap_alloc _ _ _ (by simp)).trans (World.alloc_heap_new _ _)
  obtain ⟨F, hF⟩ : ∃ F : Nat → Value, F = fun i => texV (chunkB f t b z all i qs.length ((qs[i]?.map Prod.snd).getD [])) := ⟨_, rfl⟩
  have hO1 : Own1 9 (w.heap.size + 1) W1 (.slice (some ⟨w.heap.size + 1, 0, none⟩) qs.length qs.length) (texK F qs.length 0) := by
    have hl : (texK F qs.length 0).length = qs.length := texK_length F _ _ (Nat.zero_le _)
    refine ⟨by rw [Nat.mul_one], .inr ⟨w.heap.size + 1, qs.length, M, by rw [hl], Nat.le_refl _, ?_, by rw [hl]; exact Nat.le_refl _, ?_, ?_, ?_⟩⟩
    · rw [hW1, hM]
      have h := World.alloc_heap_new (w.alloc (.cells #[.int .i64 f, .int .i64 t, .int .i64 b, .int .i64 z, .int .i64 all] 51)) (.cells (madeCells #[.string ⟨#[]⟩] qs.length) 9)
      rwa [World.size_alloc] at h
    · exact Nat.le_trans hn (by decide)
    · rw [hM, size_madeCells, Nat.mul_one]
    · rw [hM, made_texts, hl, Nat.mul_one, List.take_of_length_le (by simp)]
      simp [texK]
  rw [← hW1]
  have HV : Hid (Own1 25 B w (.slice va qs.length vc) (qs.map Prod.fst)) := hv
  have HQ : Hid _ := hq
  have HO : Hid _ := ho
  have HN1 : Hid _ := hn1
  have HF : Hid _ := hF
  clear hW1 hM hmk hz0 hz1 hz2 hi hv hq ho hn1 hF
  go_loopw [13] (fun i wr => ∃ k : Nat, k ≤ qs.length ∧ i = .int .i64 k ∧ Own1 9 (w.heap.size + 1) wr (.slice (some ⟨w.heap.size + 1, 0, none⟩) qs.length qs.length) (texK F qs.length k) ∧ wr.heap[w.heap.size]? = some (.cells #[.int .i64 f, .int .i64 t, .int .i64 b, .int .i64 z, .int .i64 all] 51 (0, 0)) ∧ Below w.heap.size w wr) (fun i _ => qs.length - (intOf i).toNat)
  case atStart => exact ⟨0, Nat.zero_le _, rfl, hO1, hh1, hB1⟩
  case round =>
    obtain ⟨k, hk, rfl, hO, hh, hB⟩ := hrel
    have H_O : Hid (Own1 9 (w.heap.size + 1) wr (.slice (some ⟨w.heap.size + 1, 0, none⟩) qs.length qs.length) (texK F qs.length k)) := hO
    have H_H : Hid _ := hh
    have H_B : Hid (Below w.heap.size w wr) := hB
    have d0 := boxed_cell (i := 0) (v := .int .i64 f) hh rfl
    have d1 := boxed_cell (i := 1) (v := .int .i64 t) hh rfl
    have d2 := boxed_cell (i := 2) (v := .int .i64 b) hh rfl
    have d3 := boxed_cell (i := 3) (v := .int .i64 z) hh rfl
    have d4 := boxed_cell (i := 4) (v := .int .i64 all) hh rfl
    have hwl : w.heap.size < wr.heap.size := (Array.getElem?_eq_some_iff.1 hh).1
    clear hO hh hB hO1 hh1 hB1
    by_cases hlt : k < qs.length
    · obtain ⟨g, rfl, hgB, hc, -⟩ := Own1.at HV.out (k := k) (by rw [List.length_map]; exact hlt)
      have hgl : g < w.heap.size := World.block_lt_of_cell? _ _ hc
      have hc' : wr.cell? ⟨g, k, none⟩ = some qs[k].1 := by
        rw [H_B.out.cell (p := ⟨g, k, none⟩) hgl, hc]
        simp
      have hmem : qs[k] ∈ qs := List.getElem_mem hlt
      have hR : Recs wr.heap.size wr qs[k].1 qs[k].2 := (HQ.out _ hmem).moved H_B.out
      have HW : Hid (∀ u : Unit, _) := fun _ => writeChunk_any f t b z all k qs.length qs[k].1 qs[k].2 wr hR hf ht hb h9 hall (by omega) (by omega) (HN1.out _ hmem) (HO.out _ hmem)
      have HFK : Hid (F k = .string ⟨(chunkB f t b z all k qs.length qs[k].2).toArray⟩) := by
        show _ = _
        rw [HF.out]
        simp [texV, hlt]
      obtain ⟨qa, qc, hqv⟩ := hR.slice
      have hql := HN1.out _ hmem
      clear hR hmem hc
      generalize qs[k].2 = qr at *
      rw [hqv] at hc' HW
      clear hqv
      generalize qr.length = qn at *
      go_wp2_with fail
      refine (HW.out ()).mono ?_
      rintro e w2 ⟨rfl, hb2⟩
      have o2 := H_O.out.kept (gbelow hb2)
      have O2 : Hid (Own1 9 (w.heap.size + 1) w2 (.slice (some ⟨w.heap.size + 1, 0, none⟩) qs.length qs.length) (texK F qs.length k)) := o2
      obtain ⟨g2, hg2, -, hc2, hz2⟩ := Own1.at o2 (k := k) (by rw [texK_length F _ _ hk]; exact hlt)
      simp only [Option.some.injEq, Addr.mk.injEq] at hg2
      obtain ⟨rfl, -, -⟩ := hg2
      have H2 : Hid _ := (hb2.block _ hwl).trans H_H.out
      have B2 : Hid (Below w.heap.size w w2) := H_B.out.trans (hb2.mono H_B.out.size)
      have hset := texK_set F qs.length k hlt
      rw [HFK.out] at hset
      have HSET : Hid _ := hset
      clear o2 hb2 d0 d1 d2 d3 d4 HW hset hc'
      go_wp2
      go_roundw
      case rel =>
        have o3 := Own1.set O2.out k (.string ⟨(chunkB f t b z all k qs.length qr).toArray⟩)
        rw [HSET.out] at o3
        exact ⟨k + 1, by omega, by go_num, o3, (Below.heap_setCell _ _ _ _ (by show w.heap.size ≠ w.heap.size + 1; omega)).trans H2.out, B2.out.setCell (p := ⟨w.heap.size + 1, k, none⟩) (by simp) _⟩
      case measure => simp [intOf]; omega
    · obtain rfl : k = qs.length := by omega
      have hfin : texK F qs.length qs.length = (List.range qs.length).map F := by simp [texK]
      have o3 := H_O.out
      rw [hfin, HF.out] at o3
      have O3 : Hid (Own1 9 (w.heap.size + 1) wr (.slice (some ⟨w.heap.size + 1, 0, none⟩) qs.length qs.length) ((List.range qs.length).map fun i => texV (chunkB f t b z all i qs.length ((qs[i]?.map Prod.snd).getD [])))) := o3
      clear hfin o3 d0 d1 d2 d3 d4
      go_wp2
      go_ret
      exact ⟨_, rfl, O3.out.base (by omega), H_B.out⟩
end Go.Proofs.YtdjmhagclcfnfabGreat
/- The program's Split. -/
namespace Go.Proofs.YtdjmhagclcfnfabGreat
open Go.RowKit Go.Shelf

theorem splitR_cut (f t b z : Nat) (rs : List Rc) (limit : Int) (qs : List (Value × List Rc)) (hq : qs.map Prod.snd = (cutS limit rs).1 ++ [(cutS limit rs).2.1]) :
    ((List.range qs.length).map fun i => texV (chunkB f t b z rs.length i qs.length ((qs[i]?.map Prod.snd).getD []))) = (chunksR f t b z rs (startsR limit rs)).map texV := by
  have hp := cut_parts limit rs
  rw [← hq] at hp
  have hl : qs.length = (startsR limit rs).length := by
    have := congrArg List.length hp
    simpa using this
  unfold chunksR
  rw [List.map_map, hl]
  refine List.map_congr_left fun i hi => ?_
  rw [List.mem_range] at hi
  have h2 : (qs.map Prod.snd)[i]? = some (partR (startsR limit rs) rs i) := by
    rw [hp]
    simp [hi]
  rw [List.getElem?_map] at h2
  simp only [Function.comp_apply]
  rw [h2]
  rfl

theorem pieces_ok (z : Int) (rs : List Rc) (limit : Int) (qs : List (Value × List Rc)) (hq : qs.map Prod.snd = (cutS limit rs).1 ++ [(cutS limit rs).2.1]) (ho : ∀ r ∈ rs, RecFit z r) :
    qs.length ≤ rs.length + 1 ∧ (∀ q ∈ qs, q.2.length ≤ rs.length) ∧ ∀ q ∈ qs, ∀ r ∈ q.2, RecFit z r := by
  have hp := cut_parts limit rs
  rw [← hq] at hp
  have hl := cut_len limit rs
  have h1 := congrArg List.length hq
  simp only [List.length_map, List.length_append, List.length_cons, List.length_nil] at h1
  have key : ∀ q ∈ qs, ∃ i, q.2 = partR (startsR limit rs) rs i := fun q hqm => by
    have : q.2 ∈ qs.map Prod.snd := List.mem_map_of_mem hqm
    rw [hp, List.mem_map] at this
    obtain ⟨i, -, e⟩ := this
    exact ⟨i, e.symm⟩
  refine ⟨by omega, fun q hqm => ?_, fun q hqm r hr => ?_⟩
  · obtain ⟨i, e⟩ := key q hqm
    rw [e, partR, List.length_drop, List.length_take]
    omega
  · obtain ⟨i, e⟩ := key q hqm
    rw [e, partR] at hr
    exact ho r (List.mem_of_mem_take (List.mem_of_mem_drop hr))

set_option maxRecDepth 100000 in
set_option maxHeartbeats 4000000 in
theorem psplit (l : List UInt8) (limit : Int) (w : World) (hl : l.length ≤ 4611686018427387904) (hlo : -9223372036854775808 ≤ limit) (hhi : limit ≤ 9223372036854775807) :
    Calls Tryz.prog 8 #[.string ⟨l.toArray⟩, .int .i64 limit] w (ToldP l limit w) := by
  have HP : Hid (∀ W, _) := fun W => pparse l W hl
  go_enter Tryz.func8, Tryz.ntmps8
  go_wp2_with fail
  refine (HP.out _).mono ?_
  rintro e w1 ⟨hg1, (⟨k, hk, rfl⟩ | ⟨f, t, b, z, rs, v, hk, rfl, hown⟩)⟩
  · have hke := parse_err l k hk
    have e1 : (k != 0) = true := by simp; omega
    have HA : Hid (splitR l limit = .inl k) := by
      show _ = _
      unfold splitR
      rw [hk]
    have G1 : Hid _ := hg1
    clear hk hg1 hke
    go_wp2
    refine bodyPost_ret (results_tmp2 rfl _ _ _) rfl ?_
    exact ⟨gallocR G1.out _, .inl ⟨k, HA.out, rfl⟩⟩
  obtain ⟨-, hw, ho⟩ := parse_exact l f t b z rs hk
  obtain ⟨h1, h2, h3, h4, h5, h6, h7, h8, h9⟩ : (0 : Int) ≤ f ∧ (f : Int) ≤ 2147483647 ∧ (1 : Int) ≤ t ∧ (t : Int) ≤ 2147483647 ∧ (f : Int) ≠ t ∧ (1 : Int) ≤ b ∧ (b : Int) ≤ 100 ∧ (1 : Int) ≤ z ∧ (z : Int) ≤ 64 := of_decide_eq_true hw
  have hn : rs.length ≤ 100 := by have := recsOk_length b z rs ho (by omega); omega
  have hfit := recsOk_fit b z (-1) rs h7 (by omega) ho
  obtain ⟨av, lv, cv, rfl⟩ := hown.slice
  have hlv : lv = rs.length := by
    obtain ⟨a', c', e⟩ := (OwnsR.recs hown).slice
    cases e
    rfl
  subst hlv
  obtain ⟨W1, hW1⟩ : ∃ W1, W1 = w1.alloc (.cells #[.int .i64 f, .int .i64 t, .int .i64 b, .int .i64 z, .slice av rs.length cv] 27) := ⟨_, rfl⟩
  have s1 : Hid (W1.heap[w1.heap.size]? = some (.cells #[.int .i64 f, .int .i64 t, .int .i64 b, .int .i64 z, .slice av rs.length cv] 27 (0, 0))) := by rw [hW1]; exact World.alloc_heap_new _ _
  have g1 : Hid (w.grownBy W1 none) := by rw [hW1]; exact gallocR hg1 _
  have R1 : Hid (Recs W1.heap.size W1 (.slice av rs.length cv) rs) := by rw [hW1]; exact (OwnsR.alloc hown _).recs
  have HK : Hid _ := hk
  have hz1 : w1.heap.size < W1.heap.size := by rw [hW1]; simp
  clear hg1 hown hk hw h1 h3 h5 h6 h8 ho
  go_wp2_with fail
  rw [← hW1]
  clear hW1
  refine (values_any av rs.length cv W1).mono ?_
  rintro e W2 ⟨rfl, hW2⟩
  have b2 : Below W1.heap.size W1 W2 := by rw [hW2]; exact (Below.refl _ _).alloc (Nat.le_refl _) _
  have c2 : W2.cell? ⟨W1.heap.size, 0, none⟩ = some (.slice av rs.length cv) := by rw [hW2]; simp [go_sem]
  have z2 : W1.heap.size < W2.heap.size := by rw [hW2]; simp
  have HL : Hid (∀ u : Unit, _) := fun _ => longest_any z (.slice av rs.length cv) rs W1.heap.size W2 (R1.out.moved b2) c2 z2 h9 hn hfit
  have B2 : Hid (Below W1.heap.size W1 W2) := b2
  clear hW2 b2 c2 z2
  go_wp2_with fail
  refine (HL.out ()).mono ?_
  rintro e W3 ⟨rfl, hb3⟩
  have B3 : Hid (Below W1.heap.size W1 W3) := B2.out.trans (hb3.mono B2.out.size)
  have hmost := mostR_fit z h9 rs hfit
  obtain ⟨c0, c1, c2, c3, c4, -⟩ := box5_cells ((B3.out.block _ hz1).trans s1.out)
  have hz3 : w1.heap.size < W3.heap.size := Nat.lt_of_lt_of_le hz1 B3.out.size
  have HSP : Hid (splitR l limit = if limit < ((28 + mostR rs : Nat) : Int) then .inl 12 else .inr (chunksR f t b z rs (startsR limit rs))) := by
    show _ = _
    unfold splitR
    rw [HK.out]
  clear hb3 HL
  generalize mostR rs = mo at *
  by_cases hc : limit < ((28 + mo : Nat) : Int)
  · have e1 : decide (limit < 28 + (mo : Int)) = true := by simp; omega
    have HA : Hid (splitR l limit = .inl 12) := by
      show _ = _
      rw [HSP.out, if_pos hc]
    go_wp2
    refine bodyPost_ret (results_tmp2 rfl _ _ _) rfl ?_
    exact ⟨gtrans g1.out (gbelow B3.out), .inl ⟨12, HA.out, rfl⟩⟩
  · have e1 : decide (limit < 28 + (mo : Int)) = false := by simp; omega
    have HA : Hid (splitR l limit = .inr (chunksR f t b z rs (startsR limit rs))) := by
      show _ = _
      rw [HSP.out, if_neg hc]
    go_wp2_with fail
    have hS3 : W3.heap[w1.heap.size]? = some (.cells #[.int .i64 f, .int .i64 t, .int .i64 b, .int .i64 z, .slice av rs.length cv] 27 (0, 0)) := (B3.out.block _ hz1).trans s1.out
    have HS4 : Hid (∀ w4 : World, Below W3.drew.heap.size W3.drew w4 → w4.heap[w1.heap.size]? = some (.cells #[.int .i64 f, .int .i64 t, .int .i64 b, .int .i64 z, .slice av rs.length cv] 27 (0, 0)) ∧ Below W1.heap.size W1 w4) := fun w4 h => by
      have hb : Below W3.heap.size W3 w4 := (Below.refl _ _).drew.trans h
      exact ⟨(hb.block _ hz3).trans hS3, B3.out.trans (hb.mono B3.out.size)⟩
    have HS5 : Hid (∀ w4 : World, w4.heap[w1.heap.size]? = some (.cells #[.int .i64 f, .int .i64 t, .int .i64 b, .int .i64 z, .slice av rs.length cv] 27 (0, 0)) → (w4.alloc (.cells #[.slice av rs.length cv] 25)).heap[w1.heap.size]? = some (.cells #[.int .i64 f, .int .i64 t, .int .i64 b, .int .i64 z, .slice av rs.length cv] 27 (0, 0))) := fun w4 h => (Below.heap_alloc _ _ _ (Array.getElem?_eq_some_iff.1 h).1).trans h
    have HS6 : Hid (∀ w5 w6 : World, w5.heap[w1.heap.size]? = some (.cells #[.int .i64 f, .int .i64 t, .int .i64 b, .int .i64 z, .slice av rs.length cv] 27 (0, 0)) → Below w5.heap.size w5 w6 → w6.heap[w1.heap.size]? = some (.cells #[.int .i64 f, .int .i64 t, .int .i64 b, .int .i64 z, .slice av rs.length cv] 27 (0, 0))) := fun w5 w6 h hb => (hb.block _ (Array.getElem?_eq_some_iff.1 h).1).trans h
    have HPC : Hid (∀ w4 : World, Below W1.heap.size W1 w4 → _) := fun w4 h => pieces_any z limit (.slice av rs.length cv) rs w4.heap.size (w4.alloc (.cells #[.slice av rs.length cv] 25)) ((R1.out.moved h).moved ((Below.refl _ _).alloc (Nat.le_refl _) _)) (by simp [go_sem]) (by simp) h9 hn hfit hlo hhi
    have HCT : Hid (∀ (w6 : World) (vp : Value) (qs : List (Value × List Rc)) (B : Nat), Own1 25 B w6 vp (qs.map Prod.fst) → qs.map Prod.snd = (cutS limit rs).1 ++ [(cutS limit rs).2.1] → (∀ q ∈ qs, Recs w6.heap.size w6 q.1 q.2) → Calls Tryz.prog 16 #[.agg #[.int .i64 f, .int .i64 t, .int .i64 b, .int .i64 z, .int .i64 rs.length], vp] w6 fun e w' => ∃ a c, e = .returned (.slice a ((chunksR f t b z rs (startsR limit rs)).map texV).length c) ∧ Own1 9 w6.heap.size w' (.slice a ((chunksR f t b z rs (startsR limit rs)).map texV).length c) ((chunksR f t b z rs (startsR limit rs)).map texV) ∧ Below w6.heap.size w6 w') := fun w6 vp qs B h1 h2 h3 => by
      obtain ⟨k1, k2, k3⟩ := pieces_ok z rs limit qs h2 hfit
      refine (chunkTexts_any f t b z rs.length vp qs B w6 h1 h3 (by omega) (by omega) (by omega) h9 (by omega) (by omega) (fun q hq => Nat.le_trans (k2 q hq) hn) k3).mono ?_
      rintro e w' ⟨v', rfl, o, hb⟩
      rw [splitR_cut f t b z rs limit qs h2] at o
      obtain ⟨a, c, rfl⟩ := o.slice
      exact ⟨a, c, rfl, o, hb⟩
    generalize hN : ((chunksR f t b z rs (startsR limit rs)).map texV).length = nT at HCT
    go_region_held3 (fun w' => w'.cell? ⟨w1.heap.size, 0, none⟩ = some (.int .i64 f) ∧ w'.cell? ⟨w1.heap.size, 1, none⟩ = some (.int .i64 t) ∧ w'.cell? ⟨w1.heap.size, 2, none⟩ = some (.int .i64 b) ∧ w'.cell? ⟨w1.heap.size, 3, none⟩ = some (.int .i64 z) ∧ w'.cell? ⟨w1.heap.size, 4, none⟩ = some (.slice av rs.length cv) ∧ w'.heap[w1.heap.size]? = some (.cells #[.int .i64 f, .int .i64 t, .int .i64 b, .int .i64 z, .slice av rs.length cv] 27 (0, 0)))
      (first | with_reducible exact box5_cells hS7 | with_reducible exact box5_cells hS6 | with_reducible exact box5_cells hS5 | with_reducible exact box5_cells hS4 | exact box5_cells hS3)
      (first | (go_at_call 17; refine (headOf_any _ _ _ _ _ _ _ _).mono ?_; rintro e w4 ⟨rfl, hb4⟩; obtain ⟨hS4, hB4⟩ := HS4.out w4 hb4) | (go_at_call 15; refine (values_any _ _ _ _).mono ?_; rintro e w5 ⟨rfl, rfl⟩; have hS5 := HS5.out w4 hS4) | (go_at_call 18; refine (HPC.out w4 hB4).mono ?_; rintro e w6 ⟨vp, qs, rfl, hown6, hqs, hrec6, hb6⟩; have hS6 := HS6.out _ w6 hS5 hb6) | (go_at_call 16; refine (HCT.out w6 vp qs _ hown6 hqs hrec6).mono ?_; rintro e w7 ⟨ta, tc, rfl, o7, hb7⟩; have hS7 := HS6.out w6 w7 hS6 hb7))
    have B6 : Below W1.heap.size W1 w6 := hB4.trans (((Below.refl w4.heap.size w4).alloc (Nat.le_refl _) _).mono hB4.size |>.trans (hb6.mono (by have := hB4.size; simp; omega)))
    have B7 : Below W1.heap.size W1 w7 := B6.trans (hb7.mono B6.size)
    have O7 : Hid (Own1 9 w6.heap.size w7 (.slice ta nT tc) ((chunksR f t b z rs (startsR limit rs)).map texV)) := o7
    have G7 : Hid (w.grownBy w7 none) := gtrans g1.out (gbelow B7)
    have hz6 : w.heap.size ≤ w6.heap.size := Nat.le_trans g1.out.size B6.size
    clear o7 hb7 hown6 hqs hrec6 hb6 B6 B7 hS4 hS5 hS6 hS7
    go_wp2
    refine bodyPost_ret (results_tmp2 rfl _ _ _) rfl ?_
    exact ⟨G7.out, .inr ⟨_, _, HA.out, rfl, O7.out.base hz6⟩⟩
end Go.Proofs.YtdjmhagclcfnfabGreat
