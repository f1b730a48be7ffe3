/- PAll, PAll2, PSort, PComplete, PTurn, PCollect3, PJoined, RJoin, PJoin, Sw, SwOwn, LSplits, LTexts, LJoins, PiecesM, PiecesM2, KPiecesM, Sw2, KPieces, KPieces2 -/
import Derived.Test.YtkmeingnhaomaabRChunkToPRow8
import Derived.Shelf.SlSortCmp.WholeK
import Derived.Shelf.SlicesG.Cmp
import Derived.Shelf.Small.Bits
import Derived.BigQuiet
import Derived.Test.YtkmeingnhaomaabPCollect2
import Derived.Test.YtkmeingnhaomaabTx
import Derived.Test.YtkmeingnhaomaabLOwn2
import Derived.Lib.SmallJoins
import Derived.Test.YtkmeingnhaomaabSplitM
import Derived.Laws.AppendOwnNone
import Derived.Test.YtkmeingnhaomaabLExact2
import Derived.OpenShut
/- The program's readAll of chunks: the inner function. -/
namespace Go.Proofs.Ytkmeingnhaomaab
open Go.RowKit Go.Shelf

theorem made_chunks (n : Nat) : (madeCells #[.int .i64 0, .int .i64 0, .int .i64 0, .int .i64 0, .int .i64 0, .int .i64 0, .int .i64 0, .slice none 0 0] (n * 8)).toList = (List.replicate n pcZero).flatMap pcCells := by
  apply List.ext_getElem?
  intro i
  by_cases hi : i < n * 8
  · have h1 : (madeCells #[.int .i64 0, .int .i64 0, .int .i64 0, .int .i64 0, .int .i64 0, .int .i64 0, .int .i64 0, .slice none 0 0] (n * 8)).toList[i]? = some (#[Value.int .i64 0, .int .i64 0, .int .i64 0, .int .i64 0, .int .i64 0, .int .i64 0, .int .i64 0, .slice none 0 0][i % 8]!) := by
      rw [Array.getElem?_toList]
      simp [madeCells, hi]
    rw [h1]
    have h2 := pcCells_at (List.replicate n pcZero) (i / 8) (by simp; omega) (i % 8) (by omega)
    rw [show i / 8 * 8 + i % 8 = i from by omega] at h2
    rw [h2, List.getElem_replicate]
    rcases (show i % 8 = 0 ∨ i % 8 = 1 ∨ i % 8 = 2 ∨ i % 8 = 3 ∨ i % 8 = 4 ∨ i % 8 = 5 ∨ i % 8 = 6 ∨ i % 8 = 7 by omega) with h | h | h | h | h | h | h | h <;> rw [h] <;> rfl
  · rw [List.getElem?_eq_none (by simp [size_madeCells]; omega), List.getElem?_eq_none (by rw [pcCells_length]; simp; omega)]

/-- The chunks that are read, and their records' lists. -/
def ReadCs (B : Nat) (W : World) (ps : List (Ck × Value)) : Prop := ∀ p ∈ ps, OwnsR B W p.2 p.1.rs

set_option maxRecDepth 100000 in
set_option maxHeartbeats 4000000 in
theorem readAll1_any (Bt Br : Nat) (sv : Value) (ts : List (List UInt8)) (w : World) (hT : Txs w.heap.size w sv ts) (hl : ∀ t ∈ ts, t.length ≤ 4611686018427387904) (hn : ts.length ≤ 100) (ht : w.cell? ⟨Bt, 0, none⟩ = some sv) (hr : w.cell? ⟨Br, 0, none⟩ = some (.func (.func 25) #[] #[])) :
    Calls Try.prog 44 #[.pointer (some ⟨Bt, 0, none⟩), .pointer (some ⟨Br, 0, none⟩)] w fun e w' => w.grownBy w' none ∧
      ((∃ k, chunksOf ts = .inl k ∧ e = .panicked (gave k)) ∨ (∃ ps g, chunksOf ts = .inr (ps.map Prod.fst) ∧ e = .returned (.slice (some ⟨g, 0, none⟩) ts.length ts.length) ∧ OwnsP w.heap.size w' (.slice (some ⟨g, 0, none⟩) ts.length ts.length) ps ∧ ReadCs w.heap.size w' ps)) := by
  obtain ⟨a, c, rfl⟩ := hT.slice
  obtain ⟨i0, hi, hz0, hz1, hz2⟩ := info_parts Try.infoChunk
  have hlt := World.block_lt_of_cell? _ _ ht
  have hlr := World.block_lt_of_cell? _ _ hr
  have hmk : ∀ W : World, (Instr.makeSlice 61 (.int .i64 ts.length) (.int .i64 ts.length)).run Try.prog W = .ok (.slice (some ⟨W.heap.size, 0, none⟩) ts.length ts.length) (W.alloc (.cells (madeCells (Value.agg #[.int .i64 0, .int .i64 0, .int .i64 0, .int .i64 0, .int .i64 0, .int .i64 0, .int .i64 0, .slice none 0 0]).cells (ts.length * 8)) 65)) := by
    intro W
    have := run_make (P := Try.prog) W 61 65 i0 _ Try.underlying61 hi hz0 .i64 .i64 (ts.length : Int) (ts.length : Int) (by omega) (Int.le_refl _) (by rw [hz2]; omega) (by omega)
    rw [hz1, show ((ts.length : Int)).toNat = ts.length from by omega] at this
    exact this
  go_enter Try.func44, Try.ntmps44
  go_wp2
  obtain ⟨M, hM⟩ : ∃ M, M = madeCells #[.int .i64 0, .int .i64 0, .int .i64 0, .int .i64 0, .int .i64 0, .int .i64 0, .int .i64 0, .slice none 0 0] (ts.length * 8) := ⟨_, rfl⟩
  rw [← hM]
  obtain ⟨W1, hW1⟩ : ∃ W1, W1 = w.alloc (.cells M 65) := ⟨_, rfl⟩
  have hg1 : w.grownBy W1 none := by rw [hW1]; exact galloc _ _ _
  have hO1 : OwnsP w.heap.size W1 (.slice (some ⟨w.heap.size, 0, none⟩) ts.length ts.length) ([] ++ List.replicate (ts.length - 0) pcZero) := by
    have hl0 : ([] ++ List.replicate (ts.length - 0) pcZero).length = ts.length := by simp
    refine ⟨pcCells_length _, .inr ⟨w.heap.size, ts.length, M, by rw [hl0], Nat.le_refl _, by rw [hW1]; exact World.alloc_heap_new _ _, by rw [hl0]; exact Nat.le_refl _, Nat.le_trans hn (by decide), by rw [hM, size_madeCells], ?_⟩⟩
    rw [hl0, hM, made_chunks, List.take_of_length_le (by rw [pcCells_length]; simp)]
    simp
  rw [← hW1]
  have HT : Hid (∀ W, w.grownBy W none → Txs W.heap.size W (.slice a ts.length c) ts) := fun W h => Txs.moved hT (below_of_grown h)
  have HTB : Hid (∀ k (_ : k < ts.length), ∃ b off, a = some ⟨b, off, none⟩ ∧ b < w.heap.size) := fun k hk => by
    obtain ⟨b, off, e, h1, _⟩ := Txs.at hT hk
    exact ⟨b, off, e, h1⟩
  have HL : Hid _ := hl
  have HRd : Hid (w.cell? ⟨Br, 0, none⟩ = some (.func (.func 25) #[] #[])) := hr
  clear hM hW1 hmk hz0 hz1 hz2 hi hT hl ht hr
  go_loopw [11] (fun i wr => ∃ (k : Nat) (ps : List (Ck × Value)), k ≤ ts.length ∧ ps.length = k ∧ i = .int .i64 k ∧ OwnsP w.heap.size wr (.slice (some ⟨w.heap.size, 0, none⟩) ts.length ts.length) (ps ++ List.replicate (ts.length - k) pcZero) ∧ chunksOf (ts.take k) = .inr (ps.map Prod.fst) ∧ ReadCs w.heap.size wr ps ∧ w.grownBy wr none) (fun i _ => ts.length - (intOf i).toNat)
  case atStart => exact ⟨0, [], Nat.zero_le _, rfl, rfl, hO1, rfl, (fun p hp => by cases hp), hg1⟩
  case round =>
    obtain ⟨k, ps, hk, hpk, rfl, hO, hcs, hrc, hg⟩ := hrel
    have H_O : Hid (OwnsP w.heap.size wr (.slice (some ⟨w.heap.size, 0, none⟩) ts.length ts.length) (ps ++ List.replicate (ts.length - k) pcZero)) := hO
    have H_C : Hid _ := hcs
    have H_R : Hid (ReadCs w.heap.size wr ps) := hrc
    have H_G : Hid (w.grownBy wr none) := hg
    clear hO hcs hrc hg hO1 hg1
    by_cases hlt2 : k < ts.length
    · obtain ⟨tb, toff, ha, htb, hc⟩ := Txs.at (HT.out wr H_G.out) hlt2
      subst ha
      have hrd : wr.cell? ⟨Br, 0, none⟩ = _ := (World.cell?_of_block (H_G.out.block Br hlr (by simp))).trans HRd.out
      have HRC : Hid (∀ u : Unit, _) := fun _ => readChunk_any ts[k] wr (HL.out _ (List.getElem_mem hlt2))
      have HCE : Hid (∀ e, chunkR ts[k] = .inl e → chunksOf ts = .inl e) := fun e he => by
        have := chunksOf_bad (ts.take k) _ ts[k] (ts.drop (k + 1)) e H_C.out he
        rwa [List.getElem_cons_drop, List.take_append_drop] at this
      have HCO : Hid (∀ cc, chunkR ts[k] = .inr cc → chunksOf (ts.take (k + 1)) = .inr (ps.map Prod.fst ++ [cc])) := fun cc he => by
        rw [List.take_succ_eq_append_getElem hlt2]
        exact chunksOf_ok (ts.take k) _ ts[k] cc H_C.out he
      generalize ts[k] = tk at *
      go_wp2_with fail
      refine (HRC.out ()).mono ?_
      rintro e w2 ⟨hg2, (⟨ke, hke, rfl⟩ | ⟨cc, v, hke, rfl, hown⟩)⟩
      · exact ⟨rfl, gtrans H_G.out hg2, .inl ⟨ke, HCE.out ke hke, rfl⟩⟩
      have hpl : (ps ++ List.replicate (ts.length - k) pcZero).length = ts.length := by simp; omega
      have hO2 : OwnsP w.heap.size w2 (.slice (some ⟨w.heap.size, 0, none⟩) ts.length ts.length) (ps ++ List.replicate (ts.length - k) pcZero) := World.ownsRow.kept H_O.out hg2 (.inr (by simp [Value.ownBlock]))
      obtain ⟨cur, hcur, hcat⟩ := OwnsP.at hO2 (k := k) (by omega)
      have hel : (ps ++ List.replicate (ts.length - k) pcZero)[k]'(by omega) = pcZero := by
        rw [List.getElem_append_right (by omega)]
        simp
      rw [hel] at hcat
      have x0 := boxed_cell (i := k * 8) hcur (hcat 0 _ rfl (by omega))
      have x1 := boxed_cell (i := k * 8 + 1) hcur (hcat 1 _ rfl (by omega))
      have x2 := boxed_cell (i := k * 8 + 2) hcur (hcat 2 _ rfl (by omega))
      have x3 := boxed_cell (i := k * 8 + 3) hcur (hcat 3 _ rfl (by omega))
      have x4 := boxed_cell (i := k * 8 + 4) hcur (hcat 4 _ rfl (by omega))
      have x5 := boxed_cell (i := k * 8 + 5) hcur (hcat 5 _ rfl (by omega))
      have x6 := boxed_cell (i := k * 8 + 6) hcur (hcat 6 _ rfl (by omega))
      have x7 := boxed_cell (i := k * 8 + 7) hcur (hcat 7 _ rfl (by omega))
      have y0 := boxed_frozen (i := k * 8) hcur
      have y1 := boxed_frozen (i := k * 8 + 1) hcur
      have y2 := boxed_frozen (i := k * 8 + 2) hcur
      have y3 := boxed_frozen (i := k * 8 + 3) hcur
      have y4 := boxed_frozen (i := k * 8 + 4) hcur
      have y5 := boxed_frozen (i := k * 8 + 5) hcur
      have y6 := boxed_frozen (i := k * 8 + 6) hcur
      have y7 := boxed_frozen (i := k * 8 + 7) hcur
      have O2 : Hid (OwnsP w.heap.size w2 (.slice (some ⟨w.heap.size, 0, none⟩) ts.length ts.length) (ps ++ List.replicate (ts.length - k) pcZero)) := hO2
      have HOW : Hid (OwnsR wr.heap.size w2 v cc.rs) := hown
      have G2 : Hid (w.grownBy w2 none) := gtrans H_G.out hg2
      have RC2 : Hid (ReadCs w.heap.size w2 ps) := fun p hp => OwnsR.keptN (H_R.out p hp) hg2
      have HCC : Hid _ := HCO.out cc hke
      have HCU : Hid _ := hcur
      obtain ⟨va, vn, vc, rfl⟩ : ∃ a ln cp, v = .slice a ln cp := by
        rcases hown.2 with ⟨rfl, _⟩ | ⟨g, cap, cur, rfl, _⟩
        · exact ⟨_, _, _, rfl⟩
        · exact ⟨_, _, _, rfl⟩
      clear hO2 hcur hcat hel hown hg2 hke HCE HCO
      have HGS : Hid (w2.grownBy ((((((((w2.setCell ⟨w.heap.size, k * 8, none⟩ (.int .i64 cc.f)).setCell ⟨w.heap.size, k * 8 + 1, none⟩ (.int .i64 cc.t)).setCell ⟨w.heap.size, k * 8 + 2, none⟩ (.int .i64 cc.b)).setCell ⟨w.heap.size, k * 8 + 3, none⟩ (.int .i64 cc.z)).setCell ⟨w.heap.size, k * 8 + 4, none⟩ (.int .i64 cc.all)).setCell ⟨w.heap.size, k * 8 + 5, none⟩ (.int .i64 cc.nu)).setCell ⟨w.heap.size, k * 8 + 6, none⟩ (.int .i64 cc.many)).setCell ⟨w.heap.size, k * 8 + 7, none⟩ (.slice va vn vc)) (some w.heap.size)) := gtrans (gtrans (gtrans (gtrans (gtrans (gtrans (gtrans (gset w2 w.heap.size (k * 8) (.int .i64 cc.f)) (gset _ w.heap.size _ _)) (gset _ w.heap.size _ _)) (gset _ w.heap.size _ _)) (gset _ w.heap.size _ _)) (gset _ w.heap.size _ _)) (gset _ w.heap.size _ _)) (gset _ w.heap.size _ _)
      have HKR : Hid (∀ (W' : World) (v : Value) (rs : List Rc), w2.grownBy W' (some w.heap.size) → OwnsR w.heap.size w2 v rs → OwnsR w.heap.size W' v rs) := fun W' v rs hg h => row_beside h hg (fun r e => by cases e; exact ⟨_, HCU.out⟩) (by decide)
      go_wp2
      refine ⟨⟨k + 1, ps ++ [(cc, .slice va vn vc)], by omega, by simp [hpk], by go_num, ?_, ?_, ?_, gfresh (gfresh (gfresh (gfresh (gfresh (gfresh (gfresh (gfresh (G2.out) (Nat.le_refl _)) (Nat.le_refl _)) (Nat.le_refl _)) (Nat.le_refl _)) (Nat.le_refl _)) (Nat.le_refl _)) (Nat.le_refl _)) (Nat.le_refl _)⟩, by simp [intOf]; omega⟩
      · have h := OwnsP.set O2.out k (by omega) (cc, .slice va vn vc)
        have e : (ps ++ List.replicate (ts.length - k) pcZero).set k (cc, .slice va vn vc) = (ps ++ [(cc, .slice va vn vc)]) ++ List.replicate (ts.length - (k + 1)) pcZero := by
          rw [List.set_append_right _ _ (by omega), hpk, Nat.sub_self, show ts.length - k = (ts.length - (k + 1)) + 1 from by omega, List.replicate_succ, List.set_cons_zero, List.append_assoc]
          rfl
        rw [e] at h
        exact h
      · rw [HCC.out, List.map_append]
        rfl
      · intro q hq
        rw [List.mem_append, List.mem_singleton] at hq
        refine HKR.out _ _ _ HGS.out ?_
        rcases hq with hq | rfl
        · exact RC2.out q hq
        · exact OwnsR.base HOW.out H_G.out.size
    · obtain rfl : k = ts.length := by omega
      go_wp2
      go_ret
      have hO := H_O.out
      rw [Nat.sub_self, List.replicate_zero, List.append_nil] at hO
      have hc := H_C.out
      rw [List.take_length] at hc
      exact ⟨H_G.out, .inr ⟨ps, w.heap.size, hc, rfl, hO, H_R.out⟩⟩
end Go.Proofs.Ytkmeingnhaomaab
/- The program's readAll of chunks. -/
namespace Go.Proofs.Ytkmeingnhaomaab
open Go.RowKit Go.Shelf

set_option maxRecDepth 100000 in
set_option maxHeartbeats 400000 in
theorem catchC_panicking (b : Nat) (x : Int) (k : Int) (w : World) (hc : w.cell? ⟨b, 0, none⟩ = some (.int .i64 x)) (hz : w.frozen? ⟨b, 0, none⟩ = false) :
    CallsD Try.prog 65 #[.pointer (some ⟨b, 0, none⟩)] (.panicking (gave k)) w fun e u' w' =>
      e = .returned (.tuple #[]) ∧ u' = .panicking [{ v := .iface 30 (.int .i64 k), recovered := true }] ∧ w' = w.setCell ⟨b, 0, none⟩ (.int .i64 k) := by
  refine callsD_of_wpS Try.func65 rfl fun c₀ cs hu => ?_
  simp only [Try.ntmps65, List.size_toArray, List.length_cons, List.length_nil, Nat.reduceAdd, Nat.reduceSub, Array.replicate_succ, Array.replicate_zero, List.push_toArray, List.append_toArray, List.nil_append, List.cons_append]
  apply wpS_seq
  apply wpS_region
  simp [wpOpsS, go_sem, recoverD, hu, Exit.thenS, gave]
  refine wpS_of_wp ?_
  go_wp2_with (go_at_call 30; refine (reason_any _ _).mono ?_; rintro e w1 ⟨rfl, rfl⟩)
  exact ⟨rfl, _, rfl, _, results_none rfl _ _ _, rfl, rfl, rfl⟩

set_option maxRecDepth 100000 in
set_option maxHeartbeats 400000 in
theorem catchC_idle (b : Nat) (w : World) :
    CallsD Try.prog 65 #[.pointer (some ⟨b, 0, none⟩)] .returning w fun e u' w' => e = .returned (.tuple #[]) ∧ u' = .returning ∧ w' = w := by
  refine callsD_of_wpS Try.func65 rfl fun c₀ cs hu => ?_
  simp only [Try.ntmps65, List.size_toArray, List.length_cons, List.length_nil, Nat.reduceAdd, Nat.reduceSub, Array.replicate_succ, Array.replicate_zero, List.push_toArray, List.append_toArray, List.nil_append, List.cons_append]
  apply wpS_seq
  apply wpS_region
  simp [wpOpsS, go_sem, recoverD, hu, Exit.thenS]
  refine wpS_of_wp ?_
  go_wp2
  cases c₀
  simp only at hu
  subst hu
  exact ⟨rfl, _, rfl, _, results_none rfl _ _ _, rfl, rfl, rfl⟩

theorem row_set {B sz n : Nat} {e : TypeId} {W : World} {v x : Value} {xs : List Value} {k o : Nat} (h : W.ownsRow B e sz v n xs) (hk : k < B) : (W.setCell ⟨k, o, none⟩ x).ownsRow B e sz v n xs := by
  refine World.ownsRow.kept h (gset W k o x) ?_
  rcases h.2 with ⟨rfl, _⟩ | ⟨g, cap, cur, rfl, hbg, _⟩
  · exact .inl rfl
  · refine .inr fun e => ?_
    have : g = k := by simpa [Value.ownBlock] using e
    omega
theorem row_base {B B' sz n : Nat} {e : TypeId} {W : World} {v : Value} {xs : List Value} (h : W.ownsRow B e sz v n xs) (hb : B' ≤ B) : W.ownsRow B' e sz v n xs := by
  refine ⟨h.1, ?_⟩
  rcases h.2 with hn | ⟨g, cap, cur, hv, hbg, rest⟩
  · exact .inl hn
  · exact .inr ⟨g, cap, cur, hv, Nat.le_trans hb hbg, rest⟩

/-- How the reading of chunks ends. -/
def ToldR (ts : List (List UInt8)) (w : World) (e : Ending) (w' : World) : Prop :=
  w.grownBy w' none ∧ ((∃ k, chunksOf ts = .inl k ∧ e = .returned (.tuple #[.slice none 0 0, .int .i64 k])) ∨
    (∃ ps g, chunksOf ts = .inr (ps.map Prod.fst) ∧ e = .returned (.tuple #[.slice (some ⟨g, 0, none⟩) ts.length ts.length, .int .i64 0]) ∧ OwnsP w.heap.size w' (.slice (some ⟨g, 0, none⟩) ts.length ts.length) ps ∧ ReadCs w.heap.size w' ps))

set_option maxRecDepth 100000 in
set_option maxHeartbeats 1000000 in
theorem atFaceC_any (Bt Br : Nat) (sv : Value) (ts : List (List UInt8)) (w : World) (hT : Txs w.heap.size w sv ts) (hl : ∀ t ∈ ts, t.length ≤ 4611686018427387904) (hn : ts.length ≤ 100) (ht : w.cell? ⟨Bt, 0, none⟩ = some sv) (hr : w.cell? ⟨Br, 0, none⟩ = some (.func (.func 25) #[] #[])) :
    Calls Try.prog 43 #[.func (.func 44) #[] #[.pointer (some ⟨Bt, 0, none⟩), .pointer (some ⟨Br, 0, none⟩)]] w (ToldR ts w) := by
  have hmf : ∀ (fn : Fn) (first cap : Array Value) (w : World), (Instr.makeFunc fn first cap).run Try.prog w = .ok (.func fn first cap) w := fun _ _ _ _ => rfl
  have la := World.block_lt_of_cell? _ _ ht
  have lb := World.block_lt_of_cell? _ _ hr
  go_enter_defers Try.func43, Try.ntmps43
  go_wp2_with fail
  obtain ⟨W1, hW1⟩ : ∃ W1, W1 = w.alloc (.cells #[.int .i64 0] 30) := ⟨_, rfl⟩
  rw [← hW1]
  have hg1 : w.grownBy W1 none := by rw [hW1]; exact galloc _ _ _
  have he1 : W1.heap[w.heap.size]? = some (.cells #[.int .i64 0] 30 (0, 0)) := by rw [hW1]; exact World.alloc_heap_new _ _
  have hs1 : W1.heap.size = w.heap.size + 1 := by rw [hW1]; simp
  clear hW1
  have ha1 := (World.cell?_of_block (hg1.block Bt la (by simp))).trans ht
  have hb1 := (World.cell?_of_block (hg1.block Br lb (by simp))).trans hr
  refine (readAll1_any Bt Br sv ts W1 (Txs.moved hT (below_of_grown hg1)) hl hn ha1 hb1).mono ?_
  rintro e W2 ⟨hg2, hcase⟩
  have he2 := (hg2.block w.heap.size (by omega) (by simp)).trans he1
  have G2 : Hid (w.grownBy W2 none) := gtrans hg1 hg2
  have hlt2 : w.heap.size < W2.heap.size := by have := hg2.size; omega
  have e0 := boxed_cell (i := 0) (v := .int .i64 0) he2 rfl
  have ef := boxed_frozen (i := 0) he2
  clear hg1 hg2 he1 ha1 hb1 ht hr hT
  rcases hcase with ⟨k, hk, rfl⟩ | ⟨ps, g, hk, rfl, hown, hrc⟩
  · show Leaves _ _ _ _ _ _ _
    refine leaves_cons (f := 65) (args := #[.pointer (some ⟨w.heap.size, 0, none⟩)]) (by simp) (by simp [go_sem]) ?_
    refine (catchC_panicking w.heap.size 0 k W2 e0 ef).mono ?_
    rintro e u' w'' ⟨rfl, rfl, rfl⟩
    have he3 := block_set (i := 0) he2 (.int .i64 k)
    have e3 := boxed_cell (i := 0) (v := .int .i64 k) he3 rfl
    refine ⟨.tuple #[.slice none 0 0, .int .i64 k], ?_, ?_⟩
    · clear he3 he2
      simp [results, Try.results43, go_sem, e3]
    · exact ⟨gfresh G2.out (by omega), .inl ⟨k, hk, rfl⟩⟩
  · have HO : Hid (OwnsP W1.heap.size W2 (.slice (some ⟨g, 0, none⟩) ts.length ts.length) ps) := hown
    have HC : Hid (ReadCs W1.heap.size W2 ps) := hrc
    have HP : Hid _ := hk
    clear he2 hown hk hrc
    go_wp2
    show Leaves _ _ _ _ _ _ _
    refine leaves_cons (f := 65) (args := #[.pointer (some ⟨w.heap.size, 0, none⟩)]) (by simp) (by simp [go_sem]) ?_
    refine (catchC_idle w.heap.size _).mono ?_
    rintro e u' w'' ⟨rfl, rfl, rfl⟩
    refine ⟨.tuple #[.slice (some ⟨g, 0, none⟩) ts.length ts.length, .int .i64 0], ?_, ?_⟩
    · simp [results, Try.results43, go_sem, e0]
    · refine ⟨gfresh G2.out (by omega), .inr ⟨ps, g, HP.out, rfl, ?_, fun p hp => ?_⟩⟩
      · exact row_base (row_set HO.out (by omega)) (by omega)
      · exact row_base (row_set (HC.out p hp) (by omega)) (by omega)

set_option maxRecDepth 100000 in
set_option maxHeartbeats 1000000 in
theorem readAll_any (sv : Value) (ts : List (List UInt8)) (w : World) (hT : Txs w.heap.size w sv ts) (hl : ∀ t ∈ ts, t.length ≤ 4611686018427387904) (htl : ts.length ≤ 4611686018427387904) :
    Calls Try.prog 24 #[sv, .int .i64 100, .func (.func 25) #[] #[]] w fun e w' =>
      ((ts.length < 1 ∨ 100 < ts.length) ∧ w.grownBy w' none ∧ e = .returned (.tuple #[.slice none 0 0, .int .i64 1])) ∨ (1 ≤ ts.length ∧ ts.length ≤ 100 ∧ ToldR ts w e w') := by
  have hmf : ∀ (fn : Fn) (first cap : Array Value) (w : World), (Instr.makeFunc fn first cap).run Try.prog w = .ok (.func fn first cap) w := fun _ _ _ _ => rfl
  obtain ⟨a, c, rfl⟩ := hT.slice
  have HT : Hid (∀ W, w.grownBy W none → Txs W.heap.size W (.slice a ts.length c) ts) := fun W h => Txs.moved hT (below_of_grown h)
  have HL : Hid _ := hl
  clear hT hl
  go_enter Try.func24, Try.ntmps24
  go_wp2_with fail
  obtain ⟨W1, hW1⟩ : ∃ W1, W1 = (w.alloc (.cells #[.slice a ts.length c] 37)).alloc (.cells #[.func (.func 25) #[] #[]] 66) := ⟨_, rfl⟩
  have hg1 : w.grownBy W1 none := by rw [hW1]; exact gallocR (galloc _ _ _) _
  have ha1 : W1.heap[w.heap.size]? = some (.cells #[.slice a ts.length c] 37 (0, 0)) := by rw [hW1]; exact (Below.heap_alloc _ _ _ (by simp)).trans (World.alloc_heap_new _ _)
  have hb1 : W1.heap[w.heap.size + 1]? = some (.cells #[.func (.func 25) #[] #[]] 66 (0, 0)) := by
    rw [hW1]
    have h := World.alloc_heap_new (w.alloc (.cells #[.slice a ts.length c] 37)) (.cells #[.func (.func 25) #[] #[]] 66)
    rwa [World.size_alloc] at h
  rw [← hW1]
  clear hW1
  refine (within_any _ _ _ _).mono ?_
  rintro e w2 ⟨rfl, rfl⟩
  have G1 : Hid (w.grownBy w2 none) := hg1
  by_cases hc : 1 ≤ ts.length ∧ ts.length ≤ 100
  · have e1 : win (ts.length : Int) 1 100 = true := (win_iff _ _ _).2 ⟨by omega, by omega⟩
    have HF : Hid (∀ u : Unit, _) := fun _ => atFaceC_any w.heap.size (w.heap.size + 1) (.slice a ts.length c) ts w2 (HT.out _ hg1) HL.out hc.2 (boxed_cell ha1 rfl) (boxed_cell hb1 rfl)
    clear hg1 ha1 hb1
    go_wp2_with fail
    refine (HF.out ()).mono ?_
    rintro e w3 ⟨hg3, (⟨k, hk, rfl⟩ | ⟨ps, g, hk, rfl, hown, hrc⟩)⟩
    · have HP : Hid _ := hk
      have G3 : Hid (w.grownBy w3 none) := gtrans G1.out hg3
      clear hk hg3
      go_wp2
      refine bodyPost_ret (results_tmp2 rfl _ _ _) rfl ?_
      exact .inr ⟨hc.1, hc.2, G3.out, .inl ⟨k, HP.out, rfl⟩⟩
    · have HP : Hid _ := hk
      have G3 : Hid (w.grownBy w3 none) := gtrans G1.out hg3
      have HO : Hid (OwnsP w2.heap.size w3 (.slice (some ⟨g, 0, none⟩) ts.length ts.length) ps) := hown
      have HC : Hid (ReadCs w2.heap.size w3 ps) := hrc
      clear hk hg3 hown hrc
      go_wp2
      refine bodyPost_ret (results_tmp2 rfl _ _ _) rfl ?_
      exact .inr ⟨hc.1, hc.2, G3.out, .inr ⟨ps, g, HP.out, rfl, row_base HO.out G1.out.size, fun p hp => row_base (HC.out p hp) G1.out.size⟩⟩
  · have e1 : win (ts.length : Int) 1 100 = false := (win_not _ _ _).2 (by omega)
    clear hg1 ha1 hb1
    go_wp2
    refine bodyPost_ret (results_tmp2 rfl _ _ _) rfl ?_
    exact .inl ⟨by omega, G1.out, rfl⟩
end Go.Proofs.Ytkmeingnhaomaab
/- The program's sort of chunks. -/
namespace Go.Proofs.Ytkmeingnhaomaab
open Go.Shelf Go.RowKit Go.Lib Go.Sort
def Try.sortCk_ren : Go.Shelf.Ren := ⟨fun | 6 => 46 | 15 => 68 | 14 => 67 | 28 => 86 | 29 => 87 | 20 => 78 | 21 => 79 | 22 => 80 | 23 => 81 | 24 => 82 | 25 => 83 | 26 => 84 | 27 => 85 | 46 => 89 | 47 => 90 | 48 => 91 | 49 => 92 | 50 => 93 | 57 => 95 | n => n, fun | 22 => 61 | 24 => 65 | 25 => 91 | 3 => 3 | 39 => 107 | 0 => 0 | 53 => 103 | 55 => 123 | 4 => 4 | 46 => 115 | 45 => 114 | 50 => 119 | 5 => 5 | 9 => 9 | 66 => 125 | 70 => 129 | 76 => 131 | 77 => 23 | n => n, fun | n => n⟩
theorem Try.sortCk : Go.Proofs.SlLaysF0.n6 Try.prog Try.sortCk_ren := {
  mixed := by kernel_rfl
  f6 := ⟨Try.f46.name, by decide, Try.func46.trans (congrArg some (by kernel_rfl))⟩
  f14 := ⟨Try.f67.name, by decide, Try.func67.trans (congrArg some (by kernel_rfl))⟩
  f15 := Try.func68.trans (congrArg some (by kernel_rfl))
  f20 := ⟨Try.f78.name, by decide, Try.func78.trans (congrArg some (by kernel_rfl))⟩
  f21 := ⟨Try.f79.name, by decide, Try.func79.trans (congrArg some (by kernel_rfl))⟩
  f22 := ⟨Try.f80.name, by decide, Try.func80.trans (congrArg some (by kernel_rfl))⟩
  f23 := ⟨Try.f81.name, by decide, Try.func81.trans (congrArg some (by kernel_rfl))⟩
  f24 := ⟨Try.f82.name, by decide, Try.func82.trans (congrArg some (by kernel_rfl))⟩
  f25 := ⟨Try.f83.name, by decide, Try.func83.trans (congrArg some (by kernel_rfl))⟩
  f26 := ⟨Try.f84.name, by decide, Try.func84.trans (congrArg some (by kernel_rfl))⟩
  f27 := ⟨Try.f85.name, by decide, Try.func85.trans (congrArg some (by kernel_rfl))⟩
  f28 := Try.func86.trans (congrArg some (by kernel_rfl))
  f29 := Try.func87.trans (congrArg some (by kernel_rfl))
  f46 := ⟨Try.f89.name, by decide, Try.func89.trans (congrArg some (by kernel_rfl))⟩
  f47 := Try.func90.trans (congrArg some (by kernel_rfl))
  f48 := Try.func91.trans (congrArg some (by kernel_rfl))
  f49 := ⟨Try.f92.name, by decide, Try.func92.trans (congrArg some (by kernel_rfl))⟩
  f50 := ⟨Try.f93.name, by decide, Try.func93.trans (congrArg some (by kernel_rfl))⟩
  f57 := ⟨Try.f95.name, by decide, Try.func95.trans (congrArg some (by kernel_rfl))⟩
  t0 := Try.underlying0
  a0 := Try.isAgg0
  z0 := Try.sizeOf0
  v0 := Try.zeroValue0
  t3 := Try.underlying3
  a3 := Try.isAgg3
  z3 := Try.sizeOf3
  v3 := Try.zeroValue3
  t4 := Try.underlying4
  a4 := Try.isAgg4
  z4 := Try.sizeOf4
  v4 := Try.zeroValue4
  t5 := Try.underlying5
  a5 := Try.isAgg5
  z5 := Try.sizeOf5
  v5 := Try.zeroValue5
  t9 := Try.underlying9
  a9 := Try.isAgg9
  z9 := Try.sizeOf9
  v9 := Try.zeroValue9
  t22 := Try.underlying61
  a22 := Try.isAgg61
  z22 := Try.sizeOf61
  v22 := Try.zeroValue61
  t25 := Try.underlying91
  a25 := Try.isAgg91
  z25 := Try.sizeOf91
  v25 := Try.zeroValue91
  t39 := Try.underlying107
  a39 := Try.isAgg107
  z39 := Try.sizeOf107
  v39 := Try.zeroValue107
  t45 := Try.underlying114
  a45 := Try.isAgg114
  z45 := Try.sizeOf114
  v45 := Try.zeroValue114
  t46 := Try.underlying115
  a46 := Try.isAgg115
  z46 := Try.sizeOf115
  v46 := Try.zeroValue115
  t50 := Try.underlying119
  a50 := Try.isAgg119
  z50 := Try.sizeOf119
  v50 := Try.zeroValue119
  t53 := Try.underlying103
  a53 := Try.isAgg103
  z53 := Try.sizeOf103
  v53 := Try.zeroValue103
  t55 := Try.underlying123
  a55 := Try.isAgg123
  z55 := Try.sizeOf123
  v55 := Try.zeroValue123
  t66 := Try.underlying125
  a66 := Try.isAgg125
  z66 := Try.sizeOf125
  v66 := Try.zeroValue125
  t70 := Try.underlying129
  a70 := Try.isAgg129
  z70 := Try.sizeOf129
  v70 := Try.zeroValue129
  t76 := Try.underlying131
  a76 := Try.isAgg131
  z76 := Try.sizeOf131
  v76 := Try.zeroValue131
  t77 := Try.underlying23
  a77 := Try.isAgg23
  z77 := Try.sizeOf23
  v77 := Try.zeroValue23 }
def Try.cmpInt_ren : Go.Shelf.Ren := ⟨fun | 5 => 48 | 7 => 69 | n => n, fun | 22 => 3 | 3 => 3 | 4 => 4 | n => n, fun | n => n⟩
theorem Try.cmpInt : Go.Proofs.SlLaysC2.n5 Try.prog Try.cmpInt_ren := {
  mixed := by kernel_rfl
  f5 := ⟨Try.f48.name, by decide, Try.func48.trans (congrArg some (by kernel_rfl))⟩
  f7 := ⟨Try.f69.name, by decide, Try.func69.trans (congrArg some (by kernel_rfl))⟩
  t3 := Try.underlying3
  a3 := Try.isAgg3
  z3 := Try.sizeOf3
  v3 := Try.zeroValue3
  t4 := Try.underlying4
  a4 := Try.isAgg4
  z4 := Try.sizeOf4
  v4 := Try.zeroValue4
  t22 := Try.underlying3
  a22 := Try.isAgg3
  z22 := Try.sizeOf3
  v22 := Try.zeroValue3 }

/-- A chunk with its list's header. -/
abbrev Sk := Ck × (Option Addr × Nat × Nat)
instance : Inhabited Sk := ⟨(⟨0, 0, 0, 0, 0, 0, 0, []⟩, none, 0, 0)⟩
def skP (x : Sk) : Ck × Value := (x.1, .slice x.2.1 x.2.2.1 x.2.2.2)
def skE (x : Sk) : List Value := pcCells (skP x)
def skC (x y : Sk) : Int := Lib.compareInt x.1.nu y.1.nu

theorem sk_lt (x y : Sk) : ltOf skC x y = decide (x.1.nu < y.1.nu) := by
  unfold ltOf skC Lib.compareInt
  by_cases h1 : x.1.nu < y.1.nu
  · simp [h1]
  · by_cases h2 : y.1.nu < x.1.nu <;> simp [h1, h2]
theorem sk_swo : SWO (ltOf skC) where
  irrefl x := by rw [sk_lt]; simp
  trans x y z h1 h2 := by rw [sk_lt] at *; simp at *; omega
  ntrans x y z h1 h2 := by rw [sk_lt] at *; simp at *; omega

set_option maxRecDepth 100000 in
set_option maxHeartbeats 1000000 in
theorem joined1_any (x y : Sk) (W : World) : Calls Try.prog 47 #[.agg (skE x).toArray, .agg (skE y).toArray] W fun e w' => e = .returned (.int .i64 (skC x y)) ∧ ∃ q os', w' = grow (W.drewN q) os' := by
  obtain ⟨⟨f1, t1, b1, z1, a1, n1, m1, r1⟩, xa, xl, xc⟩ := x
  obtain ⟨⟨f2, t2, b2, z2, a2, n2, m2, r2⟩, ya, yl, yc⟩ := y
  have hcon := fun W' => AnyG.cmp_Compare_int Try.cmpInt (n1 : Int) (n2 : Int) W'
  change ∀ W', Calls Try.prog 48 _ _ _ at hcon
  have HC : Hid _ := hcon
  clear hcon
  show Calls Try.prog 47 #[.agg #[.int .i64 f1, .int .i64 t1, .int .i64 b1, .int .i64 z1, .int .i64 a1, .int .i64 n1, .int .i64 m1, .slice xa xl xc], .agg #[.int .i64 f2, .int .i64 t2, .int .i64 b2, .int .i64 z2, .int .i64 a2, .int .i64 n2, .int .i64 m2, .slice ya yl yc]] W fun e w' => e = .returned (.int .i64 (Lib.compareInt n1 n2)) ∧ ∃ q os', w' = grow (W.drewN q) os'
  generalize Lib.compareInt (n1 : Int) (n2 : Int) = r at *
  go_enter Try.func47, Try.ntmps47
  go_wp2_with fail
  refine (HC.out _).mono ?_
  rintro e w' ⟨rfl, rfl⟩
  go_wp2
  go_ret
  exact ⟨rfl, 0, _, by rw [alloc_eq_grow, alloc_eq_grow, grow_grow]; rfl⟩

theorem sk_flat (xs : List Sk) : (flatK skE 8 xs.toArray).toList = (xs.map skP).flatMap pcCells := by
  apply List.ext_getElem?
  intro i
  by_cases hi : i < xs.length * 8
  · have hd : i / 8 < xs.length := by omega
    have h2 := pcCells_at (xs.map skP) (i / 8) (by simp; omega) (i % 8) (by omega)
    rw [show i / 8 * 8 + i % 8 = i from by omega] at h2
    rw [h2, Array.getElem?_toList]
    have hd2 : i / 8 < (xs.map skP).length := by simpa using hd
    have h3 : (pcCells ((xs.map skP)[i / 8]'hd2)).length = 8 := rfl
    simp only [flatK, List.size_toArray, Array.getElem?_map, Array.getElem?_range, hi, if_true, Option.map_some]
    rw [List.getElem!_toArray, getElem!_pos xs (i / 8) hd, List.getElem?_eq_getElem (by rw [h3]; omega), getElem!_pos (skE xs[i / 8]) (i % 8) (show i % 8 < 8 by omega)]
    simp [skE]
  · rw [List.getElem?_eq_none (by simp; omega), List.getElem?_eq_none (by rw [pcCells_length]; simp; omega)]

theorem holds_sk {w : World} {g : Nat} {cur : Array Value} {e : TypeId} {xs : List Sk} (hb : w.heap[g]? = some (.cells cur e (0, 0))) (ht : cur.toList.take (xs.length * 8) = (xs.map skP).flatMap pcCells) : HoldsK skE 8 w g 0 xs.toArray := by
  intro j hj
  have hj' : j < xs.length * 8 := by simpa using hj
  refine ⟨?_, by simp [World.frozen?, hb]⟩
  have h1 : (cur.toList.take (xs.length * 8))[j]? = (flatK skE 8 xs.toArray).toList[j]? := by rw [ht, sk_flat]
  rw [List.getElem?_take_of_lt hj', Array.getElem?_toList, Array.getElem?_toList] at h1
  rw [Nat.zero_add]
  refine boxed_cell hb ?_
  rw [h1, getElem!_pos _ j hj, Array.getElem?_eq_getElem hj]
  rfl

theorem heap_sk {w : World} {g n : Nat} {os : Array Obj} {cur : Array Value} {e : TypeId} {fr : Nat × Nat} (d : Array Sk) (hb : w.heap[g]? = some (.cells cur e fr)) :
    (sortWorldK skE 8 w g 0 n d os).heap[g]? = some (.cells (putCells id 0 (flatK skE 8 d) cur) e fr) := by
  have hg : g < w.heap.size := (Array.getElem?_eq_some_iff.1 hb).1
  unfold sortWorldK putRowK
  rw [heap_grow_old _ _ (by simpa using hg)]
  simp [putRow, mapBlock, Sort.ahead, Array.getElem?_modify, hb, onCells]
theorem grown_sk {w : World} {g n : Nat} {os : Array Obj} (d : Array Sk) : w.grownBy (sortWorldK skE 8 w g 0 n d os) (some g) := by
  refine ⟨rfl, rfl, rfl, by unfold sortWorldK putRowK; simp, fun k hk hne => ?_⟩
  unfold sortWorldK putRowK
  rw [heap_grow_old _ _ (by simpa using hk)]
  have : g ≠ k := fun e => hne (by rw [e])
  simp [putRow, mapBlock, Sort.ahead, Array.getElem?_modify, this]
theorem take_sk (cur F : Array Value) (h : F.size ≤ cur.size) : (putCells id 0 F cur).toList.take F.size = F.toList := by
  apply List.ext_getElem?
  intro j
  by_cases hj : j < F.size
  · rw [List.getElem?_take_of_lt hj, Array.getElem?_toList, Array.getElem?_toList]
    simp [putCells, hj, show j < cur.size by omega]
  · rw [List.getElem?_take_eq_none (by omega), List.getElem?_eq_none (by simpa using hj)]

/-- **The sort of chunks by their numbers.** -/
theorem sort_any (g cap B : Nat) (xs : List Sk) (w : World) (h : OwnsP B w (.slice (some ⟨g, 0, none⟩) xs.length cap) (xs.map skP)) (hn : xs.length ≤ 100) :
    Calls Try.prog 46 #[.slice (some ⟨g, 0, none⟩) xs.length cap, .func (.func 47) #[] #[]] w fun e w' => e = .returned (.tuple #[]) ∧
      ∃ ys : List Sk, ys.Perm xs ∧ ys.Pairwise (fun a b => a.1.nu ≤ b.1.nu) ∧ OwnsP B w' (.slice (some ⟨g, 0, none⟩) xs.length cap) (ys.map skP) ∧ w.grownBy w' (some g) := by
  rcases h.2 with ⟨e0, h0⟩ | ⟨g', cap', cur, e0, hb, hg, hc, hm, hs, ht⟩
  · cases e0
  have e1 := e0
  simp only [Value.slice.injEq, Option.some.injEq, Addr.mk.injEq] at e1
  obtain ⟨⟨rfl, -, -⟩, -, rfl⟩ := e1
  rw [List.length_map] at hc ht
  have eg : ∀ args w, (callFunc 47 args).run Try.prog w = .ok (.enter 47 args) w := enters_of Try.func47 (by kernel_rfl) rfl
  have hlays : CmpLays Try.prog 47 #[] skE 8 skC g 0 xs.toArray.size w := fun _ _ _ _ x y => joined1_any x y _
  have hcon := AnyQ.slices_SortFunc Try.sortCk 8 Try.isAgg65 Try.sizeOf65 skE (fun _ => rfl) (fun x v hv => by simp [skE, pcCells, skP] at hv; rcases hv with rfl | rfl | rfl | rfl | rfl | rfl | rfl | rfl <;> rfl) skC sk_swo 47 #[] g 0 cap xs.toArray w eg hlays (holds_sk hg ht) ((Array.getElem?_eq_some_iff.1 hg).1) (by simp; omega)
  change Calls Try.prog 46 _ _ _ at hcon
  rw [show xs.toArray.size = xs.length from by simp] at hcon
  refine hcon.mono ?_
  rintro e w' ⟨rfl, d', n, os, hp, hsr, rfl⟩
  have hds : d'.size = xs.length := by rw [hp.1]; simp
  have hperm : d'.toList.Perm xs := by
    have := hp.2.2
    rw [show d'.extract 0 xs.length = d' from by rw [← hds]; simp, show xs.toArray.extract 0 xs.length = xs.toArray from by simp] at this
    simpa using this
  refine ⟨rfl, d'.toList, hperm, ?_, ?_, grown_sk d'⟩
  · rw [List.pairwise_iff_getElem]
    intro i j hi hj hij
    have := hsr i j (Nat.zero_le _) hij (by simpa [hds] using hj)
    rw [sk_lt, getElem!_pos d' j (by simpa using hj), getElem!_pos d' i (by simpa using hi)] at this
    simp only [decide_eq_false_iff_not, Nat.not_lt] at this
    simpa using this
  · have hl : (d'.toList.map skP).length = xs.length := by simp [hds]
    refine ⟨pcCells_length _, .inr ⟨g, cap, _, by rw [hl], hb, heap_sk d' hg, by rw [hl]; exact hc, hm, by simp [putCells, hs], ?_⟩⟩
    have hF : (flatK skE 8 d').toList = (d'.toList.map skP).flatMap pcCells := by
      have := sk_flat d'.toList
      simpa using this
    have hfs : (flatK skE 8 d').size = xs.length * 8 := by simp [hds]
    rw [hl, ← hF, ← hfs]
    exact take_sk cur _ (by rw [hfs, hs]; omega)
end Go.Proofs.Ytkmeingnhaomaab
/- The program's complete. -/
namespace Go.Proofs.Ytkmeingnhaomaab
open Go.Shelf Go.RowKit

theorem OwnsP.cells {B : Nat} {W : World} {g l cp : Nat} {ps : List (Ck × Value)} (h : OwnsP B W (.slice (some ⟨g, 0, none⟩) l cp) ps) (k : Nat) (hk : k < ps.length) :
    W.cell? ⟨g, k * 8, none⟩ = some (.int .i64 ps[k].1.f) ∧ W.cell? ⟨g, k * 8 + 1, none⟩ = some (.int .i64 ps[k].1.t) ∧ W.cell? ⟨g, k * 8 + 2, none⟩ = some (.int .i64 ps[k].1.b) ∧ W.cell? ⟨g, k * 8 + 3, none⟩ = some (.int .i64 ps[k].1.z) ∧ W.cell? ⟨g, k * 8 + 4, none⟩ = some (.int .i64 ps[k].1.all) ∧ W.cell? ⟨g, k * 8 + 5, none⟩ = some (.int .i64 ps[k].1.nu) ∧ W.cell? ⟨g, k * 8 + 6, none⟩ = some (.int .i64 ps[k].1.many) ∧ W.cell? ⟨g, k * 8 + 7, none⟩ = some ps[k].2 := by
  obtain ⟨cur, hg, hc⟩ := h.at hk
  exact ⟨boxed_cell hg (hc 0 _ rfl (by omega)), boxed_cell hg (hc 1 _ rfl (by omega)), boxed_cell hg (hc 2 _ rfl (by omega)), boxed_cell hg (hc 3 _ rfl (by omega)), boxed_cell hg (hc 4 _ rfl (by omega)), boxed_cell hg (hc 5 _ rfl (by omega)), boxed_cell hg (hc 6 _ rfl (by omega)), boxed_cell hg (hc 7 _ rfl (by omega))⟩
theorem OwnsP.keptN {B : Nat} {W W' : World} {v : Value} {ps : List (Ck × Value)} (h : OwnsP B W v ps) (hg : W.grownBy W' none) : OwnsP B W' v ps := by
  refine World.ownsRow.kept h hg ?_
  rcases h.2 with ⟨rfl, _⟩ | ⟨g, cap, cur, rfl, _⟩
  · exact .inl rfl
  · exact .inr (by simp [Value.ownBlock])

/-- The k-th chunk is the one that it should be. -/
def ckIs (ps : List (Ck × Value)) (n k : Nat) (p : Ck × Value) : Prop :=
  ∃ a, ps[0]? = some a ∧ (p.1.f = a.1.f ∧ p.1.t = a.1.t ∧ p.1.b = a.1.b ∧ p.1.z = a.1.z ∧ p.1.all = a.1.all) ∧ p.1.many = n ∧ p.1.nu = k
def completeR (ps : List (Ck × Value)) : Prop := ∀ k p, ps[k]? = some p → ckIs ps ps.length k p

set_option maxRecDepth 100000 in
set_option maxHeartbeats 4000000 in
theorem complete_any (g cap B : Nat) (ps : List (Ck × Value)) (w : World) (h : OwnsP B w (.slice (some ⟨g, 0, none⟩) ps.length cap) ps) (hn : ps.length ≤ 100) (h1 : 1 ≤ ps.length) (hsl : ∀ p ∈ ps, ∃ a n c, p.2 = .slice a n c) :
    Calls Try.prog 49 #[.slice (some ⟨g, 0, none⟩) ps.length cap] w fun e w' => w.grownBy w' none ∧ ∃ ok : Bool, e = .returned (.bool ok) ∧ (ok = true ↔ completeR ps) := by
  have HO : Hid (OwnsP B w (.slice (some ⟨g, 0, none⟩) ps.length cap) ps) := h
  have HSL : Hid _ := hsl
  clear h hsl
  go_enter Try.func49, Try.ntmps49
  go_wp2
  go_loopw [7] (fun i wr => ∃ k : Nat, k ≤ ps.length ∧ i = .int .i64 k ∧ (∀ j p, j < k → ps[j]? = some p → ckIs ps ps.length j p) ∧ w.grownBy wr none) (fun i _ => ps.length - (intOf i).toNat)
  case atStart => exact ⟨0, Nat.zero_le _, rfl, fun j p hj => absurd hj (Nat.not_lt_zero _), ⟨rfl, rfl, rfl, Nat.le_refl _, fun _ _ _ => rfl⟩⟩
  case round =>
    obtain ⟨k, hk, rfl, hdone, hg⟩ := hrel
    have H_G : Hid (w.grownBy wr none) := hg
    have H_D : Hid _ := hdone
    have o2 := HO.out.keptN hg
    clear hg hdone
    by_cases hlt : k < ps.length
    · obtain ⟨x0, x1, x2, x3, x4, x5, x6, x7⟩ := o2.cells k hlt
      obtain ⟨a0, a1, a2, a3, a4, -⟩ := o2.cells 0 (by omega)
      obtain ⟨va, vn, vc, hv⟩ := HSL.out ps[k] (List.getElem_mem hlt)
      rw [hv] at x7
      have hgl := World.block_lt_of_cell? _ _ x0
      clear hv
      have HK : Hid (∀ q, ps[k]? = some q → q.1 = ps[k].1) := fun q hq => by
        rw [List.getElem?_eq_getElem hlt] at hq
        cases hq
        rfl
      have HA : Hid (ps[0]? = some (ps[0]'(by omega))) := List.getElem?_eq_getElem _
      generalize hpk : ps[k].1 = cc at *
      generalize hpa : (ps[0]'(by omega)).1 = aa at *
      have hcase : (((cc.f : Int) == (aa.f : Int)) = false) ∨ (((cc.f : Int) == (aa.f : Int)) = true ∧ ((cc.t : Int) == (aa.t : Int)) = false) ∨ (((cc.f : Int) == (aa.f : Int)) = true ∧ ((cc.t : Int) == (aa.t : Int)) = true ∧ ((cc.b : Int) == (aa.b : Int)) = false) ∨ (((cc.f : Int) == (aa.f : Int)) = true ∧ ((cc.t : Int) == (aa.t : Int)) = true ∧ ((cc.b : Int) == (aa.b : Int)) = true ∧ ((cc.z : Int) == (aa.z : Int)) = false) ∨ (((cc.f : Int) == (aa.f : Int)) = true ∧ ((cc.t : Int) == (aa.t : Int)) = true ∧ ((cc.b : Int) == (aa.b : Int)) = true ∧ ((cc.z : Int) == (aa.z : Int)) = true ∧ ((cc.all : Int) == (aa.all : Int)) = false) ∨ (((cc.f : Int) == (aa.f : Int)) = true ∧ ((cc.t : Int) == (aa.t : Int)) = true ∧ ((cc.b : Int) == (aa.b : Int)) = true ∧ ((cc.z : Int) == (aa.z : Int)) = true ∧ ((cc.all : Int) == (aa.all : Int)) = true ∧ ((cc.many : Int) != (ps.length : Int)) = true) ∨ (((cc.f : Int) == (aa.f : Int)) = true ∧ ((cc.t : Int) == (aa.t : Int)) = true ∧ ((cc.b : Int) == (aa.b : Int)) = true ∧ ((cc.z : Int) == (aa.z : Int)) = true ∧ ((cc.all : Int) == (aa.all : Int)) = true ∧ ((cc.many : Int) != (ps.length : Int)) = false ∧ ((cc.nu : Int) != (k : Int)) = true) ∨ (((cc.f : Int) == (aa.f : Int)) = true ∧ ((cc.t : Int) == (aa.t : Int)) = true ∧ ((cc.b : Int) == (aa.b : Int)) = true ∧ ((cc.z : Int) == (aa.z : Int)) = true ∧ ((cc.all : Int) == (aa.all : Int)) = true ∧ ((cc.many : Int) != (ps.length : Int)) = false ∧ ((cc.nu : Int) != (k : Int)) = false) := by
        by_cases e0 : cc.f = aa.f
        · by_cases e1 : cc.t = aa.t
          · by_cases e2 : cc.b = aa.b
            · by_cases e3 : cc.z = aa.z
              · by_cases e4 : cc.all = aa.all
                · by_cases e5 : cc.many = ps.length
                  · by_cases e6 : cc.nu = k
                    · exact .inr (.inr (.inr (.inr (.inr (.inr (.inr (⟨by rw [e0]; simp, by rw [e1]; simp, by rw [e2]; simp, by rw [e3]; simp, by rw [e4]; simp, by rw [e5]; simp, by rw [e6]; simp⟩)))))))
                    · exact .inr (.inr (.inr (.inr (.inr (.inr (.inl ⟨by rw [e0]; simp, by rw [e1]; simp, by rw [e2]; simp, by rw [e3]; simp, by rw [e4]; simp, by rw [e5]; simp, by simp; omega⟩))))))
                  · exact .inr (.inr (.inr (.inr (.inr (.inl ⟨by rw [e0]; simp, by rw [e1]; simp, by rw [e2]; simp, by rw [e3]; simp, by rw [e4]; simp, by simp; omega⟩)))))
                · exact .inr (.inr (.inr (.inr (.inl ⟨by rw [e0]; simp, by rw [e1]; simp, by rw [e2]; simp, by rw [e3]; simp, by simp; omega⟩))))
              · exact .inr (.inr (.inr (.inl ⟨by rw [e0]; simp, by rw [e1]; simp, by rw [e2]; simp, by simp; omega⟩)))
            · exact .inr (.inr (.inl ⟨by rw [e0]; simp, by rw [e1]; simp, by simp; omega⟩))
          · exact .inr (.inl ⟨by rw [e0]; simp, by simp; omega⟩)
        · exact .inl (by simp; omega)
      have HNo : Hid (¬ (cc.f = aa.f ∧ cc.t = aa.t ∧ cc.b = aa.b ∧ cc.z = aa.z ∧ cc.all = aa.all ∧ cc.many = ps.length ∧ cc.nu = k) → ¬ completeR ps) := by
        intro hno hc
        obtain ⟨a, ha, h5, h6, h7⟩ := hc k ps[k] (List.getElem?_eq_getElem hlt)
        rw [HA.out] at ha
        cases ha
        rw [hpk, hpa] at h5
        rw [hpk] at h6 h7
        exact hno ⟨h5.1, h5.2.1, h5.2.2.1, h5.2.2.2.1, h5.2.2.2.2, h6, h7⟩
      have HYes : Hid (cc.f = aa.f ∧ cc.t = aa.t ∧ cc.b = aa.b ∧ cc.z = aa.z ∧ cc.all = aa.all ∧ cc.many = ps.length ∧ cc.nu = k → ∀ j p, j < k + 1 → ps[j]? = some p → ckIs ps ps.length j p) := by
        intro hy j p hj hp
        by_cases hjk : j < k
        · exact H_D.out j p hjk hp
        · obtain rfl : j = k := by omega
          refine ⟨_, HA.out, ?_, ?_, ?_⟩
          · rw [HK.out p hp, hpa]
            exact ⟨hy.1, hy.2.1, hy.2.2.1, hy.2.2.2.1, hy.2.2.2.2.1⟩
          · rw [HK.out p hp]; exact hy.2.2.2.2.2.1
          · rw [HK.out p hp]; exact hy.2.2.2.2.2.2
      clear hpk hpa HK
      obtain ⟨Wc, hWc⟩ : ∃ Wc, Wc = wr.alloc (.cells #[.int .i64 cc.f, .int .i64 cc.t, .int .i64 cc.b, .int .i64 cc.z, .int .i64 cc.all, .int .i64 cc.nu, .int .i64 cc.many, .slice va vn vc] 65) := ⟨_, rfl⟩
      have hgc : wr.grownBy Wc none := by rw [hWc]; exact galloc _ _ _
      have hbc : Wc.heap[wr.heap.size]? = some (.cells #[.int .i64 cc.f, .int .i64 cc.t, .int .i64 cc.b, .int .i64 cc.z, .int .i64 cc.all, .int .i64 cc.nu, .int .i64 cc.many, .slice va vn vc] 65 (0, 0)) := by rw [hWc]; exact World.alloc_heap_new _ _
      have kc : ∀ o, Wc.cell? ⟨g, o, none⟩ = wr.cell? ⟨g, o, none⟩ := fun o => World.cell?_of_block (a := ⟨g, o, none⟩) (hgc.block g hgl (by simp))
      go_wp2
      rw [← hWc]
      clear hWc
      have b0 := (kc _).trans a0
      have b1 := (kc _).trans a1
      have b2 := (kc _).trans a2
      have b3 := (kc _).trans a3
      have b4 := (kc _).trans a4
      have c0 := boxed_cell (i := 0) hbc rfl
      have c1 := boxed_cell (i := 1) hbc rfl
      have c2 := boxed_cell (i := 2) hbc rfl
      have c3 := boxed_cell (i := 3) hbc rfl
      have c4 := boxed_cell (i := 4) hbc rfl
      have c5 := boxed_cell (i := 5) hbc rfl
      have c6 := boxed_cell (i := 6) hbc rfl
      have GC : Hid (w.grownBy Wc none) := gtrans H_G.out hgc
      clear a0 a1 a2 a3 a4 x0 x1 x2 x3 x4 x5 x6 x7 hgc hbc kc o2
      simp only [Nat.zero_mul, Nat.zero_add] at b0 b1 b2 b3 b4
      have hpos : (0 : Int) < (ps.length : Int) := by omega
      have hpos2 : 0 < ps.length := by omega
      have hpos3 : (0 : Int) ≤ 0 := by omega
      rcases hcase with q0 | ⟨q0, q1⟩ | ⟨q0, q1, q2⟩ | ⟨q0, q1, q2, q3⟩ | ⟨q0, q1, q2, q3, q4⟩ | ⟨q0, q1, q2, q3, q4, q5⟩ | ⟨q0, q1, q2, q3, q4, q5, q6⟩ | ⟨q0, q1, q2, q3, q4, q5, q6⟩
      case inr.inr.inr.inr.inr.inr.inr =>
        have hy : cc.f = aa.f ∧ cc.t = aa.t ∧ cc.b = aa.b ∧ cc.z = aa.z ∧ cc.all = aa.all ∧ cc.many = ps.length ∧ cc.nu = k := by
          simp only [beq_iff_eq, bne_eq_false_iff_eq] at q0 q1 q2 q3 q4 q5 q6
          omega
        have HY : Hid _ := HYes.out hy
        clear hy HYes HNo
        go_quiet (fail)
        go_wp2
        go_roundw
        case rel => exact ⟨k + 1, by omega, by go_num, HY.out, gdrewR GC.out _⟩
        case measure => simp [intOf]; omega
      all_goals
        have hno : ¬ (cc.f = aa.f ∧ cc.t = aa.t ∧ cc.b = aa.b ∧ cc.z = aa.z ∧ cc.all = aa.all ∧ cc.many = ps.length ∧ cc.nu = k) := by
          rintro ⟨h0, h1, h2, h3, h4, h5, h6⟩
          simp_all
        have HN : Hid (¬ completeR ps) := HNo.out hno
        clear hno HYes HNo
        go_quiet (fail)
        go_wp2
        go_ret
        exact ⟨gdrewR GC.out _, false, rfl, by simpa using HN.out⟩
    · obtain rfl : k = ps.length := by omega
      go_wp2
      go_ret
      exact ⟨H_G.out, true, rfl, by simp; exact fun j p hp => H_D.out j p (by have := List.getElem?_eq_some_iff.1 hp; exact this.1) hp⟩
end Go.Proofs.Ytkmeingnhaomaab
/- The program's inTurn: the records of the chunks, one behind the other. -/
namespace Go.Proofs.Ytkmeingnhaomaab
open Go.Shelf Go.RowKit

attribute [local go_sem] Oper.semAt_some

theorem kept_size {M : Nat} {W W' : World} (hM : M ≤ W.heap.size) (h : KeptOn (fun k => k < M) W W') : M ≤ W'.heap.size := by
  by_cases h0 : M = 0
  · omega
  · have := h.lt (fun k hk => by omega) (M - 1) (by omega)
    omega
def turnR (ps : List (Ck × Value)) : List Rc := ps.flatMap (fun p => p.1.rs)

set_option maxHeartbeats 1000000 in
theorem inTurn_any (a : Option Addr) (len cap : Nat) (w : World) :
    Calls Try.prog 51 #[.slice a len cap] w fun e w' => e = .returned (.func (.func 70) #[] #[.pointer (some ⟨w.heap.size, 0, none⟩)]) ∧ w' = w.alloc (.cells #[.slice a len cap] 61) := by
  have hmf : ∀ (fn : Fn) (first cap : Array Value) (w : World), (Instr.makeFunc fn first cap).run Try.prog w = .ok (.func fn first cap) w := fun _ _ _ _ => rfl
  go_enter Try.func51, Try.ntmps51
  go_wp2
  go_ret
  exact ⟨rfl, rfl⟩

set_option maxRecDepth 100000 in
set_option maxHeartbeats 2000000 in
theorem inTurn1_in (n : Nat) (hn : 1 ≤ n) (l Bs g cap M : Nat) (ps : List (Ck × Value)) (hlen : ps.length ≤ 100) (hreach : ∀ p ∈ ps, p.1.rs.length ≤ 1000) (J Jx : List Rc → World → Prop)
    (W : World) (hJ : OwnIt none W.heap.size J) (hM : M ≤ W.heap.size)
    (hY : ∀ pre x W, J pre W → pre ++ [x] <+: turnR ps → YieldAt Fence.wide (n - 1) Try.prog l #[.agg #[.bool x.free, .int .i64 x.block, .string x.data]] W fun e W' =>
      (e = .returned (.bool true) ∧ J (pre ++ [x]) W' ∧ KeptOn (fun k => k < M) W W') ∨ (e = .returned (.bool false) ∧ Jx (pre ++ [x]) W'))
    (hBs : W.cell? ⟨Bs, 0, none⟩ = some (.slice (some ⟨g, 0, none⟩) ps.length cap)) (hgM : g < M)
    (hO : OwnsP 0 W (.slice (some ⟨g, 0, none⟩) ps.length cap) ps) (hR : ∀ p ∈ ps, Recs M W p.2 p.1.rs)
    (h0 : J [] W) :
    CallsIn Fence.wide n Try.prog 70 #[.func (.yield l) #[] #[], .pointer (some ⟨Bs, 0, none⟩)] W fun e W' =>
      (∃ v, e = .returned v ∧ (J (turnR ps) W' ∨ (∃ pre, pre <+: turnR ps ∧ Jx pre W'))) := by
  refine callsIn_of_wp Try.func70 rfl trivial ?_ rfl
  simp only [Try.ntmps70, List.size_toArray, List.length_cons, List.length_nil, Nat.reduceAdd, Nat.reduceSub, Array.replicate_succ, Array.replicate_zero, List.push_toArray, List.append_toArray, List.nil_append, List.cons_append]
  have HO : Hid _ := hO
  have HR : Hid _ := hR
  have HY : Hid _ := hY
  have HL : Hid _ := hreach
  clear hO hR hY hreach
  gi_wp2
  gi_loopw [9] (fun i wr => ∃ k : Nat, k ≤ ps.length ∧ i = .int .i64 k ∧ J (turnR (ps.take k)) wr ∧ KeptOn (fun k => k < M) W wr)
    (fun i _ => ps.length - (intOf i).toNat)
  case atStart => exact ⟨0, Nat.zero_le _, rfl, h0, KeptOn.refl _ _⟩
  case round =>
    obtain ⟨k, hk, rfl, hJs, hkp⟩ := hrel
    have hsz := kept_size hM hkp
    by_cases hlt : k < ps.length
    · obtain ⟨x0, x1, x2, x3, x4, x5, x6, x7⟩ := OwnsP.cells HO.out k hlt
      have ck : ∀ o, wr.cell? ⟨g, o, none⟩ = W.cell? ⟨g, o, none⟩ := fun o => hkp.cell hgM
      replace x0 := (ck _).trans x0
      replace x1 := (ck _).trans x1
      replace x2 := (ck _).trans x2
      replace x3 := (ck _).trans x3
      replace x4 := (ck _).trans x4
      replace x5 := (ck _).trans x5
      replace x6 := (ck _).trans x6
      replace x7 := (ck _).trans x7
      have hts : turnR (ps.take (k + 1)) = turnR (ps.take k) ++ ps[k].1.rs := by
        unfold turnR
        rw [List.take_succ_eq_append_getElem hlt, List.flatMap_append, List.flatMap_cons, List.flatMap_nil, List.append_nil]
      have hpre : turnR (ps.take k) ++ ps[k].1.rs <+: turnR ps := by
        rw [← hts]
        unfold turnR
        conv => rhs; rw [← List.take_append_drop (k + 1) ps, List.flatMap_append]
        exact List.prefix_append _ _
      have HT : Hid _ := hts
      have HP : Hid _ := hpre
      have hrec := HR.out ps[k] (List.getElem_mem hlt)
      have hrl := HL.out ps[k] (List.getElem_mem hlt)
      clear hts hpre ck
      generalize hpk : ps[k] = pk at *
      obtain ⟨cc, sv⟩ := pk
      dsimp only at x0 x1 x2 x3 x4 x5 x6 x7 hrec hrl
      obtain ⟨rs, hrs⟩ : ∃ rs, rs = cc.rs := ⟨_, rfl⟩
      have HT2 : Hid (turnR (ps.take (k + 1)) = turnR (ps.take k) ++ rs) := by rw [hrs]; exact HT.out
      have HP2 : Hid (turnR (ps.take k) ++ rs <+: turnR ps) := by rw [hrs]; exact HP.out
      rw [← hrs] at hrec hrl
      clear HT HP hrs hpk
      have hgl : g < wr.heap.size := by omega
      obtain ⟨a, cp, rfl, hcs⟩ : ∃ a cp, sv = .slice a rs.length cp ∧ ∀ j (h : j < rs.length), ∃ b off, a = some ⟨b, off, none⟩ ∧ b < M ∧ W.cell? ⟨b, off + j * 3, none⟩ = some (.bool rs[j].free) ∧ W.cell? ⟨b, off + j * 3 + 1, none⟩ = some (.int .i64 rs[j].block) ∧ W.cell? ⟨b, off + j * 3 + 2, none⟩ = some (.string rs[j].data) := by
        rcases hrec with ⟨e, a, cp, rfl⟩ | ⟨b, off, cp, rfl, hb, hc⟩
        · exact ⟨a, cp, by rw [e]; rfl, fun j h => by rw [e] at h; exact absurd h (Nat.not_lt_zero _)⟩
        · exact ⟨_, cp, rfl, fun j h => ⟨b, off, rfl, hb, hc j h⟩⟩
      have HC : Hid _ := hcs
      clear hcs hrec
      obtain ⟨Wc, hWc⟩ : ∃ Wc, Wc = wr.alloc (.cells #[.int .i64 cc.f, .int .i64 cc.t, .int .i64 cc.b, .int .i64 cc.z, .int .i64 cc.all, .int .i64 cc.nu, .int .i64 cc.many, .slice a rs.length cp] 65) := ⟨_, rfl⟩
      have hJc : J (turnR (ps.take k)) Wc := by rw [hWc]; exact hJ.alloc _ hJs
      have hkc : KeptOn (fun k => k < M) W Wc := by rw [hWc]; exact hkp.alloc (fun k hk => by omega) _
      have hb7 : Wc.cell? ⟨wr.heap.size, 7, none⟩ = some (.slice a rs.length cp) := by rw [hWc]; exact boxed_cell (World.alloc_heap_new _ _) rfl
      gi_wp2
      rw [← hWc]
      clear hWc hJs hkp
      gi_wp2
      gi_loopw [16] (fun i wr => ∃ j : Nat, j ≤ rs.length ∧ i = .int .i64 j ∧ J (turnR (ps.take k) ++ rs.take j) wr ∧ KeptOn (fun k => k < M) W wr)
        (fun i _ => rs.length - (intOf i).toNat)
      case atStart => exact ⟨0, Nat.zero_le _, rfl, by simpa using hJc, hkc⟩
      case round =>
        obtain ⟨j, hj, rfl, hJs, hkp⟩ := hrel
        have hsz := kept_size hM hkp
        by_cases hlj : j < rs.length
        · obtain ⟨b, off, rfl, hb, q0, q1, q2⟩ := HC.out j hlj
          have cb : ∀ o, wr.cell? ⟨b, o, none⟩ = W.cell? ⟨b, o, none⟩ := fun o => hkp.cell hb
          replace q0 := (cb _).trans q0
          replace q1 := (cb _).trans q1
          replace q2 := (cb _).trans q2
          clear cb
          have hbw : b < wr.heap.size := by omega
          have hts : rs.take (j + 1) = rs.take j ++ [rs[j]] := List.take_succ_eq_append_getElem hlj
          have hpre : (turnR (ps.take k) ++ rs.take j) ++ [rs[j]] <+: turnR ps := by
            rw [List.append_assoc, ← hts]
            exact ((List.prefix_append_right_inj _).2 (List.take_prefix _ _)).trans HP2.out
          have HT3 : Hid _ := hts
          have HP3 : Hid _ := hpre
          clear hts hpre
          obtain ⟨fn, tmps, assign, body, hy, hR⟩ := HY.out (turnR (ps.take k) ++ rs.take j) rs[j] (wr.alloc (.cells #[.bool rs[j].free, .int .i64 rs[j].block, .string rs[j].data] 35)) (hJ.alloc _ hJs) HP3.out
          generalize hr : rs[j] = r at *
          have hbf : rs.length ≤ 9223372036854775807 := by omega
          gi_wp2
          refine hR.mono ?_
          rintro e W3 (⟨rfl, hJ3, hk3⟩ | ⟨rfl, hJx3⟩)
          · gi_wp2
            go_roundw
            case rel =>
              exact ⟨j + 1, by omega, by simp, by rw [HT3.out, ← List.append_assoc]; exact hJ3, (hkp.alloc (fun k hk => by omega) _).trans hk3⟩
            case measure => simp [intOf]; omega
          · gi_wp2
            refine bodyPost_ret (results_none rfl _ _ _) rfl ?_
            exact ⟨_, rfl, .inr ⟨_, HP3.out, hJx3⟩⟩
        · obtain rfl : j = rs.length := by omega
          rw [List.take_length] at hJs
          gi_wp2
          go_roundw
          case rel => exact ⟨k + 1, by omega, by simp, by rw [HT2.out]; exact hJs, hkp⟩
          case measure => simp [intOf]; omega
    · obtain rfl : k = ps.length := by omega
      rw [List.take_length] at hJs
      gi_wp2
      go_end0
      exact ⟨_, rfl, .inl hJs⟩

/-- **inTurn has its contract.** -/
theorem inTurn_seq (n : Nat) (hn : 1 ≤ n) (Bs g cap : Nat) (ps : List (Ck × Value)) (hlen : ps.length ≤ 100) (hreach : ∀ p ∈ ps, p.1.rs.length ≤ 1000) (w : World) (hc : w.cell? ⟨Bs, 0, none⟩ = some (.slice (some ⟨g, 0, none⟩) ps.length cap))
    (h1 : 1 ≤ ps.length) (hO : OwnsP 0 w (.slice (some ⟨g, 0, none⟩) ps.length cap) ps) (hR : ∀ p ∈ ps, Recs w.heap.size w p.2 p.1.rs) :
    SeqC Fence.wide n Try.prog 70 #[.pointer (some ⟨Bs, 0, none⟩)] encRc (fun k => k < w.heap.size) none (fun pre x => pre ++ [x] <+: turnR ps) (fun ys => ys = turnR ps) (fun pre => pre <+: turnR ps) (fun _ _ => False) w := by
  intro l J Jx W hW hJ hJx hY h0
  have hBs := World.block_lt_of_cell? _ _ hc
  have hc' := (hW.cell (p := ⟨Bs, 0, none⟩) hBs).trans hc
  obtain ⟨x0, -⟩ := OwnsP.cells hO 0 (by omega)
  have hg := World.block_lt_of_cell? _ _ x0
  have hgr : w.grownBy W none := gbelow hW
  refine (inTurn1_in n hn l Bs g cap w.heap.size ps hlen hreach J Jx W hJ hW.size hY hc' hg (OwnsP.keptN hO hgr) (fun p hp => (hR p hp).below hW (Nat.le_refl _)) h0).mono ?_
  rintro e W' ⟨v, rfl, hj | ⟨pre, hp, hj⟩⟩
  · exact .inl ⟨v, rfl, .inl ⟨_, rfl, hj⟩⟩
  · exact .inl ⟨v, rfl, .inr ⟨_, hp, hj⟩⟩
end Go.Proofs.Ytkmeingnhaomaab
/- slices.Collect over records, of longer iterators. -/
namespace Go.Proofs.Ytkmeingnhaomaab
open Go.RowKit Go.Shelf

attribute [local go_sem] Oper.semAt_some

set_option maxRecDepth 100000 in
set_option maxHeartbeats 2000000 in
theorem appendSeq_many {gf : Nat} {lb : Array Value} {KK : Nat → Prop} {bi : Option Nat} {G : List Rc → Rc → Prop} {Fin Stop : List Rc → Prop} {Pan : List PanicEntry → List Rc → Prop} (w : World)
    (eg : ∀ args w, (callFunc gf args).run Try.prog w = .ok (.enter gf args) w)
    (hseq : SeqC Fence.wide 8 Try.prog gf lb encRc KK bi G Fin Stop Pan w) (hKK : ∀ k, KK k → k < w.heap.size) (hbi : ∀ b, bi = some b → b < w.heap.size) (hG : ∀ pre x, G pre x → pre.length < 100000) :
    Calls Try.prog 61 #[.slice none 0 0, .func (.func gf) #[] lb] w fun e w' => w.grownBy w' bi ∧ ((∃ xs v, Fin xs ∧ e = .returned v ∧ OwnsR w.heap.size w' v xs) ∨ (∃ ch xs, Pan ch xs ∧ e = .panicked ch)) := by
  obtain ⟨i0, hi, hz0, hz1, hz2⟩ := info_parts Try.infoRec
  refine (callsIn_wide (n := 9)).1 ?_
  refine callsIn_of_wp_marks Try.func61 rfl trivial ?_ rfl
  simp only [Try.ntmps61, List.size_toArray, List.length_cons, List.length_nil, Nat.reduceAdd, Nat.reduceSub, Array.replicate_succ, Array.replicate_zero, List.push_toArray, List.append_toArray, List.nil_append, List.cons_append]
  gi_wp2
  have hO3 : (w.alloc (.cells #[.slice none 0 0] 25)).heap[w.heap.size]? = some (.cells #[.slice none 0 0] 25 (0, 0)) := World.alloc_heap_new _ _
  have hs3 : (w.alloc (.cells #[.slice none 0 0] 25)).heap.size = w.heap.size + 1 := by simp
  have hg3 : w.grownBy (w.alloc (.cells #[.slice none 0 0] 25)) bi := galloc _ _ _
  have hb3 : Below w.heap.size w (w.alloc (.cells #[.slice none 0 0] 25)) := (Below.refl _ _).alloc (Nat.le_refl _) _
  generalize w.alloc (.cells #[.slice none 0 0] 25) = W3 at *
  refine range_law (n := 9) rfl (by decide) (gf := gf) (lb := lb) rfl trivial eg hseq hb3 (fun k hk => by have := hKK k hk; omega) (fun b hb => by have := hbi b hb; omega) (fun _ => rfl)
    (fun pre W => (∃ v, W.heap[w.heap.size]? = some (.cells #[v] 25 (0, 0)) ∧ OwnsR w.heap.size W v pre) ∧ w.grownBy W bi)
    (fun _ _ _ => False)
    (OwnIt.and (ownIt_rows bi _ w.heap.size w.heap.size (fun pre => pre) hbi (Nat.le_refl _)) (ownIt_grown (by omega)))
    (fun cd => OwnIt.pure _ _ _)
    ⟨⟨_, hO3, World.ownsRow_nil _ _ _ _⟩, hg3⟩
    (fun x a' W => ∃ Bx, w.heap.size ≤ Bx ∧ W.heap[Bx]? = some (.cells #[.bool x.free, .int .i64 x.block, .string x.data] 35 (0, 0)) ∧ a' = { tmps := #[.slice none 0 0, .func (.func gf) #[] lb, .pointer (some ⟨w.heap.size, 0, none⟩), undef, .slice none 0 0, .pointer (some ⟨Bx, 0, none⟩), .func (.func gf) #[] lb, .agg #[.bool x.free, .int .i64 x.block, .string x.data], undef, undef, undef, undef, undef], defers := [] })
    ?ax
    ?assign ?body ?done ?stop ?panic
  case ax =>
    rintro x a' s W W' row ⟨Bx, h1, h2, h3⟩ hg hr
    refine ⟨Bx, h1, (hg.block Bx (Array.getElem?_eq_some_iff.1 h2).1 (fun e => ?_)).trans h2, h3⟩
    rcases hr Bx e.symm with e2 | ⟨_, o, ho', hc⟩
    · have := hbi Bx e2.symm; omega
    · rw [h2] at ho'; cases ho'; cases hc
  case assign =>
    rintro l pre x W K ⟨⟨v, h1, h2⟩, h5⟩ hK
    have lt := fun {k : Nat} {o : Obj} (e : W.heap[k]? = some o) => (Array.getElem?_eq_some_iff.1 e).1
    gi_wp2
    refine hK _ _ ((KeepsOthers.alloc _ _).from _) ?_ ⟨⟨v, (Below.heap_alloc _ _ _ (lt h1)).trans h1, World.ownsRow.alloc h2 _⟩, gallocR h5 _⟩ ⟨W.heap.size, h5.size, World.alloc_heap_new _ _, rfl⟩
    exact (KeptOn.refl _ _).alloc (fun k hk => Nat.lt_of_lt_of_le (hKK k hk) h5.size) _
  case body =>
    rintro l pre x a' W ⟨⟨v, h1, h2⟩, h5⟩ ⟨Bx, hx1, hx, rfl⟩ hGx
    have hln := hG pre x hGx
    have hml : pre.length + 1 ≤ maxLen := Nat.le_trans (show pre.length + 1 ≤ 100001 by omega) (by decide)
    have r0 := boxed_cell (i := 0) hx rfl
    have r1 := boxed_cell (i := 1) hx rfl
    have r2 := boxed_cell (i := 2) hx rfl
    have o0 := boxed_cell (i := 0) h1 rfl
    gi_wp2_with (gi_at_builtin; refine wpListIn_append_own _ rfl _ _ 25 rfl w.heap.size 35 i0 _ 3 32 Try.underlying25 hi hz0 hz1 hz2 rfl (by decide) _ _ _ rfl (World.ownsRow.alloc h2 _) ⟨W.heap.size, 0, none⟩ 1 1 [.bool x.free, .int .i64 x.block, .string x.data] rfl rfl (cells_new _ _ _) (by simp [Value.oneCell']) hml (by omega) (by have := h5.size; simp; omega) ?_; intro v' w3 hown' hg3' hnil'; obtain ⟨k1, k2, k3, k4, k5⟩ := Boxed.appended (t := 25) h1 (by decide) h2 h5.size (Nat.le_refl _) hown' hg3'; obtain ⟨g', cap', rfl⟩ := ownsRow_succ hown'; have p0 := boxed_cell (i := 0) k1 rfl; have pf := boxed_frozen (i := 0) k1)
    exact ⟨k4.from _, KeptOn.of_below k5 hKK, ⟨_, k2, ownsR_snoc k3⟩, gbelowR h5 k5⟩
  case done =>
    rintro D ys W hD hF ⟨⟨v, h1, h2⟩, h5⟩ hK
    have o0 := boxed_cell (i := 0) h1 rfl
    have hgp : w.grownBy (W.putObj D (.deferred none)) bi := ⟨h5.os, h5.tape, h5.output, by simpa using h5.size, fun j hj hne => (World.putObj_heap_other (by omega)).trans (h5.block j hj hne)⟩
    obtain ⟨a, ln, cp, rfl⟩ : ∃ a ln cp, v = .slice a ln cp := by
      rcases h2.2 with ⟨rfl, _⟩ | ⟨g, cap, cur, rfl, _⟩
      · exact ⟨_, _, _, rfl⟩
      · exact ⟨_, _, _, rfl⟩
    gi_wp2
    refine ⟨by simp, .inl ⟨_, _, rfl, run_takeDeferred hK, ?_⟩⟩
    refine ⟨_, results_tmp rfl _ _ _, hgp, .inl ⟨ys, .slice a ln cp, hF, ?_, ownsRow_putObj h2 _ hK rfl⟩⟩
    rfl
  case panic =>
    rintro D ch xs W hD hP ⟨_, h5⟩ hK
    have hgp : w.grownBy (W.putObj D (.deferred none)) bi := ⟨h5.os, h5.tape, h5.output, by simpa using h5.size, fun j hj hne => (World.putObj_heap_other (by omega)).trans (h5.block j hj hne)⟩
    refine ⟨by simp, .inl ⟨_, _, rfl, run_takeDeferred hK, ?_⟩⟩
    exact ⟨hgp, .inr ⟨ch, xs, hP, rfl⟩⟩
  case stop =>
    rintro D cd pre W _ _ h
    exact h.elim

set_option maxHeartbeats 1000000 in
theorem collect_many {gf : Nat} {lb : Array Value} {KK : Nat → Prop} {bi : Option Nat} {G : List Rc → Rc → Prop} {Fin Stop : List Rc → Prop} {Pan : List PanicEntry → List Rc → Prop} (w : World)
    (eg : ∀ args w, (callFunc gf args).run Try.prog w = .ok (.enter gf args) w)
    (hseq : SeqC Fence.wide 8 Try.prog gf lb encRc KK bi G Fin Stop Pan w) (hKK : ∀ k, KK k → k < w.heap.size) (hbi : ∀ b, bi = some b → b < w.heap.size) (hG : ∀ pre x, G pre x → pre.length < 100000) :
    Calls Try.prog 34 #[.func (.func gf) #[] lb] w fun e w' => w.grownBy w' bi ∧ ((∃ xs v, Fin xs ∧ e = .returned v ∧ OwnsR w.heap.size w' v xs) ∨ (∃ ch xs, Pan ch xs ∧ e = .panicked ch)) := by
  have HC : Hid (∀ u : Unit, _) := fun _ => appendSeq_many w eg hseq hKK hbi hG
  clear hseq eg
  go_enter Try.func34, Try.ntmps34
  go_wp2_with fail
  refine (HC.out ()).mono ?_
  rintro e w1 ⟨hg, (⟨xs, v, hF, rfl, ho⟩ | ⟨ch, xs, hP, rfl⟩)⟩
  · have HO : Hid _ := ho
    have HG : Hid _ := hg
    have HF : Hid _ := hF
    clear ho hg hF
    go_wp2
    go_ret
    exact ⟨HG.out, .inl ⟨xs, v, HF.out, rfl, HO.out⟩⟩
  · exact ⟨rfl, hg, .inr ⟨ch, xs, hP, rfl⟩⟩
end Go.Proofs.Ytkmeingnhaomaab
/- The program's joined. -/
namespace Go.Proofs.Ytkmeingnhaomaab
open Go.Shelf Go.RowKit

theorem complete_whole (ys : List Sk) : completeR (ys.map skP) ↔ wholeC (ys.map (·.1)) := by
  unfold completeR wholeC
  constructor
  · intro h k c hk
    rw [List.getElem?_map] at hk
    cases hy : ys[k]? with
    | none => rw [hy] at hk; cases hk
    | some y =>
      rw [hy] at hk
      simp only [Option.map_some, Option.some.injEq] at hk
      subst hk
      obtain ⟨a, ha, h5, h6, h7⟩ := h k (skP y) (by rw [List.getElem?_map, hy]; rfl)
      rw [List.getElem?_map] at ha
      cases hz : ys[0]? with
      | none => rw [hz] at ha; cases ha
      | some z =>
        rw [hz] at ha
        simp only [Option.map_some, Option.some.injEq] at ha
        subst ha
        rw [List.length_map] at h6 ⊢
        exact ⟨⟨z.1, by rw [List.getElem?_map, hz]; rfl, h5⟩, h6, h7⟩
  · intro h k p hk
    rw [List.getElem?_map] at hk
    cases hy : ys[k]? with
    | none => rw [hy] at hk; cases hk
    | some y =>
      rw [hy] at hk
      simp only [Option.map_some, Option.some.injEq] at hk
      subst hk
      obtain ⟨⟨a, ha, h5⟩, h6, h7⟩ := h k y.1 (by rw [List.getElem?_map, hy]; rfl)
      rw [List.getElem?_map] at ha
      cases hz : ys[0]? with
      | none => rw [hz] at ha; cases ha
      | some z =>
        rw [hz] at ha
        simp only [Option.map_some, Option.some.injEq] at ha
        subst ha
        rw [List.length_map] at h6 ⊢
        exact ⟨skP z, by rw [List.getElem?_map, hz]; rfl, h5, h6, h7⟩
theorem turn_whole (ys : List Sk) : turnR (ys.map skP) = (ys.map (·.1)).flatMap Ck.rs := by
  unfold turnR
  rw [List.flatMap_map, List.flatMap_map]
  rfl
theorem turn_length : ∀ (ps : List (Ck × Value)), (∀ p ∈ ps, p.1.rs.length ≤ 100) → (turnR ps).length ≤ 100 * ps.length
  | [], _ => by simp [turnR]
  | p :: ps, h => by
    have h1 := turn_length ps (fun q hq => h q (List.mem_cons_of_mem _ hq))
    have h2 := h p (by simp)
    unfold turnR at *
    rw [List.flatMap_cons, List.length_append, List.length_cons]
    omega
theorem kept_cells {A W : World} (h : A.grownBy W none) : (∀ X i, X < A.heap.size → W.cell? ⟨X, i, none⟩ = A.cell? ⟨X, i, none⟩) ∧ (∀ X i, X < A.heap.size → W.frozen? ⟨X, i, none⟩ = A.frozen? ⟨X, i, none⟩) :=
  ⟨fun X i hX => World.cell?_of_block (a := ⟨X, i, none⟩) (h.block X hX (by simp)), fun X i hX => by
    have := h.block X hX (by simp)
    simp only [World.frozen?, this]⟩
theorem stream_head {W : World} {X Y : Nat} {t t' : TypeId} {v0 v1 v2 v3 v4 u0 u1 u2 u3 u4 : Value} (h : W.heap[X]? = some (.cells #[v0, v1, v2, v3, v4] t (0, 0))) (h' : W.heap[Y]? = some (.cells #[u0, u1, u2, u3, u4] t' (0, 0))) :
    W.cell? ⟨X, 0, none⟩ = some v0 ∧ W.cell? ⟨X, 1, none⟩ = some v1 ∧ W.cell? ⟨X, 2, none⟩ = some v2 ∧ W.cell? ⟨X, 3, none⟩ = some v3 ∧ W.cell? ⟨X, 4, none⟩ = some v4 ∧ W.cell? ⟨Y, 4, none⟩ = some u4 :=
  ⟨boxed_cell (i := 0) h rfl, boxed_cell (i := 1) h rfl, boxed_cell (i := 2) h rfl, boxed_cell (i := 3) h rfl, boxed_cell (i := 4) h rfl, boxed_cell (i := 4) h' rfl⟩
theorem OwnsR.setT {B : Nat} {W : World} {v : Value} {rs : List Rc} (h : OwnsR B W v rs) {X o : Nat} {x : Value} {cs : Array Value} {t : TypeId} (hX : W.heap[X]? = some (.cells cs t (0, 0))) (ht : t ≠ 35) : OwnsR B (W.setCell ⟨X, o, none⟩ x) v rs :=
  OwnsR.beside h (gset W X o x) fun k cs' fr hk e => by
    cases e
    rw [hX] at hk
    simp only [Option.some.injEq, Obj.cells.injEq] at hk
    exact ht hk.2.1
theorem below_set {M X o : Nat} {W0 W : World} {x : Value} (h : Below M W0 W) (hX : M ≤ X) : Below M W0 (W.setCell ⟨X, o, none⟩ x) :=
  Below.setCell h (p := ⟨X, o, none⟩) hX x
theorem below_set5 {M X : Nat} {W0 W : World} {x0 x1 x2 x3 x4 : Value} (h : Below M W0 W) (hX : M ≤ X) : Below M W0 (((((W.setCell ⟨X, 0, none⟩ x0).setCell ⟨X, 1, none⟩ x1).setCell ⟨X, 2, none⟩ x2).setCell ⟨X, 3, none⟩ x3).setCell ⟨X, 4, none⟩ x4) :=
  below_set (below_set (below_set (below_set (below_set h hX) hX) hX) hX) hX
theorem fill5 {X : Nat} {W : World} {x0 x1 x2 x3 x4 a0 a1 a2 a3 a4 : Value} {t : TypeId} (hz : W.heap[X]? = some (.cells #[a0, a1, a2, a3, a4] t (0, 0))) :
    (((((W.setCell ⟨X, 0, none⟩ x0).setCell ⟨X, 1, none⟩ x1).setCell ⟨X, 2, none⟩ x2).setCell ⟨X, 3, none⟩ x3).setCell ⟨X, 4, none⟩ x4).heap[X]? = some (.cells #[x0, x1, x2, x3, x4] t (0, 0)) :=
  block_set (i := 4) (block_set (i := 3) (block_set (i := 2) (block_set (i := 1) (block_set (i := 0) hz x0) x1) x2) x3) x4
theorem OwnsR.setT5 {B X : Nat} {W : World} {v : Value} {rs : List Rc} {x0 x1 x2 x3 x4 a0 a1 a2 a3 a4 : Value} {t : TypeId} (ho : OwnsR B W v rs) (hz : W.heap[X]? = some (.cells #[a0, a1, a2, a3, a4] t (0, 0))) (ht : t ≠ 35) :
    OwnsR B (((((W.setCell ⟨X, 0, none⟩ x0).setCell ⟨X, 1, none⟩ x1).setCell ⟨X, 2, none⟩ x2).setCell ⟨X, 3, none⟩ x3).setCell ⟨X, 4, none⟩ x4) v rs := by
  have b1 := block_set (i := 0) hz x0
  have b2 := block_set (i := 1) b1 x1
  have b3 := block_set (i := 2) b2 x2
  have b4 := block_set (i := 3) b3 x3
  exact OwnsR.setT (OwnsR.setT (OwnsR.setT (OwnsR.setT (OwnsR.setT ho hz ht) b1 ht) b2 ht) b3 ht) b4 ht
theorem keepSet5 {W0 W : World} {b X : Nat} {v0 v1 v2 v3 v4 x0 x1 x2 x3 x4 : Value}
    (hS : W.cell? ⟨b, 0, none⟩ = some v0 ∧ W.cell? ⟨b, 1, none⟩ = some v1 ∧ W.cell? ⟨b, 2, none⟩ = some v2 ∧ W.cell? ⟨b, 3, none⟩ = some v3 ∧ W.cell? ⟨b, 4, none⟩ = some v4 ∧ Below W0.heap.size W0 W) (hp : b < W0.heap.size) (hX : W0.heap.size ≤ X) :
    (((((W.setCell ⟨X, 0, none⟩ x0).setCell ⟨X, 1, none⟩ x1).setCell ⟨X, 2, none⟩ x2).setCell ⟨X, 3, none⟩ x3).setCell ⟨X, 4, none⟩ x4).cell? ⟨b, 0, none⟩ = some v0 ∧ (((((W.setCell ⟨X, 0, none⟩ x0).setCell ⟨X, 1, none⟩ x1).setCell ⟨X, 2, none⟩ x2).setCell ⟨X, 3, none⟩ x3).setCell ⟨X, 4, none⟩ x4).cell? ⟨b, 1, none⟩ = some v1 ∧ (((((W.setCell ⟨X, 0, none⟩ x0).setCell ⟨X, 1, none⟩ x1).setCell ⟨X, 2, none⟩ x2).setCell ⟨X, 3, none⟩ x3).setCell ⟨X, 4, none⟩ x4).cell? ⟨b, 2, none⟩ = some v2 ∧ (((((W.setCell ⟨X, 0, none⟩ x0).setCell ⟨X, 1, none⟩ x1).setCell ⟨X, 2, none⟩ x2).setCell ⟨X, 3, none⟩ x3).setCell ⟨X, 4, none⟩ x4).cell? ⟨b, 3, none⟩ = some v3 ∧ (((((W.setCell ⟨X, 0, none⟩ x0).setCell ⟨X, 1, none⟩ x1).setCell ⟨X, 2, none⟩ x2).setCell ⟨X, 3, none⟩ x3).setCell ⟨X, 4, none⟩ x4).cell? ⟨b, 4, none⟩ = some v4 ∧ Below W0.heap.size W0 (((((W.setCell ⟨X, 0, none⟩ x0).setCell ⟨X, 1, none⟩ x1).setCell ⟨X, 2, none⟩ x2).setCell ⟨X, 3, none⟩ x3).setCell ⟨X, 4, none⟩ x4) := by
  have hne : b ≠ X := by omega
  have e : ∀ o, (((((W.setCell ⟨X, 0, none⟩ x0).setCell ⟨X, 1, none⟩ x1).setCell ⟨X, 2, none⟩ x2).setCell ⟨X, 3, none⟩ x3).setCell ⟨X, 4, none⟩ x4).cell? ⟨b, o, none⟩ = W.cell? ⟨b, o, none⟩ := fun o => World.cell?_of_block (a := ⟨b, o, none⟩) ((Below.heap_setCell _ _ _ _ hne).trans ((Below.heap_setCell _ _ _ _ hne).trans ((Below.heap_setCell _ _ _ _ hne).trans ((Below.heap_setCell _ _ _ _ hne).trans (Below.heap_setCell _ _ _ _ hne)))))
  exact ⟨(e 0).trans hS.1, (e 1).trans hS.2.1, (e 2).trans hS.2.2.1, (e 3).trans hS.2.2.2.1, (e 4).trans hS.2.2.2.2.1, below_set5 hS.2.2.2.2.2 hX⟩
theorem keepAl {W0 W : World} {b : Nat} {o o' : Obj} {v0 v1 v2 v3 v4 : Value}
    (hS : (W.alloc o).cell? ⟨b, 0, none⟩ = some v0 ∧ (W.alloc o).cell? ⟨b, 1, none⟩ = some v1 ∧ (W.alloc o).cell? ⟨b, 2, none⟩ = some v2 ∧ (W.alloc o).cell? ⟨b, 3, none⟩ = some v3 ∧ (W.alloc o).cell? ⟨b, 4, none⟩ = some v4 ∧ Below W0.heap.size W0 (W.alloc o)) (hp : b < W0.heap.size) (hl : W0.heap.size ≤ W.heap.size) :
    (W.alloc o').cell? ⟨b, 0, none⟩ = some v0 ∧ (W.alloc o').cell? ⟨b, 1, none⟩ = some v1 ∧ (W.alloc o').cell? ⟨b, 2, none⟩ = some v2 ∧ (W.alloc o').cell? ⟨b, 3, none⟩ = some v3 ∧ (W.alloc o').cell? ⟨b, 4, none⟩ = some v4 ∧ Below W0.heap.size W0 (W.alloc o') := by
  have e : ∀ k, k < W.heap.size → (W.alloc o').heap[k]? = (W.alloc o).heap[k]? := fun k hk => (Below.heap_alloc W o' k hk).trans (Below.heap_alloc W o k hk).symm
  have c : ∀ i, (W.alloc o').cell? ⟨b, i, none⟩ = (W.alloc o).cell? ⟨b, i, none⟩ := fun i => World.cell?_of_block (a := ⟨b, i, none⟩) (e b (by omega))
  have hb := hS.2.2.2.2.2
  exact ⟨(c 0).trans hS.1, (c 1).trans hS.2.1, (c 2).trans hS.2.2.1, (c 3).trans hS.2.2.2.1, (c 4).trans hS.2.2.2.2.1, hb.os, hb.tape, hb.output, by have := hb.size; simpa using this, fun k hk => (e k (by omega)).trans (hb.block k hk)⟩
theorem OwnsP.ne {B : Nat} {W : World} {g l cp : Nat} {ps : List (Ck × Value)} (h : OwnsP B W (.slice (some ⟨g, 0, none⟩) l cp) ps) {k : Nat} {cs : Array Value} {t : TypeId} {fr : Nat × Nat} (hk : W.heap[k]? = some (.cells cs t fr)) (ht : t ≠ 65) : some k ≠ some g := by
  rcases h.2 with ⟨e0, h0⟩ | ⟨g', cap, cur, e0, hb, hg, _⟩
  · cases e0
  · intro e
    simp only [Value.slice.injEq, Option.some.injEq, Addr.mk.injEq] at e0
    obtain ⟨⟨rfl, -, -⟩, -, -⟩ := e0
    cases e
    rw [hg] at hk
    simp only [Option.some.injEq, Obj.cells.injEq] at hk
    exact ht hk.2.1.symm

set_option maxRecDepth 100000 in
set_option maxHeartbeats 4000000 in
theorem joined_any (g cap B : Nat) (xs : List Sk) (w : World) (h : OwnsP B w (.slice (some ⟨g, 0, none⟩) xs.length cap) (xs.map skP)) (hn : xs.length ≤ 100) (h1 : 1 ≤ xs.length) (hR : ∀ x ∈ xs, OwnsR B w (skP x).2 x.1.rs) (hok : ∀ x ∈ xs, CkOk x.1 ∧ x.1.nu < x.1.many) :
    Calls Try.prog 26 #[.slice (some ⟨g, 0, none⟩) xs.length cap] w fun e w' => w.grownBy w' (some g) ∧
      ((joinC (.inr (xs.map (·.1))) = .inl 13 ∧ ∃ f t b z a n c, e = .returned (.tuple #[.agg #[.int .i64 f, .int .i64 t, .int .i64 b, .int .i64 z, .slice a n c], .bool false])) ∨
       (∃ (f t b z : Nat) (sv : Value) (rs : List Rc), joinC (.inr (xs.map (·.1))) = .inr (f, t, b, z, rs) ∧ wellHead f t b z = true ∧ recsOk b z (-1) rs = true ∧ Recs w'.heap.size w' sv rs ∧ e = .returned (.tuple #[.agg #[.int .i64 f, .int .i64 t, .int .i64 b, .int .i64 z, sv], .bool true]))) := by
  obtain ⟨W0, hW0⟩ : ∃ W0, W0 = w.alloc (.cells #[.int .i64 0, .int .i64 0, .int .i64 0, .int .i64 0, .slice none 0 0] 27) := ⟨_, rfl⟩
  have g0 : Hid (w.grownBy W0 none) := by rw [hW0]; exact galloc _ _ _
  have z0 : w.heap.size < W0.heap.size := by rw [hW0]; simp
  have S0 : Hid (W0.heap[w.heap.size]? = some (.cells #[.int .i64 0, .int .i64 0, .int .i64 0, .int .i64 0, .slice none 0 0] 27 (0, 0))) := by rw [hW0]; exact World.alloc_heap_new _ _
  have h' := OwnsP.keptN h g0.out
  have hgl : g < w.heap.size := by
    obtain ⟨x0, -⟩ := OwnsP.cells h 0 (by rw [List.length_map]; omega)
    exact World.block_lt_of_cell? _ _ x0
  have HS : Hid (∀ u : Unit, _) := fun _ => sort_any g cap B xs W0 h' hn
  have hmf : ∀ (fn : Fn) (first cap : Array Value) (w : World), (Instr.makeFunc fn first cap).run Try.prog w = .ok (.func fn first cap) w := fun _ _ _ _ => rfl
  have HR : Hid _ := hR
  have HP0 : Hid (OwnsP B W0 (.slice (some ⟨g, 0, none⟩) xs.length cap) (xs.map skP)) := h'
  clear h hR h'
  go_enter Try.func26, Try.ntmps26
  go_wp2_with fail
  rw [← hW0]
  clear hW0
  refine (HS.out ()).mono ?_
  rintro e w1 ⟨rfl, ys, hp, hs, ho, hg⟩
  have hyl := hp.length_eq
  rw [← hyl] at ho
  have HC : Hid (∀ u : Unit, _) := fun _ => complete_any g cap B (ys.map skP) w1 (by rw [List.length_map]; exact ho) (by rw [List.length_map]; omega) (by rw [List.length_map]; omega) (fun p hp => by obtain ⟨x, -, rfl⟩ := List.mem_map.1 hp; exact ⟨_, _, _, rfl⟩)
  rw [List.length_map, hyl] at HC
  have HP : Hid _ := hp
  have HSd : Hid _ := hs
  have HO : Hid _ := ho
  have HG : Hid _ := hg
  clear hp hs ho hg HS
  go_wp2_with fail
  refine (HC.out ()).mono ?_
  rintro e w2 ⟨hg2, ok, rfl, hc⟩
  have G2 : Hid (W0.grownBy w2 (some g)) := gtrans HG.out (gnone hg2)
  have GW : Hid (w.grownBy w2 (some g)) := gtrans (gnone g0.out) G2.out
  have B2 : Hid (w2.heap[w.heap.size]? = some (.cells #[.int .i64 0, .int .i64 0, .int .i64 0, .int .i64 0, .slice none 0 0] 27 (0, 0))) := box5_grown S0.out G2.out (by simp; omega)
  obtain ⟨r0, r1, r2, r3, r4, -⟩ := box5_cells B2.out
  obtain ⟨f0, f1, f2, f3, f4⟩ := box5_froz B2.out
  have HPM : Hid ((ys.map (·.1)).Perm (xs.map (·.1))) := HP.out.map _
  have HSM : Hid ((ys.map (·.1)).Pairwise (fun a b : Ck => a.nu ≤ b.nu)) := List.pairwise_map.2 HSd.out
  have HNU : Hid (∀ c ∈ xs.map (·.1), c.nu < c.many) := fun c hc => by obtain ⟨x, hx, rfl⟩ := List.mem_map.1 hc; exact (hok x hx).2
  cases ok with
  | false =>
    have HB : Hid (joinC (.inr (xs.map (·.1))) = .inl 13) := join_bad HPM.out HSM.out HNU.out (by simpa using h1) (fun h => by
      have := hc.2 ((complete_whole ys).2 h.1)
      cases this)
    clear hc
    go_wp2
    refine bodyPost_ret (v := .tuple #[.agg #[.int .i64 0, .int .i64 0, .int .i64 0, .int .i64 0, .slice none 0 0], .bool false]) (by simp [results, Try.results26, go_sem, r0, r1, r2, r3, r4]) rfl ?_
    exact ⟨gfresh (gfresh (gfresh (gfresh (gfresh GW.out (Nat.le_refl _)) (Nat.le_refl _)) (Nat.le_refl _)) (Nat.le_refl _)) (Nat.le_refl _), .inl ⟨HB.out, 0, 0, 0, 0, none, 0, 0, rfl⟩⟩
  | true =>
    have hcomp : wholeC (ys.map (·.1)) := (complete_whole ys).1 (hc.1 rfl)
    clear hc
    have hyp : 0 < ys.length := by omega
    have O2 : Hid (OwnsP B w2 (.slice (some ⟨g, 0, none⟩) (ys.map skP).length cap) (ys.map skP)) := by
      rw [List.length_map]
      exact OwnsP.keptN HO.out hg2
    obtain ⟨x0, x1, x2, x3, x4, -⟩ := OwnsP.cells O2.out 0 (by rw [List.length_map]; exact hyp)
    have HD : Hid ((ys.map (·.1))[0]? = some ys[0].1) := by
      show _ = _
      rw [List.getElem?_map, List.getElem?_eq_getElem hyp]
      rfl
    have hck : CkOk ys[0].1 := (hok ys[0] (HP.out.mem_iff.1 (List.getElem_mem hyp))).1
    rw [List.getElem_map] at x0 x1 x2 x3 x4
    simp only [skP, Nat.zero_mul, Nat.zero_add] at x0 x1 x2 x3 x4
    generalize ys[0].1 = d at *
    have hxl : (0 : Int) < (xs.length : Int) := by omega
    have hgl2 : g < w2.heap.size := Nat.lt_of_lt_of_le hgl GW.out.size
    obtain ⟨W3, hW3⟩ : ∃ W3, W3 = w2.alloc (.cells #[.int .i64 d.f, .int .i64 d.t, .int .i64 d.b, .int .i64 d.z, .int .i64 d.all] 57) := ⟨_, rfl⟩
    have h3 : Hid (W3.heap[w2.heap.size]? = some (.cells #[.int .i64 d.f, .int .i64 d.t, .int .i64 d.b, .int .i64 d.z, .int .i64 d.all] 57 (0, 0))) := by rw [hW3]; exact World.alloc_heap_new _ _
    have g3 : Hid (w2.grownBy W3 none) := by rw [hW3]; exact galloc _ _ _
    have z3 : w2.heap.size < W3.heap.size := by rw [hW3]; simp
    go_wp2_with fail
    rw [← hW3]
    clear hW3
    rename_i K aK
    obtain ⟨rs, hrs⟩ : ∃ rs, rs = turnR (ys.map skP) := ⟨_, rfl⟩
    have hrl : rs.length ≤ 10000 := by
      have := turn_length (ys.map skP) (fun p hp => by
        obtain ⟨x, hx, rfl⟩ := List.mem_map.1 hp
        exact (hok x (HP.out.mem_iff.1 hx)).1.len)
      rw [List.length_map] at this
      rw [hrs]
      omega
    have HRT : Hid ((ys.map (·.1)).flatMap Ck.rs = rs) := by
      show _ = _
      rw [hrs, turn_whole]
    have HGood : Hid (recsOk d.b d.z (-1) rs = true → rs.length = d.all → joinC (.inr (xs.map (·.1))) = .inr (d.f, d.t, d.b, d.z, rs)) := fun h1 h2 => by
      have := join_good HPM.out hcomp d HD.out (by rw [HRT.out]; exact h1) (by rw [HRT.out]; exact h2)
      rw [HRT.out] at this
      exact this
    have HBad : Hid (¬ (recsOk d.b d.z (-1) rs = true ∧ rs.length = d.all) → joinC (.inr (xs.map (·.1))) = .inl 13) := fun h => by
      refine join_bad HPM.out HSM.out HNU.out (by rw [List.length_map]; omega) ?_
      rintro ⟨-, c, hc, h1, h2⟩
      rw [HD.out] at hc
      cases hc
      rw [HRT.out] at h1 h2
      exact h ⟨h1, h2⟩
    have G23 : Hid (w.grownBy W3 (some g)) := gtrans GW.out (gnone g3.out)
    have HR3 : Hid (∀ p ∈ ys.map skP, OwnsR B W3 p.2 p.1.rs) := fun p hp => by
      obtain ⟨x, hx, rfl⟩ := List.mem_map.1 hp
      have a1 := OwnsR.kept (HR.out x (HP.out.mem_iff.1 hx)) g0.out
      have a2 := OwnsR.beside a1 HG.out (fun k cs fr hk => HP0.out.ne hk (by decide))
      exact OwnsR.kept (OwnsR.kept a2 hg2) g3.out
    have hO3 : OwnsP B W3 (.slice (some ⟨g, 0, none⟩) xs.length cap) (ys.map skP) := by
      have := OwnsP.keptN O2.out g3.out
      rw [List.length_map, hyl] at this
      exact this
    have HCol : Hid (∀ (A : World) (Bs : Nat), Below W3.heap.size W3 A → A.cell? ⟨Bs, 0, none⟩ = some (.slice (some ⟨g, 0, none⟩) xs.length cap) → Calls Try.prog 34 #[.func (.func 70) #[] #[.pointer (some ⟨Bs, 0, none⟩)]] A fun e A' => A.grownBy A' none ∧ ∃ a c, e = .returned (.slice a rs.length c) ∧ OwnsR A.heap.size A' (.slice a rs.length c) rs) := fun A Bs hA hc => by
      have hgA : W3.grownBy A none := gbelow hA
      have hps : (ys.map skP).length = xs.length := by rw [List.length_map, hyl]
      refine (collect_many A (enters_of Try.func70 (by kernel_rfl) rfl) (inTurn_seq 8 (by decide) Bs g cap (ys.map skP) (by omega) (fun p hp => by
        obtain ⟨x, hx, rfl⟩ := List.mem_map.1 hp
        have := (hok x (HP.out.mem_iff.1 hx)).1.len
        show x.1.rs.length ≤ 1000
        omega) A (by rw [hps]; exact hc) (by omega) (by rw [hps]; exact row_base (OwnsP.keptN hO3 hgA) (Nat.zero_le _)) (fun p hp => (OwnsR.kept (HR3.out p hp) hgA).recs)) (fun k hk => hk) (fun b hb => by cases hb) (fun pre x hG => by
          have := hG.length_le
          rw [List.length_append, ← hrs] at this
          simp only [List.length_cons, List.length_nil] at this
          omega)).mono ?_
      rintro e A' ⟨hg', (⟨zs, v, rfl, rfl, ho'⟩ | ⟨ch, zs, hF, _⟩)⟩
      · rw [← hrs] at ho'
        obtain ⟨a, c, rfl⟩ := ho'.recs.slice
        exact ⟨hg', a, c, rfl, ho'⟩
      · exact hF.elim
    clear hrs
    have HREST : Hid (∀ (X : Nat) (a : Option Addr) (c : Nat) (v18 v19 v20 : Value) (W : World), W.heap[X]? = some (.cells #[.int .i64 d.f, .int .i64 d.t, .int .i64 d.b, .int .i64 d.z, .slice a rs.length c] 27 (0, 0)) → Below W3.heap.size W3 W → W3.heap.size ≤ X → OwnsR W3.heap.size W (.slice a rs.length c) rs →
        K { tmps := #[.slice (some ⟨g, 0, none⟩) xs.length cap, undef, .pointer (some ⟨w.heap.size, 0, none⟩), .bool false, .pointer (some ⟨w2.heap.size, 0, none⟩), .pointer (some ⟨X, 0, none⟩), .slice (some ⟨g, 0, none⟩) xs.length cap, .tuple #[], .slice (some ⟨g, 0, none⟩) xs.length cap, .bool true, .bool false, undef, .slice (some ⟨g, 0, none⟩) xs.length cap, .pointer (some ⟨g, 0, none⟩), .pointer (some ⟨g, 0, none⟩), .agg #[.int .i64 d.f, .int .i64 d.t, .int .i64 d.b, .int .i64 d.z, .int .i64 d.all], .agg #[.int .i64 d.f, .int .i64 d.t, .int .i64 d.b, .int .i64 d.z, .int .i64 d.all], .slice (some ⟨g, 0, none⟩) xs.length cap, v18, v19, v20, undef, undef, undef, undef, undef, undef, undef, undef, undef, undef, undef], defers := [] } W) := by
      intro X a c v18 v19 v20 W hX hbW hlX hown
      refine aK _ _ ?_
      have hg3W : W3.grownBy W none := gbelow hbW
      have hXl := (Array.getElem?_eq_some_iff.1 hX).1
      have hH := box5_grown h3.out hg3W (by simp)
      have hRb := box5_grown (box5_grown B2.out g3.out (by simp)) hg3W (by simp)
      have hwz : w.heap.size < w2.heap.size := (Array.getElem?_eq_some_iff.1 B2.out).1
      have hne1 : X ≠ w.heap.size := by omega
      have hne2 : w2.heap.size ≠ w.heap.size := by omega
      have hzW : W3.heap.size ≤ W.heap.size := hbW.size
      obtain ⟨s0, s1, s2, s3, s4, -⟩ := box5_cells hX
      obtain ⟨-, -, -, -, q4, -⟩ := box5_cells hH
      obtain ⟨k0, k1, k2, k3, k4, -⟩ := box5_cells hRb
      obtain ⟨m0, m1, m2, m3, m4⟩ := box5_froz hRb
      have HOW : Hid (OwnsR W3.heap.size W (.slice a rs.length c) rs) := hown
      have HGW : Hid (w.grownBy W (some g)) := gtrans G23.out (gnone hg3W)
      clear hown
      by_cases hlen : rs.length = d.all
      · have e1 : ((rs.length : Int) == (d.all : Int)) = true := by simp; omega
        have HPW : Hid (∀ W' : World, W.grownBy W' none → Calls Try.prog 28 #[.agg #[.int .i64 d.f, .int .i64 d.t, .int .i64 d.b, .int .i64 d.z, .slice a rs.length c]] W' fun e w' => e = .returned (.bool (recsOk d.b d.z (-1) rs)) ∧ Below W'.heap.size W' w') := fun W' hW' => by
          have := pwell_any d.f d.t d.b d.z (.slice a rs.length c) rs W' (OwnsR.kept HOW.out hW').recs (by omega)
          rw [hck.head, Bool.true_and] at this
          exact this
        have HKB : Hid (∀ w' : World, Below W.drew.heap.size W.drew w' → W.grownBy w' none ∧ w'.heap[X]? = some (.cells #[.int .i64 d.f, .int .i64 d.t, .int .i64 d.b, .int .i64 d.z, .slice a rs.length c] 27 (0, 0)) ∧ w'.heap[w2.heap.size]? = some (.cells #[.int .i64 d.f, .int .i64 d.t, .int .i64 d.b, .int .i64 d.z, .int .i64 d.all] 57 (0, 0)) ∧ w'.heap[w.heap.size]? = some (.cells #[.int .i64 0, .int .i64 0, .int .i64 0, .int .i64 0, .slice none 0 0] 27 (0, 0))) := fun w' hb => by
          have hg : W.grownBy w' none := gtrans (drew_grown W 1 none) (gbelow hb)
          exact ⟨hg, box5_grown hX hg (by simp), box5_grown hH hg (by simp), box5_grown hRb hg (by simp)⟩
        have HJG : Hid (recsOk d.b d.z (-1) rs = true → _) := fun h => HGood.out h hlen
        have HJB : Hid (recsOk d.b d.z (-1) rs = false → _) := fun h => HBad.out (fun h' => by rw [h] at h'; cases h'.1)
        clear HBad HGood HCol HR3 hlen
        generalize hrk : recsOk d.b d.z (-1) rs = rk at *
        go_wp2_with fail
        go_region_held3 (fun w' => w'.cell? ⟨X, 0, none⟩ = some (.int .i64 d.f) ∧ w'.cell? ⟨X, 1, none⟩ = some (.int .i64 d.t) ∧ w'.cell? ⟨X, 2, none⟩ = some (.int .i64 d.b) ∧ w'.cell? ⟨X, 3, none⟩ = some (.int .i64 d.z) ∧ w'.cell? ⟨X, 4, none⟩ = some (.slice a rs.length c) ∧ w'.cell? ⟨w2.heap.size, 4, none⟩ = some (.int .i64 d.all))
          (first | with_reducible exact stream_head hS9 hH9 | with_reducible exact stream_head (box_set5 hS9 hne1 _ _ _ _ _) (box_set5 hH9 hne2 _ _ _ _ _) | exact stream_head hX hH)
          ((go_at_call 28; refine (HPW.out _ (drew_grown W 1 none)).mono ?_; rintro e w9 ⟨rfl, hb9⟩; obtain ⟨hg9, hS9, hH9, hR9⟩ := HKB.out _ hb9; obtain ⟨k0, k1, k2, k3, k4, -⟩ := box5_cells hR9; obtain ⟨m0, m1, m2, m3, m4⟩ := box5_froz hR9))
        go_wp2
        refine bodyPost_ret (v := .tuple #[.agg #[.int .i64 d.f, .int .i64 d.t, .int .i64 d.b, .int .i64 d.z, .slice a rs.length c], .bool rk]) (by simp [results, Try.results26, go_sem, k0, k1, k2, k3, k4]) rfl ?_
        refine ⟨gfresh (gfresh (gfresh (gfresh (gfresh (gtrans HGW.out (gnone hg9)) (Nat.le_refl _)) (Nat.le_refl _)) (Nat.le_refl _)) (Nat.le_refl _)) (Nat.le_refl _), ?_⟩
        have hwl : w.heap.size < W3.heap.size := by omega
        cases rk with
        | false => exact .inl ⟨HJB.out rfl, _, _, _, _, _, _, _, rfl⟩
        | true => exact .inr ⟨d.f, d.t, d.b, d.z, _, rs, HJG.out rfl, hck.head, hrk, (OwnsR.set (OwnsR.set (OwnsR.set (OwnsR.set (OwnsR.set (OwnsR.kept HOW.out hg9) hwl) hwl) hwl) hwl) hwl).recs, rfl⟩
      · have e1 : ((rs.length : Int) == (d.all : Int)) = false := by simp; omega
        have HBd : Hid _ := HBad.out (fun h => hlen h.2)
        clear HBad HGood HCol HR3 hX hH hRb
        go_wp2_with fail
        go_region
        go_wp2
        refine bodyPost_ret (v := .tuple #[.agg #[.int .i64 d.f, .int .i64 d.t, .int .i64 d.b, .int .i64 d.z, .slice a rs.length c], .bool false]) (by simp [results, Try.results26, go_sem, k0, k1, k2, k3, k4]) rfl ?_
        exact ⟨gfresh (gfresh (gfresh (gfresh (gfresh (gdrewR HGW.out 1) (Nat.le_refl _)) (Nat.le_refl _)) (Nat.le_refl _)) (Nat.le_refl _)) (Nat.le_refl _), .inl ⟨HBd.out, _, _, _, _, _, _, _, rfl⟩⟩
    clear aK HGood HBad HRT hcomp HR HO HG O2 HPM HSM HNU HD HP HSd
    obtain ⟨c0, c1, c2, c3, c4, -⟩ := box5_cells h3.out
    have B30 : Hid (Below W3.heap.size W3 W3.drew) := (Below.refl _ _).drew
    have HC0 : Hid (∀ u : Unit, Calls Try.prog 34 #[.func (.func 70) #[] #[.pointer (some ⟨W3.heap.size + 1, 0, none⟩)]] (((W3.alloc (.cells #[.int .i64 0, .int .i64 0, .int .i64 0, .int .i64 0, .slice none 0 0] 27)).alloc (.cells #[.slice (some ⟨g, 0, none⟩) xs.length cap] 61)).drew) fun e w5 => ∃ a c, e = .returned (.slice a rs.length c) ∧ OwnsR W3.heap.size w5 (.slice a rs.length c) rs ∧ (((W3.alloc (.cells #[.int .i64 0, .int .i64 0, .int .i64 0, .int .i64 0, .slice none 0 0] 27)).alloc (.cells #[.slice (some ⟨g, 0, none⟩) xs.length cap] 61)).drew).grownBy w5 none ∧ w5.heap[W3.heap.size]? = some (.cells #[.int .i64 0, .int .i64 0, .int .i64 0, .int .i64 0, .slice none 0 0] 27 (0, 0)) ∧ W3.heap.size ≤ w5.heap.size) := fun _ => by
      refine (HCol.out ((W3.drew.alloc (.cells #[.int .i64 0, .int .i64 0, .int .i64 0, .int .i64 0, .slice none 0 0] 27)).alloc (.cells #[.slice (some ⟨g, 0, none⟩) xs.length cap] 61)) _ ((B30.out.alloc (Nat.le_refl _) _).alloc (by simp) _) (by simp [go_sem])).mono ?_
      rintro e w5 ⟨hg5, a, c, rfl, ho5⟩
      have hz : ((W3.drew.alloc (.cells #[.int .i64 0, .int .i64 0, .int .i64 0, .int .i64 0, .slice none 0 0] 27)).alloc (.cells #[.slice (some ⟨g, 0, none⟩) xs.length cap] 61)).heap.size ≤ w5.heap.size := hg5.size
      simp at hz
      exact ⟨a, c, rfl, OwnsR.base ho5 (by simp; omega), hg5, box5_grown ((Below.heap_alloc _ _ _ (by simp)).trans (World.alloc_heap_new W3.drew _)) hg5 (by simp), by omega⟩
    have HC1 : Hid (∀ u : Unit, Calls Try.prog 34 #[.func (.func 70) #[] #[.pointer (some ⟨W3.heap.size, 0, none⟩)]] (((W3.alloc (.cells #[.slice (some ⟨g, 0, none⟩) xs.length cap] 61)).alloc (.cells #[.int .i64 0, .int .i64 0, .int .i64 0, .int .i64 0, .slice none 0 0] 27)).drew) fun e w5 => ∃ a c, e = .returned (.slice a rs.length c) ∧ OwnsR W3.heap.size w5 (.slice a rs.length c) rs ∧ (((W3.alloc (.cells #[.slice (some ⟨g, 0, none⟩) xs.length cap] 61)).alloc (.cells #[.int .i64 0, .int .i64 0, .int .i64 0, .int .i64 0, .slice none 0 0] 27)).drew).grownBy w5 none ∧ w5.heap[W3.heap.size + 1]? = some (.cells #[.int .i64 0, .int .i64 0, .int .i64 0, .int .i64 0, .slice none 0 0] 27 (0, 0)) ∧ W3.heap.size ≤ w5.heap.size) := fun _ => by
      refine (HCol.out ((W3.drew.alloc (.cells #[.slice (some ⟨g, 0, none⟩) xs.length cap] 61)).alloc (.cells #[.int .i64 0, .int .i64 0, .int .i64 0, .int .i64 0, .slice none 0 0] 27)) _ ((B30.out.alloc (Nat.le_refl _) _).alloc (by simp) _) (by simp [go_sem])).mono ?_
      rintro e w5 ⟨hg5, a, c, rfl, ho5⟩
      have hz : ((W3.drew.alloc (.cells #[.slice (some ⟨g, 0, none⟩) xs.length cap] 61)).alloc (.cells #[.int .i64 0, .int .i64 0, .int .i64 0, .int .i64 0, .slice none 0 0] 27)).heap.size ≤ w5.heap.size := hg5.size
      have e := World.alloc_heap_new (W3.drew.alloc (.cells #[.slice (some ⟨g, 0, none⟩) xs.length cap] 61)) (.cells #[.int .i64 0, .int .i64 0, .int .i64 0, .int .i64 0, .slice none 0 0] 27)
      rw [World.size_alloc] at e
      simp at hz
      exact ⟨a, c, rfl, OwnsR.base ho5 (by simp; omega), hg5, box5_grown e hg5 (by simp), by omega⟩
    have HC2 : Hid (∀ u : Unit, Calls Try.prog 34 #[.func (.func 70) #[] #[.pointer (some ⟨W3.heap.size, 0, none⟩)]] ((W3.alloc (.cells #[.slice (some ⟨g, 0, none⟩) xs.length cap] 61)).drew) fun e w5 => ∃ a c, e = .returned (.slice a rs.length c) ∧ OwnsR W3.heap.size w5 (.slice a rs.length c) rs ∧ ((W3.alloc (.cells #[.slice (some ⟨g, 0, none⟩) xs.length cap] 61)).drew).grownBy w5 none ∧ W3.heap.size ≤ w5.heap.size) := fun _ => by
      refine (HCol.out (W3.drew.alloc (.cells #[.slice (some ⟨g, 0, none⟩) xs.length cap] 61)) _ (B30.out.alloc (Nat.le_refl _) _) (by simp [go_sem])).mono ?_
      rintro e w5 ⟨hg5, a, c, rfl, ho5⟩
      have hz : (W3.drew.alloc (.cells #[.slice (some ⟨g, 0, none⟩) xs.length cap] 61)).heap.size ≤ w5.heap.size := hg5.size
      simp at hz
      exact ⟨a, c, rfl, OwnsR.base ho5 (by simp), hg5, by omega⟩
    have HS0 : Hid (∀ (f t b z n : Int) (a : Option Addr) (l c X : Nat) (w5 : World), w5.heap[X]? = some (.cells #[.int .i64 0, .int .i64 0, .int .i64 0, .int .i64 0, .slice none 0 0] 27 (0, 0)) → Calls Try.prog 50 #[.agg #[.int .i64 f, .int .i64 t, .int .i64 b, .int .i64 z, .int .i64 n], .slice a l c] w5 fun e w6 => e = .returned (.agg #[.int .i64 f, .int .i64 t, .int .i64 b, .int .i64 z, .slice a l c]) ∧ Below w5.heap.size w5 w6 ∧ w6.heap[X]? = some (.cells #[.int .i64 0, .int .i64 0, .int .i64 0, .int .i64 0, .slice none 0 0] 27 (0, 0)) ∧ w5.heap.size ≤ w6.heap.size) := fun f t b z n a l c X w5 hz => by
      refine (hstream_any f t b z n a l c w5).mono ?_
      rintro e w6 ⟨rfl, hb⟩
      exact ⟨rfl, hb, box5_grown hz (gbelow (row := none) hb) (by simp), hb.size⟩
    have HS2 : Hid (∀ (f t b z n : Int) (a : Option Addr) (l c : Nat) (w5 : World), Calls Try.prog 50 #[.agg #[.int .i64 f, .int .i64 t, .int .i64 b, .int .i64 z, .int .i64 n], .slice a l c] (w5.alloc (.cells #[.int .i64 0, .int .i64 0, .int .i64 0, .int .i64 0, .slice none 0 0] 27)) fun e w6 => e = .returned (.agg #[.int .i64 f, .int .i64 t, .int .i64 b, .int .i64 z, .slice a l c]) ∧ Below (w5.alloc (.cells #[.int .i64 0, .int .i64 0, .int .i64 0, .int .i64 0, .slice none 0 0] 27)).heap.size (w5.alloc (.cells #[.int .i64 0, .int .i64 0, .int .i64 0, .int .i64 0, .slice none 0 0] 27)) w6 ∧ w6.heap[w5.heap.size]? = some (.cells #[.int .i64 0, .int .i64 0, .int .i64 0, .int .i64 0, .slice none 0 0] 27 (0, 0)) ∧ w5.heap.size ≤ w6.heap.size) := fun f t b z n a l c w5 => by
      refine (hstream_any f t b z n a l c _).mono ?_
      rintro e w6 ⟨rfl, hb⟩
      have hz := hb.size
      simp at hz
      exact ⟨rfl, hb, box5_grown (World.alloc_heap_new w5 _) (gbelow (row := none) hb) (by simp), by omega⟩
    have HS1 : Hid (∀ (f t b z n : Int) (a : Option Addr) (l c : Nat) (w5 : World), Calls Try.prog 50 #[.agg #[.int .i64 f, .int .i64 t, .int .i64 b, .int .i64 z, .int .i64 n], .slice a l c] w5 fun e w6 => e = .returned (.agg #[.int .i64 f, .int .i64 t, .int .i64 b, .int .i64 z, .slice a l c]) ∧ Below w5.heap.size w5 w6 ∧ w5.heap.size ≤ w6.heap.size) := fun f t b z n a l c w5 => by
      refine (hstream_any f t b z n a l c _).mono ?_
      rintro e w6 ⟨rfl, hb⟩
      exact ⟨rfl, hb, hb.size⟩
    have hS3 : W3.drew.cell? ⟨w2.heap.size, 0, none⟩ = some (.int .i64 d.f) ∧ W3.drew.cell? ⟨w2.heap.size, 1, none⟩ = some (.int .i64 d.t) ∧ W3.drew.cell? ⟨w2.heap.size, 2, none⟩ = some (.int .i64 d.b) ∧ W3.drew.cell? ⟨w2.heap.size, 3, none⟩ = some (.int .i64 d.z) ∧ W3.drew.cell? ⟨w2.heap.size, 4, none⟩ = some (.int .i64 d.all) ∧ Below W3.heap.size W3 W3.drew := ⟨c0, c1, c2, c3, c4, B30.out⟩
    have HS3 : Hid _ := hS3
    clear HCol hS3
    go_region_held3 (fun w' => w'.cell? ⟨w2.heap.size, 0, none⟩ = some (.int .i64 d.f) ∧ w'.cell? ⟨w2.heap.size, 1, none⟩ = some (.int .i64 d.t) ∧ w'.cell? ⟨w2.heap.size, 2, none⟩ = some (.int .i64 d.b) ∧ w'.cell? ⟨w2.heap.size, 3, none⟩ = some (.int .i64 d.z) ∧ w'.cell? ⟨w2.heap.size, 4, none⟩ = some (.int .i64 d.all) ∧ Below W3.heap.size W3 w')
      (first | with_reducible exact keepSet5 (by assumption) z3 hl5 | with_reducible exact keepSet5 (by assumption) z3 (Nat.le_refl _) | with_reducible exact keepSet5 (by assumption) z3 (Nat.le_succ _) | with_reducible exact keepS5 (by assumption) ((Below.refl _ _).alloc (Nat.le_refl _) _) z3 | with_reducible exact keepS5 (by assumption) (below_of_grown hg5) z3 | with_reducible exact keepS5 (by assumption) hb6 z3 | with_reducible exact keepAl (by assumption) z3 (Nat.le_trans hl5 hl6) | with_reducible exact HS3.out)
      (first | (go_at_call 51; refine (inTurn_any _ _ _ _).mono ?_; rintro e w4 ⟨rfl, rfl⟩) | (go_at_call 34; (with_reducible refine (HC2.out ()).mono ?_); rintro e w5 ⟨a, c, rfl, ho5, hg5, hl5⟩; have HO5 : Hid _ := ho5; clear ho5) | (go_at_call 34; (with_reducible refine (HC1.out ()).mono ?_); rintro e w5 ⟨a, c, rfl, ho5, hg5, hz5, hl5⟩; have HO5 : Hid _ := ho5; clear ho5) | (go_at_call 34; (with_reducible refine (HC0.out ()).mono ?_); rintro e w5 ⟨a, c, rfl, ho5, hg5, hz5, hl5⟩; have HO5 : Hid _ := ho5; clear ho5) | (go_at_call 50; (with_reducible refine (HS0.out _ _ _ _ _ _ _ _ _ _ hz5).mono ?_); rintro e w6 ⟨rfl, hb6, hz6, hl6⟩; obtain ⟨k0, k1, k2, k3, k4, -⟩ := box5_cells hz6; obtain ⟨m0, m1, m2, m3, m4⟩ := box5_froz hz6) | (go_at_call 50; (with_reducible refine (HS2.out _ _ _ _ _ _ _ _ _).mono ?_); rintro e w6 ⟨rfl, hb6, hz6, hl6⟩; obtain ⟨k0, k1, k2, k3, k4, -⟩ := box5_cells hz6; obtain ⟨m0, m1, m2, m3, m4⟩ := box5_froz hz6) | (go_at_call 50; (with_reducible refine (HS1.out _ _ _ _ _ _ _ _ _).mono ?_); rintro e w6 ⟨rfl, hb6, hl6⟩))
    · exact HREST.out w6.heap.size a c _ _ _ _ (World.alloc_heap_new _ _) (s5_below (b := w2.heap.size) (v0 := .int .i64 d.f) (v1 := .int .i64 d.t) (v2 := .int .i64 d.b) (v3 := .int .i64 d.z) (v4 := .int .i64 d.all) (by assumption)) (Nat.le_trans hl5 hl6) (OwnsR.alloc (OwnsR.kept HO5.out (gbelow hb6)) _)
    · exact HREST.out w5.heap.size a c _ _ _ _ (fill5 hz6) (s5_below (b := w2.heap.size) (v0 := .int .i64 d.f) (v1 := .int .i64 d.t) (v2 := .int .i64 d.b) (v3 := .int .i64 d.z) (v4 := .int .i64 d.all) (by assumption)) hl5 (OwnsR.setT5 (OwnsR.kept (OwnsR.alloc HO5.out _) (gbelow hb6)) hz6 (by decide))
    · exact HREST.out (W3.heap.size + 1) a c _ _ _ _ (fill5 hz6) (s5_below (b := w2.heap.size) (v0 := .int .i64 d.f) (v1 := .int .i64 d.t) (v2 := .int .i64 d.b) (v3 := .int .i64 d.z) (v4 := .int .i64 d.all) (by assumption)) (Nat.le_succ _) (OwnsR.setT5 (OwnsR.kept HO5.out (gbelow hb6)) hz6 (by decide))
    · exact HREST.out W3.heap.size a c _ _ _ _ (fill5 hz6) (s5_below (b := w2.heap.size) (v0 := .int .i64 d.f) (v1 := .int .i64 d.t) (v2 := .int .i64 d.b) (v3 := .int .i64 d.z) (v4 := .int .i64 d.all) (by assumption)) (Nat.le_refl _) (OwnsR.setT5 (OwnsR.kept HO5.out (gbelow hb6)) hz6 (by decide))
end Go.Proofs.Ytkmeingnhaomaab
/- The reference's Join. -/
namespace Go.Proofs.Ytkmeingnhaomaab
open Go.RowKit Go.Shelf

end Go.Proofs.Ytkmeingnhaomaab
/- The program's Join. -/
namespace Go.Proofs.Ytkmeingnhaomaab
open Go.RowKit Go.Shelf

theorem sk_of {B : Nat} {W : World} : ∀ (ps : List (Ck × Value)), ReadCs B W ps → ∃ xs : List Sk, xs.map skP = ps
  | [], _ => ⟨[], rfl⟩
  | p :: ps, h => by
    obtain ⟨xs, hx⟩ := sk_of ps (fun q hq => h q (List.mem_cons_of_mem _ hq))
    obtain ⟨a, n, c, e⟩ := (h p (by simp)).slice
    refine ⟨(p.1, a, n, c) :: xs, ?_⟩
    rw [List.map_cons, hx]
    show ((p.1, Value.slice a n c) : Ck × Value) :: ps = p :: ps
    rw [← e]
theorem chunks_err : ∀ (xs : List (List UInt8)) (k : Int), chunksOf xs = .inl k → 2 ≤ k ∧ k ≤ 8
  | [], k, h => by cases h
  | x :: xs, k, h => by
    rw [chunksOf] at h
    cases hx : chunkR x with
    | inl k' =>
      rw [hx] at h
      simp only [Sum.inl.injEq] at h
      rw [← h]
      exact chunkR_err x k' hx
    | inr c0 =>
      rw [hx] at h
      simp only [] at h
      cases h2 : chunksOf xs with
      | inl k' =>
        rw [h2] at h
        simp only [Sum.inl.injEq] at h
        rw [← h]
        exact chunks_err xs k' h2
      | inr cs0 => rw [h2] at h; cases h
theorem fresh_row {w w1 w2 : World} {g : Nat} (h1 : w.grownBy w1 none) (h2 : w1.grownBy w2 (some g)) (hg : w.heap.size ≤ g) : w.grownBy w2 none := grown_fresh h1 h2 hg

set_option maxRecDepth 100000 in
set_option maxHeartbeats 2000000 in
theorem pjoin (sv : Value) (ts : List (List UInt8)) (w : World) (hT : Txs w.heap.size w sv ts) (hl : ∀ t ∈ ts, t.length ≤ 4611686018427387904) (htl : ts.length ≤ 4611686018427387904) :
    Calls Try.prog 12 #[sv] w (ToldJ ts w) := by
  have HR : Hid (∀ u : Unit, _) := fun _ => readAll_any sv ts w hT hl htl
  obtain ⟨a, c, rfl⟩ := hT.slice
  have hmf : ∀ (fn : Fn) (first cap : Array Value) (w : World), (Instr.makeFunc fn first cap).run Try.prog w = .ok (.func fn first cap) w := fun _ _ _ _ => rfl
  clear hT hl
  go_enter Try.func12, Try.ntmps12
  go_wp2_with fail
  refine (HR.out ()).mono ?_
  rintro e w1 (⟨hn, hg, rfl⟩ | ⟨h1, h100, hg, (⟨k, hk, rfl⟩ | ⟨ps, g, hk, rfl, ho, hr⟩)⟩)
  · have HJ : Hid (joinR ts = .inl 1) := by
      show _ = _
      unfold joinR
      rw [if_pos hn]
    have HG : Hid _ := hg
    clear hn hg HR
    go_wp2
    go_ret2
    exact ⟨HG.out, .inl ⟨1, HJ.out, rfl⟩⟩
  · have hke := chunks_err ts k hk
    have e1 : (k != 0) = true := by simp; omega
    have HJ : Hid (joinR ts = .inl k) := by
      show _ = _
      unfold joinR
      rw [if_neg (by omega), hk]
      rfl
    have HG : Hid _ := hg
    clear hg HR hk hke
    go_wp2
    go_ret2
    exact ⟨HG.out, .inl ⟨k, HJ.out, rfl⟩⟩
  · obtain ⟨xs, hx⟩ := sk_of ps hr
    have hlen : xs.length = ts.length := by
      have e1 := chunksOf_length _ _ hk
      rw [← hx] at e1
      simpa using e1
    have hgB : w.heap.size ≤ g := by
      rcases ho.2 with ⟨e0, _⟩ | ⟨g', cap, cur, e0, hb, _⟩
      · cases e0
      · simp only [Value.slice.injEq, Option.some.injEq, Addr.mk.injEq] at e0
        obtain ⟨⟨rfl, -, -⟩, -, -⟩ := e0
        exact hb
    have hmem : ∀ x ∈ xs, CkOk x.1 ∧ x.1.nu < x.1.many := fun x hxm => by
      have hm : x.1 ∈ ps.map Prod.fst := by
        rw [← hx, List.map_map]
        exact List.mem_map.2 ⟨x, hxm, rfl⟩
      exact ⟨chunksOf_mem _ _ hk _ hm, chunksOf_nu _ _ hk _ hm⟩
    have hJC : joinR ts = joinC (.inr (xs.map (·.1))) := by
      unfold joinR
      rw [if_neg (by omega), hk, ← hx, List.map_map]
      rfl
    have HJ : Hid _ := hJC
    have HD : Hid (∀ u : Unit, _) := fun _ => joined_any g ts.length w.heap.size xs w1 (by rw [hlen, hx]; exact ho) (by omega) (by omega) (fun x hxm => hr (skP x) (by rw [← hx]; exact List.mem_map.2 ⟨x, hxm, rfl⟩)) hmem
    rw [hlen] at HD
    have HG : Hid _ := hg
    clear hg HR hk hr ho hx hmem hJC
    go_wp2_with fail
    refine (HD.out ()).mono ?_
    rintro e w2 ⟨hg2, (⟨hj, f, t, b, z, a', n', c', rfl⟩ | ⟨f, t, b, z, sv', rs, hj, hw, hro, hrec, rfl⟩)⟩
    · have HA : Hid (joinR ts = .inl 13) := HJ.out.trans hj
      have G2 : Hid (w.grownBy w2 none) := fresh_row HG.out hg2 hgB
      clear hj hg2 HD
      go_wp2
      go_ret2
      exact ⟨gallocR G2.out _, .inl ⟨13, HA.out, rfl⟩⟩
    · have HA : Hid (joinR ts = .inr (f, t, b, z, rs)) := HJ.out.trans hj
      have G2 : Hid (w.grownBy w2 none) := fresh_row HG.out hg2 hgB
      obtain ⟨a', c', rfl⟩ := hrec.slice
      obtain ⟨W3, hW3⟩ : ∃ W3, W3 = w2.alloc (.cells #[.int .i64 f, .int .i64 t, .int .i64 b, .int .i64 z, .slice a' rs.length c'] 27) := ⟨_, rfl⟩
      have HW : Hid (∀ u : Unit, _) := fun _ => write_any f t b z (.slice a' rs.length c') rs W3 (by rw [hW3]; exact hrec.moved ((Below.refl _ _).alloc (Nat.le_refl _) _)) hw hro
      have G3 : Hid (w.grownBy W3 none) := by rw [hW3]; exact gallocR G2.out _
      clear hj hg2 HD hrec hw hro
      go_wp2_with fail
      rw [← hW3]
      clear hW3
      refine (HW.out ()).mono ?_
      rintro e w4 ⟨rfl, hb⟩
      have G4 : Hid (w.grownBy w4 none) := gtrans G3.out (gbelow hb)
      clear hb HW
      go_wp2
      go_ret2
      exact ⟨G4.out, .inr ⟨f, t, b, z, rs, HA.out, rfl⟩⟩
end Go.Proofs.Ytkmeingnhaomaab
/- Lists of texts that are owned, written into and looked at again. -/
namespace Go.Proofs.Ytkmeingnhaomaab
open Go.RowKit Go.Shelf

theorem Try.infoStrs : (Try.prog.info? 37).map (fun i => (i.zero, i.size, i.bytes)) = some (some (.slice none 0 0), 1, 24) := by kernel_rfl

/-- The slice value sv holds the texts cs, in a block below B; or there are none. -/
def Tss (B : Nat) (W : World) (sv : Value) (cs : List ByteArray) : Prop :=
  (cs = [] ∧ ∃ a cap, sv = .slice a 0 cap) ∨ ∃ b off cap, sv = .slice (some ⟨b, off, none⟩) cs.length cap ∧ b < B ∧
    ∀ j (h : j < cs.length), W.cell? ⟨b, off + j, none⟩ = some (.string cs[j])
theorem Tss.moved {W W' : World} {sv : Value} {cs : List ByteArray} (h : Tss W.heap.size W sv cs) (hb : Below W.heap.size W W') : Tss W'.heap.size W' sv cs := by
  rcases h with h | ⟨b, off, cap, e, hlt, hc⟩
  · exact .inl h
  · exact .inr ⟨b, off, cap, e, Nat.lt_of_lt_of_le hlt hb.size, fun j hj => (hb.cell (p := ⟨b, _, none⟩) hlt).trans (hc j hj)⟩
theorem Tss.slice {B : Nat} {W : World} {sv : Value} {cs : List ByteArray} (h : Tss B W sv cs) : ∃ a cap, sv = .slice a cs.length cap := by
  rcases h with ⟨rfl, a, cap, e⟩ | ⟨b, off, cap, e, _⟩
  · exact ⟨a, cap, e⟩
  · exact ⟨_, cap, e⟩
theorem Tss.at {B : Nat} {W : World} {a : Option Addr} {l cap : Nat} {cs : List ByteArray} (h : Tss B W (.slice a l cap) cs) {k : Nat} (hk : k < cs.length) :
    ∃ b off, a = some ⟨b, off, none⟩ ∧ b < B ∧ W.cell? ⟨b, off + k, none⟩ = some (.string cs[k]) := by
  rcases h with ⟨rfl, _⟩ | ⟨b, off, cap', e, hlt, hc⟩
  · simp at hk
  · simp only [Value.slice.injEq] at e
    exact ⟨b, off, e.1, hlt, hc k hk⟩

def strVals (cs : List ByteArray) : List Value := cs.map Value.string
theorem strVals_snoc (cs : List ByteArray) (r : ByteArray) : strVals (cs ++ [r]) = strVals cs ++ [.string r] := by simp [strVals]
theorem strVals_length (cs : List ByteArray) : (strVals cs).length = cs.length * 1 := by simp [strVals]
theorem strVals_at (cs : List ByteArray) (j : Nat) (h : j < cs.length) : (strVals cs)[j]? = some (.string cs[j]) := by simp [strVals, h]
theorem strVals_set (cs : List ByteArray) (k : Nat) (r : ByteArray) : strVals (cs.set k r) = (strVals cs).set k (.string r) := by simp [strVals, List.map_set]

/-- v owns the texts cs, in a block from B on. -/
def OwnsS (B : Nat) (w : World) (v : Value) (cs : List ByteArray) : Prop := w.ownsRow B 9 1 v cs.length (strVals cs)
theorem ownsS_snoc {B : Nat} {W : World} {v : Value} {pre : List ByteArray} {x : ByteArray} (h : W.ownsRow B 9 1 v (pre.length + 1) (strVals pre ++ [.string x])) : OwnsS B W v (pre ++ [x]) := by
  unfold OwnsS
  rw [strVals_snoc, List.length_append]
  exact h
theorem OwnsS.slice {B : Nat} {W : World} {v : Value} {cs : List ByteArray} (h : OwnsS B W v cs) : ∃ a cp, v = .slice a cs.length cp := by
  rcases h.2 with ⟨rfl, h0⟩ | ⟨g, cap, cur, rfl, _⟩
  · exact ⟨none, 0, by rw [h0]⟩
  · exact ⟨_, _, rfl⟩
theorem OwnsS.own_ge {B : Nat} {W : World} {v : Value} {cs : List ByteArray} (h : OwnsS B W v cs) : ∀ g, v.ownBlock = some g → B ≤ g := by
  intro g e
  rcases h.2 with ⟨rfl, _⟩ | ⟨g', cap, cur, rfl, hb, _⟩
  · simp [Value.ownBlock] at e
  · obtain rfl : g' = g := by simpa [Value.ownBlock] using e
    exact hb
theorem OwnsS.kept {B : Nat} {W W' : World} {v : Value} {cs : List ByteArray} (h : OwnsS B W v cs) (hg : W.grownBy W' none) : OwnsS B W' v cs := by
  refine World.ownsRow.kept h hg ?_
  rcases h.2 with ⟨rfl, _⟩ | ⟨g, cap, cur, rfl, _⟩
  · exact .inl rfl
  · exact .inr (by simp [Value.ownBlock])
theorem OwnsS.alloc {B : Nat} {W : World} {v : Value} {cs : List ByteArray} (h : OwnsS B W v cs) (o : Obj) : OwnsS B (W.alloc o) v cs := World.ownsRow.alloc h o
theorem OwnsS.base {B B' : Nat} {W : World} {v : Value} {cs : List ByteArray} (h : OwnsS B W v cs) (hb : B' ≤ B) : OwnsS B' W v cs := by
  refine ⟨h.1, ?_⟩
  rcases h.2 with hn | ⟨g, cap, cur, hv, hbg, rest⟩
  · exact .inl hn
  · exact .inr ⟨g, cap, cur, hv, Nat.le_trans hb hbg, rest⟩
theorem OwnsS.row {B : Nat} {W : World} {g n cap : Nat} {cs : List ByteArray} (h : OwnsS B W (.slice (some ⟨g, 0, none⟩) n cap) cs) (j : Nat) (hj : j < cs.length) :
    W.cell? ⟨g, j, none⟩ = some (.string cs[j]) := by
  have h0 : W.ownsRow B 9 1 (.slice (some ⟨g, 0, none⟩) n cap) cs.length (strVals cs) := h
  have e0 := strVals_at cs j hj
  obtain ⟨rfl⟩ : n = cs.length := by
    rcases h0.2 with ⟨e, _⟩ | ⟨g', cap', cur, e, _⟩
    · cases e
    · cases e; rfl
  have c0 := h0.cells (g := g) rfl _ _ e0
  simp only [Addr.add_lit, Nat.zero_add] at c0 ⊢
  exact c0
theorem OwnsS.store {B : Nat} {W : World} {g n cap : Nat} {cs : List ByteArray} (h : OwnsS B W (.slice (some ⟨g, 0, none⟩) n cap) cs) (k : Nat) (r : ByteArray) :
    OwnsS B (W.setCell ⟨g, k, none⟩ (.string r)) (.slice (some ⟨g, 0, none⟩) n cap) (cs.set k r) := by
  have h0 : W.ownsRow B 9 1 (.slice (some ⟨g, 0, none⟩) n cap) cs.length (strVals cs) := h
  rcases h0.2 with ⟨e, _⟩ | ⟨g', cap', cur, e, hb, hg, h1, h2, h3, h4⟩
  · cases e
  cases e
  have b1 := block_set (i := k) hg (.string r)
  have hlen : (strVals (cs.set k r)).length = (cs.set k r).length * 1 := strVals_length _
  refine ⟨hlen, .inr ⟨g, cap, _, by rw [List.length_set], hb, b1, by rw [List.length_set]; exact h1, h2, by simpa using h3, ?_⟩⟩
  rw [List.length_set, strVals_set, ← h4]
  simp only [Array.toList_setIfInBounds, List.take_set]

/-- A list that lies from the front of a block below N. -/
def OldS (N : Nat) (W : World) (s : Value) (xs : List ByteArray) : Prop :=
  (xs = [] ∧ ∃ a cap, s = .slice a 0 cap) ∨ ∃ b cap, s = .slice (some ⟨b, 0, none⟩) xs.length cap ∧ b < N ∧
    ∀ j (h : j < xs.length), W.cell? ⟨b, j, none⟩ = some (.string xs[j])
theorem OwnsS.old {B : Nat} {W : World} {v : Value} {cs : List ByteArray} (h : OwnsS B W v cs) : OldS W.heap.size W v cs := by
  rcases h.2 with ⟨rfl, hn⟩ | ⟨g, cap, cur, rfl, _, hg, _⟩
  · exact .inl ⟨List.eq_nil_of_length_eq_zero hn, none, 0, rfl⟩
  · exact .inr ⟨g, cap, rfl, (Array.getElem?_eq_some_iff.1 hg).1, h.row⟩
theorem OldS.tss {N : Nat} {W : World} {v : Value} {cs : List ByteArray} (h : OldS N W v cs) : Tss N W v cs := by
  rcases h with h | ⟨b, cap, e, hb, hc⟩
  · exact .inl h
  · refine .inr ⟨b, 0, cap, e, hb, fun j hj => ?_⟩
    have := hc j hj
    simpa only [Nat.zero_add] using this
theorem OwnsS.tss {B : Nat} {W : World} {v : Value} {cs : List ByteArray} (h : OwnsS B W v cs) : Tss W.heap.size W v cs := h.old.tss
theorem OldS.mono {N N' : Nat} {W : World} {v : Value} {cs : List ByteArray} (h : OldS N W v cs) (hN : N ≤ N') : OldS N' W v cs := by
  rcases h with h | ⟨b, cap, e, hb, hc⟩
  · exact .inl h
  · exact .inr ⟨b, cap, e, Nat.lt_of_lt_of_le hb hN, hc⟩
theorem OldS.below {N : Nat} {W W' : World} {v : Value} {cs : List ByteArray} (h : OldS N W v cs) (hb : ∀ k, k < N → W'.heap[k]? = W.heap[k]?) : OldS N W' v cs := by
  rcases h with h | ⟨b, cap, e, hlt, hc⟩
  · exact .inl h
  · exact .inr ⟨b, cap, e, hlt, fun j hj => (World.cell?_of_block (hb b hlt)).trans (hc j hj)⟩
theorem OldS.room {B N : Nat} {W W' : World} {s : Value} {xs cs : List ByteArray} {r : ByteArray} {g n n' cap cap' : Nat} (h : OldS N W s xs) (ho : OwnsS B W (.slice (some ⟨g, 0, none⟩) n cap) cs) (ho' : OwnsS B W' (.slice (some ⟨g, 0, none⟩) n' cap') (cs ++ [r])) (hg : W.grownBy W' (some g)) (hN : N ≤ W.heap.size) (hl : xs.length ≤ cs.length) : OldS N W' s xs := by
  rcases h with h | ⟨b, c, e, hlt, hc⟩
  · exact .inl h
  · refine .inr ⟨b, c, e, hlt, fun j hj => ?_⟩
    have h0 := hc j hj
    by_cases hbg : b = g
    · subst hbg
      have o0 := ho.row j (by omega)
      have p0 := ho'.row j (by rw [List.length_append]; omega)
      rw [List.getElem_append_left (by omega)] at p0
      rw [h0] at o0
      exact p0.trans o0.symm
    · exact (World.cell?_of_block (hg.block b (Nat.lt_of_lt_of_le hlt hN) (by simpa using hbg))).trans h0
theorem OldS.other {N : Nat} {W W' : World} {s : Value} {xs : List ByteArray} {go : Nat} {a : Option Addr} {l c : Nat} (h : OldS N W s xs) (hg : W.grownBy W' (some go)) (hN : N ≤ W.heap.size) (hc : W.cell? ⟨go, 0, none⟩ = some (.slice a l c)) : OldS N W' s xs := by
  rcases h with h | ⟨b, cap, e, hlt, hcs⟩
  · exact .inl h
  · refine .inr ⟨b, cap, e, hlt, fun j hj => ?_⟩
    have h0 := hcs j hj
    have hne : b ≠ go := by
      rintro rfl
      have := hcs 0 (by omega)
      rw [hc] at this
      cases this
    exact (World.cell?_of_block (hg.block b (Nat.lt_of_lt_of_le hlt hN) (by simpa using hne))).trans h0
theorem OldS.alloc {N : Nat} {W : World} {s : Value} {xs : List ByteArray} (h : OldS N W s xs) (hN : N ≤ W.heap.size) (o : Obj) : OldS N (W.alloc o) s xs := h.below fun k hk => Below.heap_alloc W o k (by omega)
theorem OldS.slice {N : Nat} {W : World} {s : Value} {xs : List ByteArray} (h : OldS N W s xs) : ∃ a cap, s = .slice a xs.length cap := h.tss.slice

/-- **'g = append(g, r)': the lists ahead stay.** -/
theorem wpList_append_sw (w : World) {ops : Array Oper} {rest : List Oper} {o : Oper} {a : Act} {Q : Exit → Act → World → Prop} (hgd : o.guard = none) (s x : Operand)
    (ho : o.op = .call { callee := .builtin .append, args := #[s, x], argTypes := #[37, 37] })
    (B : Nat) (v : Value) (cs : List ByteArray) (hs : a.eval s = v) (hown : OwnsS B w v cs) (ad : Addr) (r : ByteArray) (hx : a.eval x = .slice (some ad) 1 1)
    (hnews : ∀ j u, [Value.string r][j]? = some u → w.cell? (ad.add j) = some u) (hl : cs.length ≤ 2000) (hB : B ≤ w.heap.size)
    (h : ∀ v' w', OwnsS B w' v' (cs ++ [r]) → w.grownBy w' v.ownBlock → (∀ N sv xs, N ≤ w.heap.size → xs.length ≤ cs.length → OldS N w sv xs → OldS N w' sv xs) → (v'.ownBlock = v.ownBlock ∨ ∀ g, v'.ownBlock = some g → w.heap.size ≤ g) → wpList Try.prog ops Q rest (a.put o.dst v') w') : wpList Try.prog ops Q (o :: rest) a w := by
  obtain ⟨i0, hi, hz0, hz1, hz2⟩ := info_parts Try.infoStr
  have hml : cs.length + 1 ≤ maxLen := Nat.le_trans (show cs.length + 1 ≤ 2001 by omega) (by decide)
  have h0 : w.ownsRow B 9 1 v cs.length (strVals cs) := hown
  have h1c : ∀ u ∈ [Value.string r], u.oneCell' = true := by simp [Value.oneCell']
  rcases h0.2 with ⟨rfl, hn⟩ | ⟨g, cap, cur, rfl, _⟩
  · obtain rfl : cs = [] := List.eq_nil_of_length_eq_zero hn
    refine wpList_append_own w hgd s x 37 ho w.heap.size 9 i0 _ 1 16 Try.underlying37 hi hz0 hz1 hz2 rfl (by decide) _ _ _ hs (World.ownsRow_nil _ _ _ _) ad 1 1 _ hx rfl hnews h1c hml (by omega) (Nat.le_refl _) ?_
    intro v' w' ho' hg' _
    have hO : OwnsS w.heap.size w' v' ([] ++ [r]) := ownsS_snoc (pre := []) ho'
    exact h v' w' (hO.base hB) hg' (fun N sv xs hN _ hold => hold.below (fun k hk => hg'.block k (by omega) (by simp [Value.ownBlock]))) (.inr hO.own_ge)
  · by_cases hroom : cs.length + 1 ≤ cap
    · refine wpList_append_own_spare w hgd s x 37 ho B 9 i0 1 Try.underlying37 hi hz1 g cs.length cap _ hs h0 ad 1 1 _ hx rfl hnews h1c hroom ?_
      intro w' ho' hg'
      exact h _ w' (ownsS_snoc ho') hg' (fun N sv xs hN hxl hold => hold.room hown (ownsS_snoc ho') hg' hN hxl) (.inl rfl)
    · refine wpList_append_grows w hgd s x 37 ho 9 i0 _ 1 16 Try.underlying37 hi hz0 hz1 hz2 rfl (by decide) (some ⟨g, 0, none⟩) cs.length cap (strVals cs) hs (fun e => by cases e) h0.1 (fun b e j u hj => by cases e; exact h0.cells (g := g) rfl j u hj) ad 1 1 _ hx rfl hnews h1c (by omega) hml (by omega) ?_
      intro v' w' ho' hg'
      have hO : OwnsS w.heap.size w' v' (cs ++ [r]) := ownsS_snoc ho'
      refine h v' w' (hO.base hB) ?_ (fun N sv xs hN _ hold => hold.below (fun k hk => hg'.block k (by omega) (by simp))) (.inr hO.own_ge)
      exact ⟨hg'.os, hg'.tape, hg'.output, hg'.size, fun j hj _ => hg'.block j hj (by simp)⟩

/-- Four lists, each as its owner left it. -/
def MarkedS (N : Nat) (W : World) (vo : Value) (m : ByteArray) (n : Nat) : Prop :=
  ∃ (g cap : Nat) (ss : List Value), vo = .slice (some ⟨g, 0, none⟩) 4 cap ∧ g < N ∧ ss.length = 4 ∧ ∀ j (h : j < ss.length), W.cell? ⟨g, j, none⟩ = some ss[j] ∧ OldS N W ss[j] (List.replicate (n + j) m)
theorem MarkedS.below {N : Nat} {W W' : World} {vo : Value} {m : ByteArray} {n : Nat} (h : MarkedS N W vo m n) (hb : Below N W W') : MarkedS N W' vo m n := by
  obtain ⟨g, cap, ss, e, hg, hl, hc⟩ := h
  exact ⟨g, cap, ss, e, hg, hl, fun j hj => ⟨(hb.cell (p := ⟨g, j, none⟩) hg).trans (hc j hj).1, (hc j hj).2.below hb.block⟩⟩
theorem rows_neS {B B' : Nat} {W : World} {v vo : Value} {cs : List ByteArray} {k : Nat} {ss : List Value} (h : OwnsS B W v cs) (ho : W.ownsRow B' 37 1 vo k ss) : (vo.ownBlock = none ∨ vo.ownBlock ≠ v.ownBlock) ∧ (v.ownBlock = none ∨ v.ownBlock ≠ vo.ownBlock) := by
  rcases h.2 with ⟨rfl, _⟩ | ⟨g, cap, cur, rfl, _, hgb, _⟩
  · refine ⟨?_, .inl rfl⟩
    rcases ho.2 with ⟨rfl, _⟩ | ⟨g', cap', cur', rfl, _⟩
    · exact .inl rfl
    · exact .inr (by simp [Value.ownBlock])
  · rcases ho.2 with ⟨rfl, _⟩ | ⟨g', cap', cur', rfl, _, hgb', _⟩
    · exact ⟨.inl rfl, .inr (by simp [Value.ownBlock])⟩
    · have hne : g ≠ g' := by
        rintro rfl
        rw [hgb] at hgb'
        simp only [Option.some.injEq, Obj.cells.injEq] at hgb'
        exact absurd hgb'.2.1 (by decide)
      exact ⟨.inr (by simpa [Value.ownBlock] using fun e => hne e.symm), .inr (by simpa [Value.ownBlock] using hne)⟩
theorem mark_setS (cs : List ByteArray) (k : Nat) (r : ByteArray) (h : k < cs.length) : (List.replicate k r ++ cs.drop k).set k r = List.replicate (k + 1) r ++ cs.drop (k + 1) := by
  rw [List.set_append_right _ _ (by simp)]
  simp only [List.length_replicate, Nat.sub_self]
  rw [List.drop_eq_getElem_cons h, List.set_cons_zero, List.replicate_succ']
  simp
end Go.Proofs.Ytkmeingnhaomaab
/- strandlaw's ownTexts, sameTexts and keptTexts. -/
namespace Go.Proofs.Ytkmeingnhaomaab
open Go.RowKit Go.Shelf

theorem OwnsS.slice3 {B : Nat} {W : World} {v : Value} {cs : List ByteArray} (h : OwnsS B W v cs) : ∃ a ln cp, v = .slice a ln cp := by
  obtain ⟨a, cp, e⟩ := h.slice
  exact ⟨a, _, cp, e⟩
theorem row_throughS {B B' : Nat} {W W' : World} {v vo : Value} {rs : List ByteArray} {k : Nat} {ss : List Value} {o : Obj} (h : OwnsS B W v rs) (ho : W.ownsRow B' 37 1 vo k ss) (hg : (W.alloc o).grownBy W' v.ownBlock) : W'.ownsRow B' 37 1 vo k ss :=
  World.ownsRow.kept (World.ownsRow.alloc ho o) hg (rows_neS (h.alloc o) (World.ownsRow.alloc ho o)).1

/-- A round of ownRecords' second loop. -/
theorem own_roundS {w wr w3 w5 : World} {B n k : Nat} {m : ByteArray} {vg v' out : Value} {r : Option Nat} {ss : List Value} {t1 t2 : Obj}
    (hsl : ss.length = k + 1) (HR : wr.ownsRow w.heap.size 37 1 out (k + 1) ss) (H0 : ∃ a0 l0 c0, ss[0]? = some (.slice a0 l0 c0)) (HO : OwnsS B wr vg (List.replicate (n + k) m))
    (HL : ∀ j (h : j < ss.length), OldS wr.heap.size wr ss[j] (List.replicate (n + j) m)) (HG : w.grownBy wr r) (HA : vg.ownBlock = r ∨ ∀ x, vg.ownBlock = some x → w.heap.size ≤ x)
    (O3 : OwnsS B w3 v' (List.replicate (n + k) m ++ [m])) (G3 : (wr.alloc t1).grownBy w3 vg.ownBlock)
    (L3 : ∀ N sv xs, N ≤ (wr.alloc t1).heap.size → xs.length ≤ (List.replicate (n + k) m).length → OldS N (wr.alloc t1) sv xs → OldS N w3 sv xs)
    (A3 : v'.ownBlock = vg.ownBlock ∨ ∀ g, v'.ownBlock = some g → (wr.alloc t1).heap.size ≤ g)
    (hg5 : (w3.alloc t2).grownBy w5 out.ownBlock) :
    (ss ++ [v']).length = k + 1 + 1 ∧ (∃ a0 l0 c0, (ss ++ [v'])[0]? = some (.slice a0 l0 c0)) ∧ OwnsS B w5 v' (List.replicate (n + (k + 1)) m) ∧
      (∀ j (h : j < (ss ++ [v']).length), OldS w5.heap.size w5 (ss ++ [v'])[j] (List.replicate (n + j) m)) ∧ w.grownBy w5 r ∧ (v'.ownBlock = r ∨ ∀ x, v'.ownBlock = some x → w.heap.size ≤ x) := by
  have R3 := row_throughS HO HR G3
  have erep : List.replicate (n + k) m ++ [m] = List.replicate (n + (k + 1)) m := by
    rw [← Nat.add_assoc, List.replicate_succ']
  have hs3 : wr.heap.size + 1 ≤ w3.heap.size := by have := G3.size; simpa using this
  have hs5 : w3.heap.size + 1 ≤ w5.heap.size := by have := hg5.size; simpa using this
  obtain ⟨a0, l0, c0, h00⟩ := H0
  obtain ⟨go, hgo, hc0, hge⟩ : ∃ go, out.ownBlock = some go ∧ (w3.alloc t2).cell? ⟨go, 0, none⟩ = some (.slice a0 l0 c0) ∧ w.heap.size ≤ go := by
    have R3a := World.ownsRow.alloc R3 t2
    rcases R3a.2 with ⟨_, h⟩ | ⟨go, cap, cur, e, hbg, _⟩
    · omega
    · have hgo : out.ownBlock = some go := by rw [e]; rfl
      have := R3a.cells hgo 0 _ h00
      rw [Addr.add_lit] at this
      exact ⟨go, hgo, this, hbg⟩
  refine ⟨by rw [List.length_append, hsl]; rfl, ⟨a0, l0, c0, by rw [List.getElem?_append_left (by omega)]; exact h00⟩, ?_, ?_, ?_, ?_⟩
  · rw [← erep]
    exact World.ownsRow.kept (OwnsS.alloc O3 t2) hg5 (rows_neS (OwnsS.alloc O3 t2) (World.ownsRow.alloc R3 t2)).2
  · intro j hj
    rw [List.length_append, hsl] at hj
    simp only [List.length_cons, List.length_nil, Nat.zero_add] at hj
    rw [hgo] at hg5
    by_cases hjk : j < k + 1
    · rw [List.getElem_append_left (by omega)]
      have h1 := (HL j (by omega)).alloc (Nat.le_refl _) t1
      have h2 := L3 wr.heap.size _ _ (by simp) (by simp; omega) h1
      have h3 := h2.alloc (by omega) t2
      exact (h3.other hg5 (by simp; omega) hc0).mono (by omega)
    · obtain rfl : j = k + 1 := by omega
      rw [List.getElem_append_right (by omega)]
      have h2 := O3.old
      rw [erep] at h2
      have h3 := h2.alloc (Nat.le_refl _) t2
      have h4 := (h3.other hg5 (by simp) hc0).mono (show w3.heap.size ≤ w5.heap.size by omega)
      simpa [hsl] using h4
  · have g1 := grow_own (gallocR HG t1) G3 HA
    exact grow_own (gallocR g1 t2) hg5 (.inr fun x e => by rw [hgo] at e; cases e; exact hge)
  · rcases A3 with e | h
    · rw [e]
      exact HA
    · refine .inr fun x e => ?_
      have := h x e
      have := HG.size
      simp at *
      omega

end Go.Proofs.Ytkmeingnhaomaab
/- The walk of Splits. -/
namespace Go.Proofs.Ytkmeingnhaomaab
open Go.RowKit Go.Shelf

def mkB (q : List UInt8) : ByteArray := ⟨q.toArray⟩
theorem own1_strs {B : Nat} {W : World} {v : Value} {ts : List (List UInt8)} (h : Own1 9 B W v (ts.map texV)) : OwnsS B W v (ts.map mkB) := by
  have e : strVals (ts.map mkB) = ts.map texV := by
    unfold strVals
    rw [List.map_map]
    rfl
  unfold OwnsS
  rw [e, List.length_map]
  have h0 : W.ownsRow B 9 1 v (ts.map texV).length (ts.map texV) := h
  rwa [List.length_map] at h0
theorem splitR_len (l : List UInt8) (limit : Int) (ts : List (List UInt8)) (h : splitR l limit = .inr ts) : ts.length ≤ 200 := by
  unfold splitR at h
  split at h
  · cases h
  · rename_i f t b z rs hp
    split at h
    · cases h
    · simp only [Sum.inr.injEq] at h
      rw [← h]
      obtain ⟨-, hw, hok⟩ := parse_exact l f t b z rs hp
      obtain ⟨h1, h2, h3, h4, h5, h6, h7, h8, h9⟩ : (0 : Int) ≤ f ∧ (f : Int) ≤ 2147483647 ∧ (1 : Int) ≤ t ∧ (t : Int) ≤ 2147483647 ∧ (f : Int) ≠ t ∧ (1 : Int) ≤ b ∧ (b : Int) ≤ 100 ∧ (1 : Int) ≤ z ∧ (z : Int) ≤ 64 := of_decide_eq_true hw
      have hl := recsOk_length b z rs hok (by omega)
      have hu := (stK_up limit rs rs.length (Nat.le_refl _)).2.2.1
      simp only [chunksR, List.length_map, List.length_range]
      show (stK limit rs rs.length).1.length ≤ 200
      omega
theorem splitR_err (l : List UInt8) (limit : Int) (k : Int) (h : splitR l limit = .inl k) : 2 ≤ k ∧ k ≤ 12 := by
  unfold splitR at h
  split at h
  · rename_i k' hp
    simp only [Sum.inl.injEq] at h
    have := parse_err l k' hp
    omega
  · split at h
    · simp only [Sum.inl.injEq] at h
      omega
    · cases h

/-- Both answer the same. -/
theorem told_split (l : List UInt8) (limit : Int) : ∃ (ts : List ByteArray) (k : Int), ts.length ≤ 200 ∧ ∀ w e w', ToldP l limit w e w' → ∃ a c, e = .returned (.tuple #[.slice a ts.length c, .int .i64 k]) ∧ OwnsS w.heap.size w' (.slice a ts.length c) ts ∧ w.grownBy w' none := by
  cases hs : splitR l limit with
  | inl k =>
    refine ⟨[], k, by simp, ?_⟩
    rintro w e w' ⟨hg, (⟨k', hk, rfl⟩ | ⟨ts, v, hk, rfl, ho⟩)⟩
    · rw [hs] at hk; cases hk
      exact ⟨none, 0, rfl, World.ownsRow_nil _ _ _ _, hg⟩
    · rw [hs] at hk; cases hk
  | inr ts =>
    refine ⟨ts.map mkB, 0, by rw [List.length_map]; exact splitR_len l limit ts hs, ?_⟩
    rintro w e w' ⟨hg, (⟨k', hk, rfl⟩ | ⟨ts', v, hk, rfl, ho⟩)⟩
    · rw [hs] at hk; cases hk
    · rw [hs] at hk; cases hk
      have ho2 := own1_strs ho
      obtain ⟨a, c, rfl⟩ := ho2.slice
      exact ⟨a, c, rfl, ho2, hg⟩

end Go.Proofs.Ytkmeingnhaomaab
/- strandlaw's texts and intact. -/
namespace Go.Proofs.Ytkmeingnhaomaab
open Go.RowKit Go.Shelf

theorem Tss.cells {B : Nat} {W : World} {b off l cap : Nat} {cs : List ByteArray} (h : Tss B W (.slice (some ⟨b, off, none⟩) l cap) cs) : ∀ j v, (strVals cs)[j]? = some v → W.cell? ⟨b, off + j, none⟩ = some v := by
  intro j v hj
  have hlt : j < cs.length := by
    have := (List.getElem?_eq_some_iff.1 hj).1
    simpa [strVals] using this
  obtain ⟨b', off', e, _, q0⟩ := h.at (k := j) hlt
  simp only [Option.some.injEq, Addr.mk.injEq] at e
  obtain ⟨rfl, rfl, _⟩ := e
  rw [strVals_at cs j hlt] at hj
  cases hj
  exact q0
theorem strVals_one (cs : List ByteArray) : ∀ u ∈ strVals cs, u.oneCell' = true := by
  intro u hu
  simp only [strVals, List.mem_map] at hu
  obtain ⟨r, _, rfl⟩ := hu
  rfl
theorem run_copy_strs (w : World) (ty : TypeId) (g dLen dCap : Nat) (sv : Value) (cs : List ByteArray) (cur : Array Value) (hg : w.heap[g]? = some (.cells cur 9 (0, 0))) (hR : Tss w.heap.size w sv cs) (hd : cs.length ≤ dLen) (hfit : cs.length ≤ cur.size) :
    (Builtin.copy_ #[37, 37] ty #[.slice (some ⟨g, 0, none⟩) dLen dCap, sv]).run Try.prog w = .ok (goInt cs.length) (w.setRow g (strVals cs ++ cur.toList.drop cs.length).toArray) := by
  obtain ⟨i0, hi, hz0, hz1, hz2⟩ := info_parts Try.infoStr
  obtain ⟨a, cap, rfl⟩ := hR.slice
  have hst := run_storeCells_at Try.prog g 0 9 (strVals cs) 0 cur w hg (by rw [strVals_length]; omega) (strVals_one cs)
  have hl : (Builtin.firstCells 1 cs.length (.slice a cs.length cap)).run Try.prog w = .ok (strVals cs).toArray w := by
    cases cs with
    | nil =>
      cases a with
      | none => simp [Builtin.firstCells, strVals]
      | some ad => simp [Builtin.firstCells, strVals, loadCells, loadCellsFrom]
    | cons r cs' =>
      obtain ⟨b, off, e, _⟩ := hR.at (k := 0) (by simp)
      subst e
      have := run_loadCells_list (P := Try.prog) w ⟨b, off, none⟩ (strVals (r :: cs')) (fun j v hj => by
        rw [Addr.add_lit]; exact hR.cells j v hj)
      rw [strVals_length] at this
      simpa [Builtin.firstCells] using this
  have hm : min cs.length dLen = cs.length := Nat.min_eq_left hd
  simp only [Nat.add_zero, Nat.zero_add, List.take_zero, List.nil_append, strVals_length, Nat.mul_one] at hst
  simp [Builtin.copy_, run_underlying Try.underlying37, Builtin.lenOf, sizeOf, typeInfo, hi, hz1, hm, hl, hst]

/-- The bytes of 'beyond'. -/
def beyondB : ByteArray := ⟨#[98, 101, 121, 111, 110, 100]⟩
/-- A list as a caller hands it in, with two places behind it. -/
def Roomy (W : World) (g : Nat) (cs : List ByteArray) : Prop := ∃ A : Array Value, W.heap[g]? = some (.cells A 9 (0, 0)) ∧ A.size = cs.length + 2 ∧ (∀ j (h : j < cs.length), A[j]? = some (.string cs[j])) ∧ A[cs.length]? = some (.string beyondB) ∧ A[cs.length + 1]? = some (.string beyondB)
theorem Roomy.below {W W' : World} {g : Nat} {cs : List ByteArray} (h : Roomy W g cs) (hb : Below W.heap.size W W') : Roomy W' g cs := by
  obtain ⟨A, h1, h2⟩ := h
  exact ⟨A, (hb.block g (Array.getElem?_eq_some_iff.1 h1).1).trans h1, h2⟩
theorem Roomy.tss {W : World} {g : Nat} {cs : List ByteArray} (h : Roomy W g cs) (cap : Nat) : Tss W.heap.size W (.slice (some ⟨g, 0, none⟩) cs.length cap) cs := by
  obtain ⟨A, h1, h2, h3, _⟩ := h
  exact .inr ⟨g, 0, cap, rfl, (Array.getElem?_eq_some_iff.1 h1).1, fun j hj => by rw [Nat.zero_add]; exact boxed_cell h1 (h3 j hj)⟩

end Go.Proofs.Ytkmeingnhaomaab
/- The walk of Joins. -/
namespace Go.Proofs.Ytkmeingnhaomaab
open Go.RowKit Go.Shelf

theorem Tss.txs {B : Nat} {W : World} {sv : Value} {cs : List ByteArray} (h : Tss B W sv cs) : Txs B W sv (cs.map (fun q => q.data.toList)) := by
  rcases h with ⟨rfl, h⟩ | ⟨b, off, cap, e, hb, hc⟩
  · exact .inl ⟨rfl, h⟩
  · refine .inr ⟨b, off, cap, by rw [List.length_map]; exact e, hb, fun j hj => ?_⟩
    rw [List.length_map] at hj
    rw [hc j hj, List.getElem_map]
/-- Both answer the same. -/
theorem told_join (ts : List (List UInt8)) : ∃ (q : ByteArray) (k : Int), ∀ w e w', ToldJ ts w e w' → e = .returned (.tuple #[.string q, .int .i64 k]) ∧ w.grownBy w' none := by
  cases hs : joinR ts with
  | inl k =>
    refine ⟨⟨#[]⟩, k, ?_⟩
    rintro w e w' ⟨hg, (⟨k', hk, rfl⟩ | ⟨f, t, b, z, rs, hk, rfl⟩)⟩
    · rw [hs] at hk; cases hk
      exact ⟨rfl, hg⟩
    · rw [hs] at hk; cases hk
  | inr x =>
    obtain ⟨f, t, b, z, rs⟩ := x
    refine ⟨⟨(serB f t b z rs).toArray⟩, 0, ?_⟩
    rintro w e w' ⟨hg, (⟨k', hk, rfl⟩ | ⟨f', t', b', z', rs', hk, rfl⟩)⟩
    · rw [hs] at hk; cases hk
    · rw [hs] at hk; cases hk
      exact ⟨rfl, hg⟩

end Go.Proofs.Ytkmeingnhaomaab
/- Chunks, purely: a chunk comes back from its text. -/
namespace Go.Proofs.Ytkmeingnhaomaab
open Go.RowKit Go.Shelf

theorem recsOk_low (b z : Int) (rs : List Rc) (last last' : Int) (h : recsOk b z last rs = true) (hl : last' ≤ last) : recsOk b z last' rs = true := by
  cases rs with
  | nil => rfl
  | cons r rs =>
    simp only [recsOk, Bool.and_eq_true] at h ⊢
    refine ⟨?_, h.2⟩
    have h1 : last < r.block ∧ r.block < b ∧ (r.data.size : Int) = if r.free then 0 else z := of_decide_eq_true h.1
    exact decide_eq_true ⟨by omega, h1.2⟩

theorem chunk_back (f t b z all nu many : Nat) (rs : List Rc) (hw : wellHead f t b z = true) (ho : recsOk b z (-1) rs = true) (hall : rs.length ≤ all) (hab : all ≤ b) (hnu : nu < many) (hmany : many ≤ 65535) :
    chunkR (chunkB f t b z all nu many rs) = .inr ⟨f, t, b, z, all, nu, many, rs⟩ := by
  obtain ⟨h1, h2, h3, h4, h5, h6, h7, h8, h9⟩ : (0 : Int) ≤ f ∧ (f : Int) ≤ 2147483647 ∧ (1 : Int) ≤ t ∧ (t : Int) ≤ 2147483647 ∧ (f : Int) ≠ t ∧ (1 : Int) ≤ b ∧ (b : Int) ≤ 100 ∧ (1 : Int) ≤ z ∧ (z : Int) ≤ 64 := of_decide_eq_true hw
  obtain ⟨c, hc⟩ : ∃ c, c = lowB (crc (chunkA f t b z all nu many rs)) 4 := ⟨_, rfl⟩
  have hcl : c.length = 4 := by rw [hc]; exact lowB_length _ _
  have hSC : chunkB f t b z all nu many rs = chunkA f t b z all nu many rs ++ c := by rw [hc]; rfl
  have hl : chunkB f t b z all nu many rs = [83, 84, 82, 67] ++ (lowB f 4 ++ (lowB t 4 ++ (lowB b 2 ++ (lowB z 2 ++ (lowB all 2 ++ (lowB nu 2 ++ (lowB many 2 ++ (lowB rs.length 2 ++ (recsB rs ++ c))))))))) := by
    rw [hSC, chunkA, headB]
    simp
  generalize hL : chunkB f t b z all nu many rs = L at *
  have hlen : L.length = 28 + (recsB rs).length := by
    rw [hl]
    simp only [List.length_append, lowB_length, hcl, List.length_cons, List.length_nil]
    omega
  have d4 : L.drop 4 = lowB f 4 ++ (lowB t 4 ++ (lowB b 2 ++ (lowB z 2 ++ (lowB all 2 ++ (lowB nu 2 ++ (lowB many 2 ++ (lowB rs.length 2 ++ (recsB rs ++ c)))))))) := by rw [hl]; rfl
  have d8 : L.drop 8 = lowB t 4 ++ (lowB b 2 ++ (lowB z 2 ++ (lowB all 2 ++ (lowB nu 2 ++ (lowB many 2 ++ (lowB rs.length 2 ++ (recsB rs ++ c))))))) := by
    rw [show 8 = 4 + 4 from rfl, ← List.drop_drop, d4, List.drop_left' (lowB_length _ _)]
  have d12 : L.drop 12 = lowB b 2 ++ (lowB z 2 ++ (lowB all 2 ++ (lowB nu 2 ++ (lowB many 2 ++ (lowB rs.length 2 ++ (recsB rs ++ c)))))) := by
    rw [show 12 = 8 + 4 from rfl, ← List.drop_drop, d8, List.drop_left' (lowB_length _ _)]
  have d14 : L.drop 14 = lowB z 2 ++ (lowB all 2 ++ (lowB nu 2 ++ (lowB many 2 ++ (lowB rs.length 2 ++ (recsB rs ++ c))))) := by
    rw [show 14 = 12 + 2 from rfl, ← List.drop_drop, d12, List.drop_left' (lowB_length _ _)]
  have d16 : L.drop 16 = lowB all 2 ++ (lowB nu 2 ++ (lowB many 2 ++ (lowB rs.length 2 ++ (recsB rs ++ c)))) := by
    rw [show 16 = 14 + 2 from rfl, ← List.drop_drop, d14, List.drop_left' (lowB_length _ _)]
  have d18 : L.drop 18 = lowB nu 2 ++ (lowB many 2 ++ (lowB rs.length 2 ++ (recsB rs ++ c))) := by
    rw [show 18 = 16 + 2 from rfl, ← List.drop_drop, d16, List.drop_left' (lowB_length _ _)]
  have d20 : L.drop 20 = lowB many 2 ++ (lowB rs.length 2 ++ (recsB rs ++ c)) := by
    rw [show 20 = 18 + 2 from rfl, ← List.drop_drop, d18, List.drop_left' (lowB_length _ _)]
  have d22 : L.drop 22 = lowB rs.length 2 ++ (recsB rs ++ c) := by
    rw [show 22 = 20 + 2 from rfl, ← List.drop_drop, d20, List.drop_left' (lowB_length _ _)]
  have d24 : L.drop 24 = recsB rs ++ c := by
    rw [show 24 = 22 + 2 from rfl, ← List.drop_drop, d22, List.drop_left' (lowB_length _ _)]
  have hh : headR L = (f, t, b, z, all) := by
    unfold headR
    rw [d4, d8, d12, d14, d16, List.take_left' (lowB_length _ _), List.take_left' (lowB_length _ _), List.take_left' (lowB_length _ _), List.take_left' (lowB_length _ _), List.take_left' (lowB_length _ _)]
    rw [num_lowB, num_lowB, num_lowB, num_lowB, num_lowB]
    simp only [Prod.mk.injEq]
    omega
  have ho' : openG [83, 84, 82, 67] 24 0 L = .inr (f, t, b, z, all) := by
    unfold openG
    rw [if_pos (rfl : (0 : Nat) = 0), if_neg (by omega), hh]
    have ht : L.take 4 = [83, 84, 82, 67] := by rw [hl]; rfl
    rw [ht, if_neg (by simp)]
    rw [if_pos (by simp only [hw, Bool.true_and, decide_eq_true_eq]; exact hab)]
  have n18 : num ((L.drop 18).take 2) = nu := by
    rw [d18, List.take_left' (lowB_length _ _), num_lowB]
    omega
  have n20 : num ((L.drop 20).take 2) = many := by
    rw [d20, List.take_left' (lowB_length _ _), num_lowB]
    omega
  have n22 : num ((L.drop 22).take 2) = rs.length := by
    rw [d22, List.take_left' (lowB_length _ _), num_lowB]
    omega
  have hwk := walk_recs b z (by omega) rs (-1) c (by omega) ho
  have he : endR L (L.length - c.length) = none := by
    have hp : L.length - c.length = (chunkA f t b z all nu many rs).length := by
      rw [hSC, List.length_append]
      omega
    rw [hp]
    have htk : L.take (chunkA f t b z all nu many rs).length = chunkA f t b z all nu many rs := by rw [hSC]; exact List.take_left' rfl
    have hdp : L.drop (chunkA f t b z all nu many rs).length = c := by rw [hSC]; exact List.drop_left' rfl
    unfold endR
    rw [htk, hdp, List.take_of_length_le (by omega)]
    have hnc : num c = crc (chunkA f t b z all nu many rs) := by
      rw [hc, num_lowB]
      have := crc_lt (chunkA f t b z all nu many rs)
      omega
    have hL2 : (chunkA f t b z all nu many rs).length + 4 = L.length := by
      rw [hSC, List.length_append, hcl]
    rw [if_neg (by omega), hnc, if_neg (by simp), if_neg (by omega)]
  unfold chunkR
  rw [ho']
  simp only []
  rw [n18, n20, n22, if_neg (by omega), d24, hwk]
  simp only []
  rw [he]

/-- The parts are the records again. -/
theorem parts_to (limit : Int) (rs : List Rc) : ∀ i, i < (startsR limit rs).length → ((List.range i).map (partR (startsR limit rs) rs)).flatten = rs.take ((startsR limit rs)[i]?.getD 0)
  | 0, h => by
    have := (stK_up limit rs rs.length (Nat.le_refl _)).2.2.2.2
    unfold startsR
    rw [this]
    simp
  | i + 1, h => by
    have ih := parts_to limit rs i (by omega)
    obtain ⟨h1, h2⟩ := endAt_ok limit rs i (by omega)
    rw [List.range_succ, List.map_append, List.flatten_append, ih]
    simp only [List.map_cons, List.map_nil, List.flatten_cons, List.flatten_nil, List.append_nil]
    have he : endAt (startsR limit rs) rs.length i = (startsR limit rs)[i + 1] := by
      unfold endAt
      rw [List.getElem?_eq_getElem h, Option.getD_some]
    rw [List.getElem?_eq_getElem h, Option.getD_some, List.getElem?_eq_getElem (show i < _ by omega), Option.getD_some]
    unfold partR
    rw [he, List.getElem?_eq_getElem (show i < _ by omega), Option.getD_some]
    rw [he] at h1 h2
    have h3 := List.take_append_drop (startsR limit rs)[i] (rs.take (startsR limit rs)[i + 1])
    rw [List.take_take, Nat.min_eq_left h1] at h3
    exact h3
theorem parts_all (limit : Int) (rs : List Rc) : ((List.range (startsR limit rs).length).map (partR (startsR limit rs) rs)).flatten = rs := by
  have h4 := (stK_up limit rs rs.length (Nat.le_refl _)).2.2.2.1
  have h4' : 1 ≤ (startsR limit rs).length := h4
  obtain ⟨m, hm⟩ : ∃ m, (startsR limit rs).length = m + 1 := ⟨(startsR limit rs).length - 1, by omega⟩
  rw [hm, List.range_succ, List.map_append, List.flatten_append, parts_to limit rs m (by omega)]
  simp only [List.map_cons, List.map_nil, List.flatten_cons, List.flatten_nil, List.append_nil]
  unfold partR
  have he : endAt (startsR limit rs) rs.length m = rs.length := by
    unfold endAt
    rw [List.getElem?_eq_none (by omega), Option.getD_none]
  rw [he, List.take_length, List.take_append_drop]
end Go.Proofs.Ytkmeingnhaomaab
/- Chunks, purely: in any order they are the stream again. -/
namespace Go.Proofs.Ytkmeingnhaomaab
open Go.RowKit Go.Shelf

/-- The chunks of a stream. -/
def ckAt (f t b z : Nat) (rs : List Rc) (st : List Nat) (i : Nat) : Ck := ⟨f, t, b, z, rs.length, i, st.length, partR st rs i⟩
def cksOf (f t b z : Nat) (rs : List Rc) (st : List Nat) : List Ck := (List.range st.length).map (ckAt f t b z rs st)

theorem chunksOf_map (g : Nat → List UInt8) (c : Nat → Ck) : ∀ (is : List Nat), (∀ i ∈ is, chunkR (g i) = .inr (c i)) → chunksOf (is.map g) = .inr (is.map c)
  | [], _ => rfl
  | i :: is, h => by
    rw [List.map_cons, chunksOf, h i (by simp)]
    simp only [chunksOf_map g c is (fun j hj => h j (by simp [hj])), List.map_cons]

theorem part_ok (f t b z : Nat) (rs : List Rc) (limit : Int) (hw : wellHead f t b z = true) (ho : recsOk b z (-1) rs = true) (i : Nat) (hi : i < (startsR limit rs).length) :
    chunkR (chunkB f t b z rs.length i (startsR limit rs).length (partR (startsR limit rs) rs i)) = .inr (ckAt f t b z rs (startsR limit rs) i) := by
  obtain ⟨h1, h2, h3, h4, h5, h6, h7, h8, h9⟩ : (0 : Int) ≤ f ∧ (f : Int) ≤ 2147483647 ∧ (1 : Int) ≤ t ∧ (t : Int) ≤ 2147483647 ∧ (f : Int) ≠ t ∧ (1 : Int) ≤ b ∧ (b : Int) ≤ 100 ∧ (1 : Int) ≤ z ∧ (z : Int) ≤ 64 := of_decide_eq_true hw
  have hn := recsOk_length b z rs ho (by omega)
  have hu : (startsR limit rs).length ≤ rs.length + 1 := (stK_up limit rs rs.length (Nat.le_refl _)).2.2.1
  obtain ⟨la, hla, hpk⟩ := recsOk_part b z rs ho ((startsR limit rs)[i]?.getD 0) (endAt (startsR limit rs) rs.length i)
  refine chunk_back f t b z rs.length i (startsR limit rs).length _ hw (recsOk_low b z _ la (-1) hpk hla) ?_ (by omega) hi (by omega)
  unfold partR
  rw [List.length_drop, List.length_take]
  omega

/-- Of one number there is one. -/
theorem filter_one (f t b z : Nat) (rs : List Rc) (st : List Nat) (n : Nat) (hn : n < st.length) : (cksOf f t b z rs st).filter (fun c => c.nu == n) = [ckAt f t b z rs st n] := by
  unfold cksOf
  rw [List.filter_map]
  have : (List.range st.length).filter ((fun c : Ck => c.nu == n) ∘ ckAt f t b z rs st) = [n] := by
    have h1 : ((fun c : Ck => c.nu == n) ∘ ckAt f t b z rs st) = fun i => i == n := by
      funext i
      rfl
    rw [h1]
    generalize st.length = m at *
    induction m with
    | zero => omega
    | succ m ih =>
      rw [List.range_succ, List.filter_append]
      by_cases hm : n = m
      · subst hm
        rw [List.filter_eq_nil_iff.2 (fun x hx => by have := List.mem_range.1 hx; simp; omega)]
        simp
      · rw [ih (by omega)]
        rw [List.filter_cons_of_neg (by simpa using fun e => hm e.symm)]
        simp
  rw [this]
  rfl
theorem perm_filter_one {f t b z : Nat} {rs : List Rc} {st : List Nat} {cs : List Ck} (hp : cs.Perm (cksOf f t b z rs st)) (n : Nat) (hn : n < st.length) : cs.filter (fun c => c.nu == n) = [ckAt f t b z rs st n] := by
  have := hp.filter (fun c => c.nu == n)
  rw [filter_one f t b z rs st n hn] at this
  exact List.perm_singleton.1 this
theorem perm_gather {f t b z : Nat} {rs : List Rc} {limit : Int} {cs : List Ck} (hp : cs.Perm (cksOf f t b z rs (startsR limit rs))) : gatherAll cs (startsR limit rs).length = rs := by
  have h : gatherAll cs (startsR limit rs).length = ((List.range (startsR limit rs).length).map (partR (startsR limit rs) rs)).flatten := by
    unfold gatherAll
    rw [List.flatMap_def]
    congr 1
    refine List.map_congr_left fun n hn => ?_
    unfold gathered
    rw [perm_filter_one hp n (List.mem_range.1 hn)]
    simp [ckAt]
  rw [h, parts_all]
/-- **In any order the chunks are the stream again.** -/
theorem join_perm {f t b z : Nat} {rs : List Rc} {limit : Int} {a : Ck} {cs : List Ck} (hp : (a :: cs).Perm (cksOf f t b z rs (startsR limit rs))) (ho : recsOk b z (-1) rs = true) : joinC (.inr (a :: cs)) = .inr (f, t, b, z, rs) := by
  have hall : ∀ c ∈ a :: cs, c.f = f ∧ c.t = t ∧ c.b = b ∧ c.z = z ∧ c.all = rs.length ∧ c.many = (startsR limit rs).length := fun c hc => by
    have := hp.mem_iff.1 hc
    obtain ⟨i, _, rfl⟩ := List.mem_map.1 this
    exact ⟨rfl, rfl, rfl, rfl, rfl, rfl⟩
  obtain ⟨a1, a2, a3, a4, a5, a6⟩ := hall a (by simp)
  have hg := perm_gather hp
  have hok : joinOk a (a :: cs) = true := by
    rw [joinOk_iff, a3, a4, a5, a6, hg]
    refine ⟨?_, ?_, ?_, ho, rfl⟩
    · rw [hp.length_eq]
      simp [cksOf]
    · intro c hc
      obtain ⟨c1, c2, c3, c4, c5, c6⟩ := hall c hc
      unfold sameHead
      exact decide_eq_true ⟨by rw [c1, a1], by rw [c2, a2], by rw [c3, a3], by rw [c4, a4], by rw [c5, a5], by rw [c6, a6]⟩
    · intro n hn
      rw [perm_filter_one hp n hn]
      rfl
  show (if joinOk a (a :: cs) = true then _ else _) = _
  rw [if_pos hok, a1, a2, a3, a4, a6, hg]

theorem join_not {a : Ck} {cs : List Ck} (h : joinOk a (a :: cs) = true → False) : joinC (.inr (a :: cs)) = .inl 13 := by
  show (if joinOk a (a :: cs) = true then _ else _) = _
  rw [if_neg h]
/-- .. one that is missing. -/
theorem join_less {a : Ck} {cs : List Ck} (h : (a :: cs).length ≠ a.many) : joinC (.inr (a :: cs)) = .inl 13 :=
  join_not fun hj => h ((joinOk_iff a (a :: cs)).1 hj).1
/-- .. a number that comes not just once. -/
theorem join_twice {a : Ck} {cs : List Ck} (n : Nat) (hn : n < a.many) (h : ((a :: cs).filter (fun c => c.nu == n)).length ≠ 1) : joinC (.inr (a :: cs)) = .inl 13 :=
  join_not fun hj => h (((joinOk_iff a (a :: cs)).1 hj).2.2.1 n hn)
/-- .. one of another stream. -/
theorem join_strange {a c : Ck} {cs : List Ck} (hc : c ∈ a :: cs) (h : c.t ≠ a.t) : joinC (.inr (a :: cs)) = .inl 13 :=
  join_not fun hj => h (of_decide_eq_true (((joinOk_iff a (a :: cs)).1 hj).2.1 c hc)).2.1

/-- How long the records are. -/
def bytesR (rs : List Rc) : Nat := (recsB rs).length
theorem bytesR_append (xs ys : List Rc) : bytesR (xs ++ ys) = bytesR xs + bytesR ys := by simp [bytesR, recsB]
theorem chunkB_length (f t b z all nu many : Nat) (rs : List Rc) : (chunkB f t b z all nu many rs).length = 28 + bytesR rs := by
  simp [chunkB, chunkA, headB_length, lowB_length, bytesR]
  omega
theorem lenR_le_most : ∀ (rs : List Rc) (k : Nat) (h : k < rs.length), lenR rs[k] ≤ mostR rs := by
  intro rs k h
  have h1 : ∀ (xs : List Rc) (m : Nat), m ≤ xs.foldl (fun m r => max m (lenR r)) m ∧ ∀ r ∈ xs, lenR r ≤ xs.foldl (fun m r => max m (lenR r)) m := by
    intro xs
    induction xs with
    | nil => intro m; simp
    | cons x xs ih =>
      intro m
      obtain ⟨i1, i2⟩ := ih (max m (lenR x))
      rw [List.foldl_cons]
      refine ⟨by omega, fun r hr => ?_⟩
      rcases List.mem_cons.1 hr with rfl | hr
      · omega
      · exact i2 r hr
  exact (h1 rs 0).2 _ (List.getElem_mem h)
/-- The last chunk that has been begun, and those ahead, go into the limit. -/
theorem stK_fits (limit : Int) (rs : List Rc) (hm : ((28 + mostR rs : Nat) : Int) ≤ limit) : ∀ k, k ≤ rs.length →
    (∃ pre la, (stK limit rs k).1 = pre ++ [la] ∧ la ≤ k ∧ (stK limit rs k).2 = 28 + bytesR ((rs.take k).drop la)) ∧ ((stK limit rs k).2 : Int) ≤ limit ∧
    ∀ i, i + 1 < (stK limit rs k).1.length → ((28 + bytesR ((rs.take ((stK limit rs k).1[i + 1]?.getD 0)).drop ((stK limit rs k).1[i]?.getD 0)) : Nat) : Int) ≤ limit
  | 0, _ => by
    refine ⟨⟨[], 0, rfl, Nat.le_refl _, by simp [stK, bytesR, recsB]⟩, by simp only [stK]; omega, fun i hi => ?_⟩
    simp [stK] at hi
  | k + 1, hk => by
    obtain ⟨⟨pre, la, e1, e2, e3⟩, e4, e5⟩ := stK_fits limit rs hm k (by omega)
    have hle := lenR_le_most rs k (by omega)
    rw [stK_succ limit rs k (by omega)]
    generalize stK limit rs k = S at *
    obtain ⟨st, sz⟩ := S
    dsimp only at e1 e3 e4 e5
    have htk : (rs.take (k + 1)).drop la = (rs.take k).drop la ++ [rs[k]] := by
      rw [List.take_succ_eq_append_getElem (by omega), List.drop_append_of_le_length (by rw [List.length_take]; omega)]
    have hb1 : bytesR [rs[k]] = lenR rs[k] := by simp [bytesR, recsB, lenR]
    unfold stepSt
    split
    · rename_i hc
      dsimp only at hc ⊢
      refine ⟨⟨st, k, rfl, by omega, ?_⟩, by omega, fun i hi => ?_⟩
      · rw [List.take_succ_eq_append_getElem (by omega), List.drop_append_of_le_length (by rw [List.length_take]; omega), List.drop_of_length_le (by rw [List.length_take]; omega), List.nil_append, hb1]
      · rw [List.length_append, List.length_singleton] at hi
        by_cases hi2 : i + 1 < st.length
        · rw [List.getElem?_append_left hi2, List.getElem?_append_left (by omega)]
          exact e5 i hi2
        · have hi3 : i + 1 = st.length := by omega
          have hl : (st ++ [k])[i]? = some la := by
            rw [List.getElem?_append_left (by omega)]
            have hi4 := hi3
            rw [e1, List.length_append, List.length_singleton] at hi4
            rw [e1, List.getElem?_append_right (by omega), show i - pre.length = 0 from by omega]
            rfl
          have hl1 : (st ++ [k])[i + 1]? = some k := by
            rw [List.getElem?_append_right (by omega), show i + 1 - st.length = 0 from by omega]
            rfl
          rw [hl, hl1]
          simp only [Option.getD_some]
          rw [← e3]
          exact e4
    · rename_i hc
      dsimp only at hc ⊢
      refine ⟨⟨pre, la, e1, by omega, ?_⟩, by omega, e5⟩
      rw [htk, bytesR_append, hb1, e3]
      omega
theorem chunks_fit (f t b z : Nat) (rs : List Rc) (limit : Int) (hm : ((28 + mostR rs : Nat) : Int) ≤ limit) : ∀ q ∈ chunksR f t b z rs (startsR limit rs), (q.length : Int) ≤ limit := by
  intro q hq
  obtain ⟨i, hi, rfl⟩ := List.mem_map.1 hq
  rw [List.mem_range] at hi
  obtain ⟨⟨pre, la, e1, e2, e3⟩, e4, e5⟩ := stK_fits limit rs hm rs.length (Nat.le_refl _)
  rw [chunkB_length]
  unfold partR endAt
  have hst : startsR limit rs = (stK limit rs rs.length).1 := rfl
  rw [hst] at hi ⊢
  by_cases hi2 : i + 1 < (stK limit rs rs.length).1.length
  · have := e5 i hi2
    rw [List.getElem?_eq_getElem hi2, Option.getD_some] at this ⊢
    exact this
  · have hl1 : (stK limit rs rs.length).1[i + 1]? = none := List.getElem?_eq_none (by omega)
    have hl : (stK limit rs rs.length).1[i]? = some la := by
      rw [e1, List.length_append, List.length_singleton] at hi hi2
      rw [e1, List.getElem?_append_right (by omega), show i - pre.length = 0 from by omega]
      rfl
    rw [hl, hl1, Option.getD_some, Option.getD_none, ← e3]
    exact e4
end Go.Proofs.Ytkmeingnhaomaab
/- Chunks, purely: what Join says of them all, of them but one, of one twice, of one of another stream. -/
namespace Go.Proofs.Ytkmeingnhaomaab
open Go.RowKit Go.Shelf

/-- Where the limit takes any one record, there are no more chunks than records, but for the first. -/
theorem stK_len (limit : Int) (rs : List Rc) (hm : ((28 + mostR rs : Nat) : Int) ≤ limit) : ∀ k, k ≤ rs.length → (stK limit rs k).1.length ≤ max 1 k
  | 0, _ => by simp [stK]
  | 1, h => by
    have hle := lenR_le_most rs 0 (by omega)
    rw [stK_succ limit rs 0 (by omega)]
    unfold stepSt
    rw [show stK limit rs 0 = ([0], 28) from rfl]
    dsimp only
    rw [if_neg (by omega)]
    simp
  | k + 2, h => by
    have ih := stK_len limit rs hm (k + 1) (by omega)
    rw [stK_succ limit rs (k + 1) (by omega)]
    unfold stepSt
    split
    · rw [List.length_append, List.length_singleton]
      omega
    · dsimp only
      omega
theorem perm_map_back {α β : Type} {g : α → β} {us vs : List β} (h : us.Perm vs) : ∀ l : List α, vs = l.map g → ∃ l' : List α, l'.Perm l ∧ us = l'.map g := by
  induction h with
  | nil => intro l e; exact ⟨l, List.Perm.refl _, e⟩
  | cons x _ ih =>
    intro l e
    rcases l with _ | ⟨i, l⟩
    · simp at e
    · rw [List.map_cons, List.cons.injEq] at e
      obtain ⟨l', h1, h2⟩ := ih l e.2
      exact ⟨i :: l', h1.cons i, by rw [List.map_cons, h2, e.1]⟩
  | swap x y l0 =>
    intro l e
    rcases l with _ | ⟨i, _ | ⟨j, l⟩⟩
    · simp at e
    · simp at e
    · rw [List.map_cons, List.map_cons, List.cons.injEq, List.cons.injEq] at e
      exact ⟨j :: i :: l, List.Perm.swap _ _ _, by rw [List.map_cons, List.map_cons, ← e.1, ← e.2.1, ← e.2.2]⟩
  | trans _ _ ih1 ih2 =>
    intro l e
    obtain ⟨l1, h1, e1⟩ := ih2 l e
    obtain ⟨l2, h2, e2⟩ := ih1 l1 e1
    exact ⟨l2, h2.trans h1, e2⟩

/-- A stream's chunks in some order: by their numbers. -/
theorem chunks_nums {f t b z : Nat} {rs : List Rc} {limit : Int} {ms : List (List UInt8)} (h : ms.Perm (chunksR f t b z rs (startsR limit rs))) :
    ∃ is : List Nat, is.Perm (List.range (startsR limit rs).length) ∧ ms = is.map (fun i => chunkB f t b z rs.length i (startsR limit rs).length (partR (startsR limit rs) rs i)) := perm_map_back h _ rfl
theorem nums_chunks (f t b z : Nat) (rs : List Rc) (limit : Int) (hw : wellHead f t b z = true) (ho : recsOk b z (-1) rs = true) (is : List Nat) (hi : ∀ i ∈ is, i < (startsR limit rs).length) :
    chunksOf (is.map (fun i => chunkB f t b z rs.length i (startsR limit rs).length (partR (startsR limit rs) rs i))) = .inr (is.map (ckAt f t b z rs (startsR limit rs))) :=
  chunksOf_map _ _ is fun i h => part_ok f t b z rs limit hw ho i (hi i h)
theorem joinR_some (ts : List (List UInt8)) (h1 : 1 ≤ ts.length) (h2 : ts.length ≤ 100) : joinR ts = joinC (chunksOf ts) := by
  unfold joinR
  rw [if_neg (by omega)]
theorem joinR_all {f t b z : Nat} {rs : List Rc} {limit : Int} {ms : List (List UInt8)} (hw : wellHead f t b z = true) (ho : recsOk b z (-1) rs = true) (h : ms.Perm (chunksR f t b z rs (startsR limit rs))) (h1 : 1 ≤ ms.length) (h2 : ms.length ≤ 100) :
    joinR ms = .inr (f, t, b, z, rs) := by
  obtain ⟨is, hp, rfl⟩ := chunks_nums h
  rw [joinR_some _ h1 h2, nums_chunks f t b z rs limit hw ho is (fun i hi => List.mem_range.1 (hp.mem_iff.1 hi))]
  rcases is with _ | ⟨i, is⟩
  · simp at h1
  · exact join_perm (a := ckAt f t b z rs (startsR limit rs) i) (cs := is.map (ckAt f t b z rs (startsR limit rs))) (hp.map (ckAt f t b z rs (startsR limit rs))) ho
theorem less_mem {α : Type} {is : List α} {w : Nat} {i : α} (h : i ∈ is.take w ++ is.drop (w + 1)) : i ∈ is := by
  rcases List.mem_append.1 h with h | h
  · exact List.mem_of_mem_take h
  · exact List.mem_of_mem_drop h
theorem joinR_less {f t b z : Nat} {rs : List Rc} {limit : Int} {ms : List (List UInt8)} (hw : wellHead f t b z = true) (ho : recsOk b z (-1) rs = true) (h : ms.Perm (chunksR f t b z rs (startsR limit rs))) (h1 : 2 ≤ ms.length) (h2 : ms.length ≤ 100) (w : Nat) (hwl : w < ms.length) :
    joinR (ms.take w ++ ms.drop (w + 1)) = .inl 13 := by
  obtain ⟨is, hp, rfl⟩ := chunks_nums h
  rw [List.length_map] at h1 h2 hwl
  have hl := hp.length_eq
  rw [List.length_range] at hl
  rw [← List.map_take, ← List.map_drop, ← List.map_append]
  have hll : (is.take w ++ is.drop (w + 1)).length = is.length - 1 := by
    rw [List.length_append, List.length_take, List.length_drop]
    omega
  rw [joinR_some _ (by rw [List.length_map, hll]; omega) (by rw [List.length_map, hll]; omega)]
  rw [nums_chunks f t b z rs limit hw ho _ (fun i hi => List.mem_range.1 (hp.mem_iff.1 (less_mem hi)))]
  generalize is.take w ++ is.drop (w + 1) = js at *
  rcases js with _ | ⟨i, js⟩
  · simp at hll
    omega
  · refine join_less (a := ckAt f t b z rs (startsR limit rs) i) (cs := js.map (ckAt f t b z rs (startsR limit rs))) ?_
    show _ ≠ (startsR limit rs).length
    rw [List.length_cons] at hll ⊢
    rw [List.length_map]
    omega
theorem joinR_twice {f t b z : Nat} {rs : List Rc} {limit : Int} {ms : List (List UInt8)} (hw : wellHead f t b z = true) (ho : recsOk b z (-1) rs = true) (h : ms.Perm (chunksR f t b z rs (startsR limit rs))) (h1 : 1 ≤ ms.length) (h2 : ms.length ≤ 100) (w q : Nat) (hwl : w < ms.length) (hql : q < ms.length) (hne : q ≠ w) :
    joinR (ms.set w ms[q]) = .inl 13 := by
  obtain ⟨is, hp, rfl⟩ := chunks_nums h
  rw [List.length_map] at h1 h2
  have hwl' : w < is.length := by rw [List.length_map] at hwl; exact hwl
  have hql' : q < is.length := by rw [List.length_map] at hql; exact hql
  have hl := hp.length_eq
  rw [List.length_range] at hl
  have hnd : is.Nodup := hp.nodup_iff.2 List.nodup_range
  have hin : ∀ i ∈ is, i < (startsR limit rs).length := fun i hi => List.mem_range.1 (hp.mem_iff.1 hi)
  rw [List.getElem_map, ← List.map_set]
  have hmem : ∀ i ∈ is.set w is[q], i ∈ is ∧ i ≠ is[w] := fun i hi => by
    obtain ⟨j, hj, rfl⟩ := List.mem_iff_getElem.1 hi
    rw [List.length_set] at hj
    rw [List.getElem_set]
    split
    · exact ⟨List.getElem_mem hql', fun e => hne ((List.getElem_inj hnd).1 e)⟩
    · rename_i hjw
      exact ⟨List.getElem_mem hj, fun e => hjw ((List.getElem_inj hnd).1 e).symm⟩
  have hll : (is.set w is[q]).length = is.length := List.length_set
  rw [joinR_some _ (by rw [List.length_map, hll]; omega) (by rw [List.length_map, hll]; omega)]
  rw [nums_chunks f t b z rs limit hw ho _ (fun i hi => hin i (hmem i hi).1)]
  have hn := hin _ (List.getElem_mem hwl')
  generalize is[w] = n at *
  generalize is.set w is[q] = js at *
  rcases js with _ | ⟨i, js⟩
  · simp at hll
    omega
  · refine join_twice (a := ckAt f t b z rs (startsR limit rs) i) (cs := js.map (ckAt f t b z rs (startsR limit rs))) n hn ?_
    rw [List.filter_eq_nil_iff.2]
    · simp
    · intro c hc
      obtain ⟨j, hj, rfl⟩ : ∃ j, j ∈ i :: js ∧ ckAt f t b z rs (startsR limit rs) j = c := by
        rw [← List.map_cons] at hc
        exact List.mem_map.1 hc
      have := (hmem j hj).2
      simpa [ckAt] using this
theorem joinR_strange {f t b z : Nat} {t2 : Nat} {rs : List Rc} {limit : Int} {ms : List (List UInt8)} (hw : wellHead f t b z = true) (hw2 : wellHead f t2 b z = true) (ho : recsOk b z (-1) rs = true) (h : ms.Perm (chunksR f t b z rs (startsR limit rs))) (h1 : 2 ≤ ms.length) (h2 : ms.length ≤ 100) (w v : Nat) (hwl : w < ms.length)
    (hv : v < (chunksR f t2 b z rs (startsR limit rs)).length) (hne : t2 ≠ t) : joinR (ms.take w ++ ms.drop (w + 1) ++ [(chunksR f t2 b z rs (startsR limit rs))[v]]) = .inl 13 := by
  obtain ⟨is, hp, rfl⟩ := chunks_nums h
  rw [List.length_map] at h1 h2 hwl
  have hl := hp.length_eq
  rw [List.length_range] at hl
  rw [← List.map_take, ← List.map_drop, ← List.map_append]
  have hll : (is.take w ++ is.drop (w + 1)).length = is.length - 1 := by
    rw [List.length_append, List.length_take, List.length_drop]
    omega
  have hv' : v < (startsR limit rs).length := by simpa [chunksR] using hv
  have hg : (chunksR f t2 b z rs (startsR limit rs))[v] = chunkB f t2 b z rs.length v (startsR limit rs).length (partR (startsR limit rs) rs v) := by simp [chunksR]
  rw [hg, joinR_some _ (by rw [List.length_append, List.length_map, hll, List.length_singleton]; omega) (by rw [List.length_append, List.length_map, hll, List.length_singleton]; omega)]
  rw [chunksOf_ok _ _ _ _ (nums_chunks f t b z rs limit hw ho _ (fun i hi => List.mem_range.1 (hp.mem_iff.1 (less_mem hi)))) (part_ok f t2 b z rs limit hw2 ho v hv')]
  generalize is.take w ++ is.drop (w + 1) = js at *
  rcases js with _ | ⟨i, js⟩
  · simp at hll
    omega
  · exact join_strange (a := ckAt f t b z rs (startsR limit rs) i) (c := ckAt f t2 b z rs (startsR limit rs) v) (cs := js.map (ckAt f t b z rs (startsR limit rs)) ++ [ckAt f t2 b z rs (startsR limit rs) v]) (by simp) hne
end Go.Proofs.Ytkmeingnhaomaab
/- Texts appended many at once: 'append(o, m[:at]...)', 'append(o, m[at:]...)'. -/
namespace Go.Proofs.Ytkmeingnhaomaab
open Go.RowKit Go.Shelf

/-- The texts that a source holds. -/
def SrcS (W : World) (xv : Value) (ys : List ByteArray) : Prop :=
  (xv = .slice none 0 0 ∧ ys = []) ∨ ∃ ad c, xv = .slice (some ad) ys.length c ∧ ∀ j u, (strVals ys)[j]? = some u → W.cell? (Addr.add ad j) = some u
theorem wpList_append_txs (w : World) {ops : Array Oper} {rest : List Oper} {o : Oper} {a : Act} {Q : Exit → Act → World → Prop} (hgd : o.guard = none) (s x : Operand)
    (ho : o.op = .call { callee := .builtin .append, args := #[s, x], argTypes := #[37, 37] })
    (B : Nat) (v : Value) (cs : List ByteArray) (xv : Value) (ys : List ByteArray) (hs : a.eval s = v) (hown : OwnsS B w v cs) (hx : a.eval x = xv) (hys : SrcS w xv ys) (hl : cs.length + ys.length ≤ 2000) (hB : B ≤ w.heap.size)
    (h : ∀ v' w', OwnsS B w' v' (cs ++ ys) → w.grownBy w' v.ownBlock → wpList Try.prog ops Q rest (a.put o.dst v') w') : wpList Try.prog ops Q (o :: rest) a w := by
  obtain ⟨i0, hi, hz0, hz1, hz2⟩ := info_parts Try.infoStr
  rcases hys with ⟨rfl, rfl⟩ | ⟨ad, c, rfl, hc⟩
  · refine wpList_append_own_none hgd s x 37 ho B 9 i0 1 Try.underlying37 hi v cs.length (strVals cs) hs hown hx ?_
    exact h v w (by rw [List.append_nil]; exact hown) ⟨rfl, rfl, rfl, Nat.le_refl _, fun _ _ _ => rfl⟩
  · have hml : cs.length + ys.length ≤ maxLen := Nat.le_trans hl (by decide)
    refine wpList_append_own w hgd s x 37 ho B 9 i0 _ 1 16 Try.underlying37 hi hz0 hz1 hz2 rfl (by decide) _ _ _ hs hown ad ys.length c (strVals ys) hx (strVals_length ys) hc (strVals_one ys) hml (by omega) hB ?_
    intro v' w' ho' hg' _
    refine h v' w' ?_ hg'
    unfold OwnsS
    rw [List.length_append, show strVals (cs ++ ys) = strVals cs ++ strVals ys from by simp [strVals]]
    exact ho'
/-- The front of a list. -/
theorem OwnsS.front {B : Nat} {W : World} {a : Option Addr} {l cp : Nat} {cs : List ByteArray} (h : OwnsS B W (.slice a l cp) cs) (k : Nat) (hk : k ≤ cs.length) : SrcS W (.slice a k cp) (cs.take k) := by
  have h0 : W.ownsRow B 9 1 (.slice a l cp) cs.length (strVals cs) := h
  rcases h0.2 with ⟨e, hn⟩ | ⟨g, cap, cur, e, _⟩
  · simp only [Value.slice.injEq] at e
    obtain ⟨rfl, rfl, rfl⟩ := e
    obtain rfl : cs = [] := List.eq_nil_of_length_eq_zero hn
    obtain rfl : k = 0 := by simpa using hk
    exact .inl ⟨rfl, rfl⟩
  · simp only [Value.slice.injEq] at e
    obtain ⟨rfl, rfl, rfl⟩ := e
    refine .inr ⟨⟨g, 0, none⟩, cp, by rw [List.length_take, Nat.min_eq_left hk], fun j u hj => ?_⟩
    have hlt := (List.getElem?_eq_some_iff.1 hj).1
    simp only [strVals, List.length_map, List.length_take] at hlt
    have hjc : j < cs.length := by omega
    have hj2 : (strVals cs)[j]? = some u := by
      rw [strVals_at _ j (by rw [List.length_take]; omega), List.getElem_take] at hj
      rw [strVals_at cs j hjc]
      exact hj
    exact h0.cells (g := g) rfl j u hj2
/-- .. and what stands behind it. -/
theorem OwnsS.behind {B : Nat} {W : World} {a : Option Addr} {l cp : Nat} {cs : List ByteArray} (h : OwnsS B W (.slice a l cp) cs) (k : Nat) (hk : k ≤ cs.length) : SrcS W (.slice (if cp = k then a else Option.map (fun x => x.add k) a) (cs.length - k) (cp - k)) (cs.drop k) := by
  have h0 : W.ownsRow B 9 1 (.slice a l cp) cs.length (strVals cs) := h
  rcases h0.2 with ⟨e, hn⟩ | ⟨g, cap, cur, e, _, _, hc, _⟩
  · simp only [Value.slice.injEq] at e
    obtain ⟨rfl, rfl, rfl⟩ := e
    obtain rfl : cs = [] := List.eq_nil_of_length_eq_zero hn
    obtain rfl : k = 0 := by simpa using hk
    exact .inl ⟨rfl, rfl⟩
  · simp only [Value.slice.injEq] at e
    obtain ⟨rfl, rfl, rfl⟩ := e
    by_cases hck : cp = k
    · refine .inr ⟨⟨g, 0, none⟩, cp - k, ?_, fun j u hj => ?_⟩
      · rw [if_pos hck, List.length_drop]
      · have hlt := (List.getElem?_eq_some_iff.1 hj).1
        simp only [strVals, List.length_map, List.length_drop] at hlt
        omega
    · refine .inr ⟨⟨g, k, none⟩, cp - k, ?_, fun j u hj => ?_⟩
      · rw [if_neg hck, List.length_drop]
        simp only [Option.map_some, Addr.add_lit, Nat.zero_add]
      · have hlt := (List.getElem?_eq_some_iff.1 hj).1
        simp only [strVals, List.length_map, List.length_drop] at hlt
        have hj2 : (strVals cs)[k + j]? = some u := by
          rw [strVals_at _ j (by rw [List.length_drop]; omega), List.getElem_drop] at hj
          rw [strVals_at cs (k + j) (by omega)]
          exact hj
        have := h0.cells (g := g) rfl (k + j) u hj2
        rw [Addr.add_lit] at this ⊢
        rw [Nat.zero_add] at this
        exact this
theorem SrcS.below {W W' : World} {xv : Value} {ys : List ByteArray} (h : SrcS W xv ys) (hb : Below W.heap.size W W') : SrcS W' xv ys := by
  rcases h with h | ⟨ad, c, e, hc⟩
  · exact .inl h
  · refine .inr ⟨ad, c, e, fun j u hj => ?_⟩
    have h1 := hc j u hj
    exact (World.cell?_of_block (hb.block _ (World.block_lt_of_cell? W _ h1))).trans h1
theorem SrcS.kept {W W' : World} {xv : Value} {ys : List ByteArray} (h : SrcS W xv ys) (hg : W.grownBy W' none) : SrcS W' xv ys := by
  rcases h with h | ⟨ad, c, e, hc⟩
  · exact .inl h
  · refine .inr ⟨ad, c, e, fun j u hj => ?_⟩
    have h1 := hc j u hj
    have hb := World.block_lt_of_cell? W _ h1
    exact (World.cell?_of_block (hg.block _ hb (by simp))).trans h1
end Go.Proofs.Ytkmeingnhaomaab
/- The walk of Pieces. -/
namespace Go.Proofs.Ytkmeingnhaomaab
open Go.RowKit Go.Shelf

/-- Split of a text that is read, where the limit is wide enough. -/
theorem split_good (f t b z : Nat) (rs : List Rc) (limit : Int) (hw : wellHead f t b z = true) (ho : recsOk b z (-1) rs = true) (hm : ((28 + mostR rs : Nat) : Int) ≤ limit) : splitR (serB f t b z rs) limit = .inr (chunksR f t b z rs (startsR limit rs)) := by
  unfold splitR
  rw [parse_back f t b z rs hw ho]
  simp only []
  rw [if_neg (by omega)]
theorem split_small (f t b z : Nat) (rs : List Rc) (limit : Int) (hw : wellHead f t b z = true) (ho : recsOk b z (-1) rs = true) (hm : limit < 28) : splitR (serB f t b z rs) limit = .inl 12 := by
  unfold splitR
  rw [parse_back f t b z rs hw ho]
  simp only []
  rw [if_pos (by omega)]
theorem mostR_le (b z : Nat) (rs : List Rc) (hz : z ≤ 64) (ho : recsOk b z (-1) rs = true) : mostR rs ≤ 3 + z := by
  have h1 : ∀ (xs : List Rc) (m : Nat), m ≤ 3 + z → (∀ r ∈ xs, lenR r ≤ 3 + z) → xs.foldl (fun m r => max m (lenR r)) m ≤ 3 + z := by
    intro xs
    induction xs with
    | nil => intro m hm _; exact hm
    | cons x xs ih =>
      intro m hm hx
      rw [List.foldl_cons]
      have := hx x (by simp)
      exact ih _ (by omega) (fun r hr => hx r (by simp [hr]))
  refine h1 rs 0 (by omega) fun r hr => ?_
  obtain ⟨k, hk, rfl⟩ := List.mem_iff_getElem.1 hr
  have h := (recsOk_at b z rs (-1) ho k hk).2.2
  unfold lenR recB
  have hs : rs[k].data.data.toList.length = rs[k].data.size := by simp
  split
  · simp [lowB_length]
  · rename_i hf
    rw [if_neg hf] at h
    rw [List.length_cons, List.length_append, lowB_length, hs]
    omega
theorem toldP_good {l : List UInt8} {limit : Int} {w w' : World} {e : Ending} {ts : List (List UInt8)} (h : ToldP l limit w e w') (hs : splitR l limit = .inr ts) :
    ∃ a c, e = .returned (.tuple #[.slice a ts.length c, .int .i64 0]) ∧ OwnsS w.heap.size w' (.slice a ts.length c) (ts.map mkB) ∧ w.grownBy w' none := by
  obtain ⟨hg, (⟨k, hk, rfl⟩ | ⟨ts', v, hk, rfl, ho⟩)⟩ := h
  · rw [hs] at hk; cases hk
  · rw [hs] at hk; cases hk
    have ho2 := own1_strs ho
    obtain ⟨a, c, e⟩ := ho2.slice
    rw [List.length_map] at e
    subst e
    exact ⟨a, c, rfl, ho2, hg⟩

theorem OwnsS.tss_lists {B : Nat} {W : World} {v : Value} {ms : List (List UInt8)} (h : OwnsS B W v (ms.map mkB)) : Txs W.heap.size W v ms := by
  have := h.tss.txs
  rw [List.map_map] at this
  have e : ms.map ((fun q : ByteArray => q.data.toList) ∘ mkB) = ms := by
    conv => rhs; rw [← List.map_id ms]
    exact List.map_congr_left fun q _ => by simp [mkB]
  rw [e] at this
  exact this
theorem pjoin_owns {B : Nat} {W : World} {v : Value} {ms : List (List UInt8)} (h : OwnsS B W v (ms.map mkB)) (hl : ∀ t ∈ ms, t.length ≤ 1000) (hn : ms.length ≤ 1000) : Calls Try.prog 12 #[v] W (ToldJ ms W) :=
  pjoin v ms W h.tss_lists (fun t ht => Nat.le_trans (hl t ht) (by decide)) (Nat.le_trans hn (by decide))
theorem toldJ_ok {ms : List (List UInt8)} {w w' : World} {e : Ending} {f t b z : Nat} {rs : List Rc} (h : ToldJ ms w e w') (hj : joinR ms = .inr (f, t, b, z, rs)) : e = .returned (.tuple #[.string ⟨(serB f t b z rs).toArray⟩, .int .i64 0]) ∧ w.grownBy w' none := by
  obtain ⟨hg, (⟨k, hk, rfl⟩ | ⟨f', t', b', z', rs', hk, rfl⟩)⟩ := h
  · rw [hj] at hk; cases hk
  · rw [hj] at hk; cases hk
    exact ⟨rfl, hg⟩
theorem toldJ_err {ms : List (List UInt8)} {w w' : World} {e : Ending} {k : Int} (h : ToldJ ms w e w') (hj : joinR ms = .inl k) : e = .returned (.tuple #[.string ⟨#[]⟩, .int .i64 k]) ∧ w.grownBy w' none := by
  obtain ⟨hg, (⟨k', hk, rfl⟩ | ⟨f', t', b', z', rs', hk, rfl⟩)⟩ := h
  · rw [hj] at hk; cases hk
    exact ⟨rfl, hg⟩
  · rw [hj] at hk; cases hk
theorem toldP_bad {l : List UInt8} {limit : Int} {w w' : World} {e : Ending} {k : Int} (h : ToldP l limit w e w') (hs : splitR l limit = .inl k) : e = .returned (.tuple #[.slice none 0 0, .int .i64 k]) ∧ w.grownBy w' none := by
  obtain ⟨hg, (⟨k', hk, rfl⟩ | ⟨ts', v, hk, rfl, ho⟩)⟩ := h
  · rw [hs] at hk; cases hk
    exact ⟨rfl, hg⟩
  · rw [hs] at hk; cases hk
theorem Ints.up {w W : World} {v : Value} {xs : List Int} (h : Ints w.heap.size w v xs) (hg : w.grownBy W none) : Ints W.heap.size W v xs := by
  have h2 := h.below (below_of_grown hg)
  rcases h2 with h2 | ⟨b, o, cap, e, hlt, hc⟩
  · exact .inl h2
  · exact .inr ⟨b, o, cap, e, Nat.lt_of_lt_of_le hlt hg.size, hc⟩
theorem OwnsS.cap {B : Nat} {W : World} {a : Option Addr} {l c : Nat} {cs : List ByteArray} (h : OwnsS B W (.slice a l c) cs) : cs.length ≤ c := by
  have h0 : W.ownsRow B 9 1 (.slice a l c) cs.length (strVals cs) := h
  rcases h0.2 with ⟨e, hn⟩ | ⟨g', cap', cur, e, hb, hg, h1, h2, h3, h4⟩
  · omega
  · cases e
    exact h1
theorem OwnsS.some {B : Nat} {W : World} {a : Option Addr} {l c : Nat} {cs : List ByteArray} (h : OwnsS B W (.slice a l c) cs) (h1 : 1 ≤ cs.length) : ∃ g, a = some ⟨g, 0, none⟩ ∧ B ≤ g ∧ g < W.heap.size := by
  have h0 : W.ownsRow B 9 1 (.slice a l c) cs.length (strVals cs) := h
  rcases h0.2 with ⟨e, hn⟩ | ⟨g', cap', cur, e, hb, hg, _⟩
  · omega
  · cases e
    exact ⟨g', rfl, hb, (Array.getElem?_eq_some_iff.1 hg).1⟩

theorem OwnsS.thaw {B : Nat} {W : World} {g n cap : Nat} {cs : List ByteArray} (h : OwnsS B W (.slice (Option.some ⟨g, 0, none⟩) n cap) cs) (o : Nat) : W.frozen? ⟨g, o, none⟩ = false := by
  have h0 : W.ownsRow B 9 1 (.slice (Option.some ⟨g, 0, none⟩) n cap) cs.length (strVals cs) := h
  rcases h0.2 with ⟨e, _⟩ | ⟨g', cap, cur, e, _, hgb, _⟩
  · cases e
  · simp only [Value.slice.injEq, Option.some.injEq, Addr.mk.injEq] at e
    obtain ⟨⟨rfl, _⟩, _⟩ := e
    exact boxed_frozen hgb
theorem toldJ_shape {ms : List (List UInt8)} {w w' : World} {e : Ending} (h : ToldJ ms w e w') : ∃ (o : Array UInt8) (k : Int), e = .returned (.tuple #[.string ⟨o⟩, .int .i64 k]) ∧ w.grownBy w' none ∧ (∀ k', joinR ms = .inl k' → k = k') ∧ (∀ f t b z rs, joinR ms = .inr (f, t, b, z, rs) → k = 0 ∧ o = (serB f t b z rs).toArray) := by
  obtain ⟨hg, (⟨k, hk, rfl⟩ | ⟨f, t, b, z, rs, hk, rfl⟩)⟩ := h
  · exact ⟨_, k, rfl, hg, fun k' h' => (by rw [hk] at h'; cases h'; rfl), fun f t b z rs h' => (by rw [hk] at h'; cases h')⟩
  · exact ⟨_, 0, rfl, hg, fun k' h' => (by rw [hk] at h'; cases h'), fun f t b z rs h' => by rw [hk] at h'; cases h'; exact ⟨rfl, rfl⟩⟩
theorem i64_wrap (x : Int) : I64 (wrap64 x) := by unfold I64 wrap64; omega

set_option maxRecDepth 100000 in
set_option maxHeartbeats 4000000 in
theorem pieces_walk (x y lm wh : Int) (v v2 : Value) (xs ys : List Int) (w : World) (hx : I64 x) (hy : I64 y) (hlm : I64 lm) (hwh' : I64 wh) (hv : Ints w.heap.size w v xs) (hxs : ∀ c ∈ xs, I64 c) (hxl : xs.length ≤ 9223372036854775807) (hv2 : Ints w.heap.size w v2 ys) (hys : ∀ c ∈ ys, I64 c) (hyl : ys.length ≤ 9223372036854775807) :
    Calls Try.prog 4 #[.int .i64 x, .int .i64 y, v, .int .i64 lm, v2, .int .i64 wh] w fun e w' => e = .returned (.bool true) ∧ w.grownBy w' none := by
  obtain ⟨a, cap, rfl⟩ := hv.slice
  obtain ⟨a2, cap2, rfl⟩ := hv2.slice
  have hn : pickN x 100 + 1 ≤ 100 := pickN_lt x 100 (by omega)
  have hz : pickN y 64 + 1 ≤ 64 := pickN_lt y 64 (by omega)
  have hlp : pickN lm 300 < 300 := pickN_lt lm 300 (by omega)
  have HV : Hid (∀ W, w.grownBy W none → Ints W.heap.size W (.slice a xs.length cap) xs) := fun W h => hv.up h
  have HV2 : Hid (∀ W, w.grownBy W none → Ints w.heap.size W (.slice a2 ys.length cap2) ys) := fun W h => hv2.below (below_of_grown h)
  have HM : Hid (∀ t W, w.grownBy W none → _) := fun t W h => made_fn 1 t (pickN x 100 + 1) (pickN y 64 + 1) (.slice a xs.length cap) xs false W (HV.out W h) hxs hxl (by omega) (by omega)
  have HS : Hid (∀ W, _) := fun W => shape_any x y W hx hy
  have HPL : Hid (∀ W, _) := fun W => pick_at lm 300 300 W hlm rfl (by omega) (by omega)
  have hwh2 : wellHead 1 2 ((pickN x 100 + 1 : Nat) : Int) ((pickN y 64 + 1 : Nat) : Int) = true := decide_eq_true ⟨by omega, by omega, by omega, by omega, by omega, by omega, by omega, by omega, by omega⟩
  have hwh3 : wellHead 1 3 ((pickN x 100 + 1 : Nat) : Int) ((pickN y 64 + 1 : Nat) : Int) = true := decide_eq_true ⟨by omega, by omega, by omega, by omega, by omega, by omega, by omega, by omega, by omega⟩
  have hok := (madeR_ok (pickN x 100 + 1) (pickN y 64 + 1) xs false (pickN x 100 + 1) (Nat.le_refl _)).1
  have hml := mostR_le (pickN x 100 + 1) (pickN y 64 + 1) _ hz hok
  generalize pickN x 100 + 1 = n at *
  generalize pickN y 64 + 1 = z at *
  generalize pickN lm 300 = lp at *
  generalize madeR z xs false n = rs at *
  have hfit : ((28 + mostR rs : Nat) : Int) ≤ 31 + (z : Int) + (lp : Int) := by omega
  have hsm := serB_small 1 2 n z rs (by omega) (by omega) hok
  have HSP : Hid _ := split_good 1 2 n z rs (31 + (z : Int) + (lp : Int)) hwh2 hok hfit
  have HSO : Hid _ := split_good 1 3 n z rs (31 + (z : Int) + (lp : Int)) hwh3 hok hfit
  have HSS : Hid _ := split_small 1 2 n z rs 27 hwh2 hok (by omega)
  have HT2 : Hid (∀ sv W, Recs W.heap.size W sv rs → _) := fun sv W h => text_good 1 2 n z sv rs W h hwh2 hok
  have HT3 : Hid (∀ sv W, Recs W.heap.size W sv rs → _) := fun sv W h => text_good 1 3 n z sv rs W h hwh3 hok
  go_enter Try.func4, Try.ntmps4
  go_wp2_with fail
  refine (HS.out _).mono ?_
  rintro e w1 ⟨rfl, rfl⟩
  go_wp2_with fail
  refine (HM.out 2 w1 (drew_grown _ 0 _)).mono ?_
  rintro e w2 ⟨sv, rfl, hown, hg2⟩
  obtain ⟨al, cl, rfl⟩ := hown.recs.slice
  have HG2 : Hid (w1.grownBy w2 none) := hg2
  have R2 : Hid (∀ o, Recs (World.alloc w2 o).heap.size (World.alloc w2 o) (.slice al rs.length cl) rs) := fun o => (OwnsR.alloc hown o).recs
  have hL0 : (serB 1 2 n z rs).isEmpty = false := isEmpty_false (by omega)
  clear hg2 hown hv hv2 hx hy hxs hxl hlm
  generalize hL : serB 1 2 n z rs = L at *
  go_wp2_with fail
  refine (HT2.out _ _ (R2.out _)).mono ?_
  rintro e w3 ⟨rfl, hg3⟩
  have G3 : Hid (w1.grownBy w3 none) := gtrans (gallocR HG2.out _) hg3
  clear hg3 R2 HG2
  go_wp2_with fail
  refine (HPL.out _).mono ?_
  rintro e wx ⟨rfl, rfl⟩
  go_wp2_with fail
  refine (psplit L (31 + (z : Int) + (lp : Int)) _ (by omega) (by omega) (by omega)).mono ?_
  intro e w4 h4
  obtain ⟨at4, ct4, rfl, ho4, hg4⟩ := toldP_good h4 HSP.out
  have HST : Hid _ := stK_up (31 + (z : Int) + (lp : Int)) rs rs.length (Nat.le_refl _)
  have hTl : (chunksR 1 2 n z rs (startsR (31 + (z : Int) + (lp : Int)) rs)).length = (startsR (31 + (z : Int) + (lp : Int)) rs).length := by simp [chunksR]
  have hrl := recsOk_length n z rs hok (by omega)
  have hsl1 : 1 ≤ (startsR (31 + (z : Int) + (lp : Int)) rs).length := HST.out.2.2.2.1
  have hsl2 : (startsR (31 + (z : Int) + (lp : Int)) rs).length ≤ 100 := by have := stK_len (31 + (z : Int) + (lp : Int)) rs hfit rs.length (Nat.le_refl _); unfold startsR; omega
  have HFIT : Hid (∀ q ∈ chunksR 1 2 n z rs (startsR (31 + (z : Int) + (lp : Int)) rs), (q.length : Int) ≤ 31 + (z : Int) + (lp : Int)) := chunks_fit 1 2 n z rs _ hfit
  have G4 : Hid (w1.grownBy w4 none) := gtrans G3.out hg4
  have O4 : Hid (OwnsS wx.heap.size w4 (.slice at4 (chunksR 1 2 n z rs (startsR (31 + (z : Int) + (lp : Int)) rs)).length ct4) ((chunksR 1 2 n z rs (startsR (31 + (z : Int) + (lp : Int)) rs)).map mkB)) := ho4
  clear h4 ho4 hg4 HST
  obtain ⟨T, hT⟩ : ∃ T, T = chunksR 1 2 n z rs (startsR (31 + (z : Int) + (lp : Int)) rs) := ⟨_, rfl⟩
  rw [← hT] at hTl HFIT O4 ⊢
  have HTT : Hid _ := hT
  clear hT
  have hT1 : 1 ≤ T.length := by omega
  have hT2 : T.length ≤ 100 := by omega
  have d4 : ((T.length : Int) == 0) = false := by rw [beq_eq_false_iff_ne]; omega
  have HTL : Hid _ := hTl
  clear hTl hsl1 hsl2
  have TS4 : Hid (∀ W, w4.grownBy W none → Tss W.heap.size W (.slice at4 T.length ct4) (T.map mkB)) := fun W h => (O4.out.tss).moved (below_of_grown h)
  have HYS : Hid (∀ k, I64 (ys.getD k 0)) := by
    intro k
    rw [List.getD_eq_getElem?_getD]
    by_cases hk : k < ys.length
    · rw [List.getElem?_eq_getElem hk, Option.getD_some]
      exact hys _ (List.getElem_mem hk)
    · rw [List.getElem?_eq_none (by omega), Option.getD_none]
      exact ⟨by omega, by omega⟩
  clear hys
  go_wp2
  go_loopw [20, 21] (fun mv i wr => ∃ (k : Nat) (ms : List (List UInt8)), k ≤ T.length ∧ i = .int .i64 k ∧ ms.Perm (T.take k) ∧ OwnsS w4.heap.size wr mv (ms.map mkB) ∧ w4.grownBy wr none) (fun _ i _ => T.length - (intOf i).toNat)
  case atStart => exact ⟨0, [], Nat.zero_le _, rfl, List.Perm.refl _, World.ownsRow_nil _ _ _ _, drew_grown _ 0 _⟩
  case round =>
    obtain ⟨k, ms, hk, rfl, hpm, hO, hG⟩ := hrel
    have hmk : ms.length = k := by rw [hpm.length_eq, List.length_take]; omega
    by_cases hlt : k < T.length
    · obtain ⟨tb, toff, ha, htb, q0⟩ := (TS4.out _ hG).at (k := k) (by rw [List.length_map]; exact hlt)
      subst ha
      rw [List.getElem_map] at q0
      have hsz : (mkB T[k]).size = T[k].length := by simp [mkB, ByteArray.size]
      have hfk := HFIT.out _ (List.getElem_mem hlt)
      have HPM2 : Hid (∀ p, p ≤ ms.length → (ms.take p ++ [T[k]] ++ ms.drop p).Perm (T.take (k + 1))) := fun p hp => by
        rw [List.take_succ_eq_append_getElem hlt, List.append_assoc, List.singleton_append]
        refine List.perm_middle.trans ?_
        rw [List.take_append_drop]
        exact ((hpm.cons T[k])).trans (List.perm_append_singleton _ _).symm
      have HN : Hid (∀ u : Unit, _) := fun _ => nth_any w1.heap.size _ ys k wr (HV2.out _ (gtrans G4.out hG)) (by omega) hyl
      have HI := HYS.out k
      generalize ys.getD k 0 = c at *
      have HPK : Hid (∀ u : Unit, _) := fun _ => pick_at c ((k : Int) + 1) (k + 1) wr HI (by omega) (by omega) (by omega)
      have hp := pickN_lt c (k + 1) (by omega)
      generalize pickN c (k + 1) = p at *
      obtain ⟨am, cm, hmv⟩ := hO.slice
      rw [List.length_map, hmk] at hmv
      subst hmv
      have HF1 : Hid _ := hO.front p (by rw [List.length_map]; omega)
      have HF2 : Hid _ := hO.behind p (by rw [List.length_map]; omega)
      rw [List.length_map, hmk] at HF2
      have hcm : (k : Int) ≤ (cm : Int) := by have := hO.cap; rw [List.length_map, hmk] at this; omega
      have HG : Hid (w4.grownBy wr none) := hG
      have d6 : decide (31 + (z : Int) + (lp : Int) < (T[k].length : Int)) = false := by simp; omega
      have twl : tb < wr.heap.size := htb
      generalize T[k] = tk at *
      have b1 : (0 : Int) ≤ (p : Int) := by omega
      have b2 : (p : Int) ≤ (k : Int) := by omega
      have b3 : (p : Int) ≤ (cm : Int) := by omega
      clear hpm hO hG
      go_wp2_with fail
      refine (HN.out ()).mono ?_
      rintro e wy ⟨rfl, rfl⟩
      go_wp2_with fail
      refine (HPK.out ()).mono ?_
      rintro e wz ⟨rfl, rfl⟩
      have HOA : Hid (OwnsS wz.heap.size wz (.slice none 0 0) []) := World.ownsRow_nil _ _ _ _
      have hl1 : ([] : List ByteArray).length + ((ms.map mkB).take p).length ≤ 2000 := by rw [List.length_take, List.length_map]; simp; omega
      have HQ : Hid (∀ W, Below wz.heap.size wz W → W.cell? ⟨tb, toff + k, none⟩ = some (.string (mkB tk))) := fun W h => (h.cell (p := ⟨tb, toff + k, none⟩) twl).trans q0
      have hl2 : ([] ++ (ms.map mkB).take p).length ≤ 2000 := by rw [List.nil_append, List.length_take, List.length_map]; omega
      have hl3 : ([] ++ (ms.map mkB).take p ++ [mkB tk]).length + ((ms.map mkB).drop p).length ≤ 2000 := by
        rw [List.nil_append, List.length_append, List.length_take, List.length_drop, List.length_map]
        simp
        omega
      have HL5 : Hid (([] ++ (ms.map mkB).take p).length = p) := by show _ = _; rw [List.nil_append, List.length_take, List.length_map]; omega
      have HL6 : Hid (([] ++ (ms.map mkB).take p ++ [mkB tk]).length = p + 1) := by show _ = _; rw [List.length_append, HL5.out]; rfl
      have HL7 : Hid (([] ++ (ms.map mkB).take p ++ [mkB tk] ++ (ms.map mkB).drop p).length = k + 1) := by show _ = _; rw [List.length_append, HL6.out, List.length_drop, List.length_map]; omega
      go_wp2_with (at_builtin; first
        | (have guard1 := HOA; clear guard1; refine wpList_append_txs _ rfl _ _ rfl wz.heap.size _ [] _ _ rfl HOA.out rfl HF1.out hl1 (Nat.le_refl _) ?_; intro v5 w5 hO5 hg5; obtain ⟨a5, c5, hv5⟩ := hO5.slice; rw [HL5.out] at hv5; subst hv5; have B5 : Hid (Below wz.heap.size wz w5) := below_of_grown hg5; have O5 : Hid (OwnsS wz.heap.size w5 _ ([] ++ (ms.map mkB).take p)) := hO5; have q5 := HQ.out _ B5.out; have z5 : wz.heap.size ≤ w5.heap.size := hg5.size; have t5 : tb < w5.heap.size := (by omega); clear hO5 hg5 HOA)
        | (have guard2 := O5; clear guard2; refine wpList_append_sw _ rfl _ _ rfl wz.heap.size _ ([] ++ (ms.map mkB).take p) rfl (OwnsS.alloc O5.out _) ⟨_, 0, none⟩ (mkB tk) rfl (cells_new2 _ _ _ _ (by simp)) hl2 (by simp; omega) ?_; intro v6 w6 hO6 hg6 _ _; obtain ⟨a6, c6, hv6⟩ := hO6.slice; rw [HL6.out] at hv6; subst hv6; have O6 : Hid (OwnsS wz.heap.size w6 _ ([] ++ (ms.map mkB).take p ++ [mkB tk])) := hO6; have B6 : Hid (Below wz.heap.size wz w6) := (B5.out.alloc z5 _).grown hg6 (by simp; omega) (OwnsS.own_ge O5.out); clear hO6 hg6 O5)
        | (have guard3 := O6; clear guard3; refine wpList_append_txs _ rfl _ _ rfl wz.heap.size _ ([] ++ (ms.map mkB).take p ++ [mkB tk]) _ _ rfl O6.out rfl (SrcS.below HF2.out B6.out) hl3 B6.out.size ?_; intro v7 w7 hO7 hg7; obtain ⟨a7, c7, hv7⟩ := hO7.slice; rw [HL7.out] at hv7; subst hv7; have O7 : Hid (OwnsS wz.heap.size w7 _ ([] ++ (ms.map mkB).take p ++ [mkB tk] ++ (ms.map mkB).drop p)) := hO7; have B7 : Hid (Below wz.heap.size wz w7) := B6.out.grown hg7 B6.out.size (OwnsS.own_ge O6.out); clear hO7 hg7 O6))
      have HLM : Hid ([] ++ (ms.map mkB).take p ++ [mkB tk] ++ (ms.map mkB).drop p = (ms.take p ++ [tk] ++ ms.drop p).map mkB) := by show _ = _; simp
      go_roundw
      case rel => exact ⟨k + 1, ms.take p ++ [tk] ++ ms.drop p, by omega, by go_num, HPM2.out p (by omega), by rw [← HLM.out]; exact OwnsS.base O7.out HG.out.size, gtrans HG.out (gbelow B7.out)⟩
      case measure => simp [intOf]; omega
    · obtain rfl : k = T.length := by omega
      rw [List.take_of_length_le (Nat.le_refl _)] at hpm
      have HPM : Hid (ms.Perm T) := hpm
      have hmk : ms.length = T.length := hpm.length_eq
      obtain ⟨am, cm, hmv⟩ := hO.slice
      rw [List.length_map, hmk] at hmv
      subst hmv
      have hcm : (T.length : Int) ≤ (cm : Int) := by have := hO.cap; rw [List.length_map, hmk] at this; omega
      have HO : Hid (OwnsS w4.heap.size wr (.slice am T.length cm) (ms.map mkB)) := hO
      have HG : Hid (w4.grownBy wr none) := hG
      have HML : Hid (∀ t ∈ ms, t.length ≤ 1000) := fun t ht => by have := HFIT.out t (hpm.mem_iff.1 ht); omega
      have HPC : Hid (ms.Perm (chunksR 1 2 n z rs (startsR (31 + (z : Int) + (lp : Int)) rs))) := by show List.Perm _ _; rw [← HTT.out]; exact hpm
      have HJA : Hid _ := joinR_all hwh2 hok HPC.out (by omega) (by omega)
      have hnlt : ¬ (T.length : Int) < (T.length : Int) := by omega
      have HLESS : Hid (∀ c, c < T.length → ∃ kh : Int, joinR (ms.take c ++ ms.drop (c + 1)) = .inl kh ∧ ((kh = 13 ∧ 2 ≤ T.length) ∨ (kh = 1 ∧ T.length = 1))) := fun c hc => by
        by_cases h1 : T.length = 1
        · refine ⟨1, ?_, .inr ⟨rfl, h1⟩⟩
          have e : ms.take c ++ ms.drop (c + 1) = [] := List.eq_nil_of_length_eq_zero (by rw [List.length_append, List.length_take, List.length_drop]; omega)
          rw [e]
          rfl
        · exact ⟨13, joinR_less hwh2 hok HPC.out (by omega) (by omega) c (by omega), .inl ⟨rfl, by omega⟩⟩
      clear hpm hO hG hlt
      have HJ1 : Hid (∀ W, wr.grownBy W none → _) := fun W h => pjoin_owns (OwnsS.kept HO.out h) HML.out (by omega)
      go_wp2_with fail
      refine (HJ1.out _ ⟨rfl, rfl, rfl, Nat.le_refl _, fun _ _ _ => rfl⟩).mono ?_
      intro e w5 h5
      obtain ⟨e5, g5⟩ := toldJ_ok h5 HJA.out
      rw [hL] at e5
      subst e5
      have G5 : Hid (wr.grownBy w5 none) := g5
      clear h5 g5
      go_wp2_with fail
      refine (psplit L 27 _ (by omega) (by omega) (by omega)).mono ?_
      intro e w6 h6
      obtain ⟨rfl, g6⟩ := toldP_bad h6 HSS.out
      have G6 : Hid (wr.grownBy w6 none) := gtrans G5.out g6
      clear h6 g6
      go_wp2_with fail
      refine (pick_at wh T.length T.length _ hwh' rfl (by omega) (by omega)).mono ?_
      rintro e w7 ⟨rfl, rfl⟩
      have hcT := pickN_lt wh T.length (by omega)
      generalize pickN wh T.length = c at *
      have HF1 : Hid (SrcS w7 (.slice am c cm) ((ms.map mkB).take c)) := (HO.out.front c (by rw [List.length_map]; omega)).kept G6.out
      have HF2 : Hid _ := (HO.out.behind (c + 1) (by rw [List.length_map]; omega)).kept G6.out
      rw [List.length_map, hmk] at HF2
      have HF3 : Hid (SrcS w7 (.slice am T.length cm) ((ms.map mkB).take T.length)) := (HO.out.front T.length (by rw [List.length_map]; omega)).kept G6.out
      have b1 : (0 : Int) ≤ (c : Int) := by omega
      have b2 : (c : Int) ≤ (T.length : Int) := by omega
      have b3 : (c : Int) ≤ (cm : Int) := by omega
      have b4 : (0 : Int) ≤ (c : Int) + 1 := by omega
      have b5 : (c : Int) + 1 ≤ (T.length : Int) := by omega
      have b6 : (c : Int) + 1 ≤ (cm : Int) := by omega
      have hmm : (ms.map mkB).length = T.length := by rw [List.length_map]; omega
      have HOA : Hid (OwnsS w7.heap.size w7 (.slice none 0 0) []) := World.ownsRow_nil _ _ _ _
      have hl1 : ([] : List ByteArray).length + ((ms.map mkB).take c).length ≤ 2000 := by rw [List.length_take, hmm]; simp; omega
      have hl2 : ([] ++ (ms.map mkB).take c).length + ((ms.map mkB).drop (c + 1)).length ≤ 2000 := by rw [List.nil_append, List.length_take, List.length_drop, hmm]; omega
      have HL5 : Hid (([] ++ (ms.map mkB).take c).length = c) := by show _ = _; rw [List.nil_append, List.length_take, hmm]; omega
      have HL6 : Hid (([] ++ (ms.map mkB).take c ++ (ms.map mkB).drop (c + 1)).length = T.length - 1) := by show _ = _; rw [List.length_append, HL5.out, List.length_drop, hmm]; omega
      by_cases hcc : cm = c + 1
      case' pos => (subst hcc; rw [if_pos rfl, Nat.sub_self] at HF2)
      case' neg => (rw [if_neg hcc] at HF2)
      all_goals (
        go_wp2_with (at_builtin; first
          | (have guard1 := HOA; clear guard1; refine wpList_append_txs _ rfl _ _ rfl w7.heap.size _ [] _ _ rfl HOA.out rfl HF1.out hl1 (Nat.le_refl _) ?_; intro v8 w8 hO8 hg8; obtain ⟨a8, c8, hv8⟩ := hO8.slice; rw [HL5.out] at hv8; subst hv8; have B8 : Hid (Below w7.heap.size w7 w8) := below_of_grown hg8; have O8 : Hid (OwnsS w7.heap.size w8 _ ([] ++ (ms.map mkB).take c)) := hO8; clear hO8 hg8 HOA)
          | (have guard2 := O8; clear guard2; refine wpList_append_txs _ rfl _ _ rfl w7.heap.size _ ([] ++ (ms.map mkB).take c) _ _ rfl O8.out rfl (SrcS.below HF2.out B8.out) hl2 B8.out.size ?_; intro v9 w9 hO9 hg9; obtain ⟨a9, c9, hv9⟩ := hO9.slice; rw [HL6.out] at hv9; subst hv9; have B9 : Hid (Below w7.heap.size w7 w9) := B8.out.grown hg9 B8.out.size (OwnsS.own_ge O8.out); have O9 : Hid (OwnsS w7.heap.size w9 _ ([] ++ (ms.map mkB).take c ++ (ms.map mkB).drop (c + 1))) := hO9; clear hO9 hg9 O8 B8 HF2))
        have HM9 : Hid ([] ++ (ms.map mkB).take c ++ (ms.map mkB).drop (c + 1) = (ms.take c ++ ms.drop (c + 1)).map mkB) := (by show _ = _; simp)
        have OL : Hid (OwnsS w7.heap.size w9 (.slice a9 (T.length - 1) c9) ((ms.take c ++ ms.drop (c + 1)).map mkB)) := (by show OwnsS _ _ _ _; rw [← HM9.out]; exact O9.out)
        clear O9
        have HLL : Hid ((ms.take c ++ ms.drop (c + 1)).length = T.length - 1) := (by show _ = _; rw [List.length_append, List.length_take, List.length_drop]; omega)
        obtain ⟨kh, hkh, hkk⟩ := HLESS.out c hcT
        have HKH : Hid _ := hkh
        clear hkh
        have HJ2 : Hid (∀ u : Unit, _) := fun _ => pjoin_owns OL.out (fun t ht => HML.out t (less_mem ht)) (by rw [HLL.out]; omega)
        refine (HJ2.out ()).mono ?_
        intro e w10 h10
        obtain ⟨rfl, g10⟩ := toldJ_err h10 HKH.out
        have G10 : Hid (w9.grownBy w10 none) := g10
        clear h10 g10 HJ2
        have B10 : Hid (Below w7.heap.size w7 w10) := B9.out.trans ((below_of_grown G10.out).mono B9.out.size)
        have HOB : Hid (OwnsS w10.heap.size w10 (.slice none 0 0) []) := World.ownsRow_nil _ _ _ _
        have hl7 : ([] : List ByteArray).length + ((ms.map mkB).take T.length).length ≤ 2000 := (by rw [List.length_take, hmm]; simp; omega)
        have HL8 : Hid (([] ++ (ms.map mkB).take T.length).length = T.length) := (by show _ = _; rw [List.nil_append, List.length_take, hmm]; omega)
        go_wp2_with (at_builtin; first | (have guard1 := HOB; clear guard1; refine wpList_append_txs _ rfl _ _ rfl w10.heap.size _ [] _ _ rfl HOB.out rfl (SrcS.below HF3.out B10.out) hl7 (Nat.le_refl _) ?_; intro v11 w11 hO11 hg11; obtain ⟨a11, c11, hv11⟩ := hO11.slice; rw [HL8.out] at hv11; subst hv11; have G11 : Hid (w10.grownBy w11 none) := hg11; have O11 : Hid (OwnsS w10.heap.size w11 _ ([] ++ (ms.map mkB).take T.length)) := hO11; clear hO11 hg11 HOB))
        refine (pick_at (wrap64 (wh.tdiv 7)) T.length T.length _ (i64_wrap _) rfl (by omega) (by omega)).mono ?_
        rintro e w12 ⟨rfl, rfl⟩
        have hqT := pickN_lt (wrap64 (wh.tdiv 7)) T.length (by omega)
        generalize pickN (wrap64 (wh.tdiv 7)) T.length = q at *
        have HM11 : Hid ([] ++ (ms.map mkB).take T.length = ms.map mkB) := (by show _ = _; rw [List.nil_append, List.take_of_length_le (by omega)])
        have G7 : Hid (wr.grownBy w12 none) := gtrans G6.out (gtrans (gbelow B10.out) G11.out)
        obtain ⟨g11, hg11, hb11, hz11⟩ := OwnsS.some O11.out (by rw [HL8.out]; omega)
        subst hg11
        have O12 : Hid (OwnsS w10.heap.size w12 (.slice (some ⟨g11, 0, none⟩) T.length c11) (ms.map mkB)) := (by show OwnsS _ _ _ _; rw [← HM11.out]; exact O11.out)
        clear O11
        have hqm : q < ms.length := (by omega)
        have hcm2 : c < ms.length := (by omega)
        obtain ⟨tb2, toff2, ha2, htb2, q2⟩ := (OwnsS.tss (OwnsS.kept HO.out G7.out)).at (k := q) (by rw [hmm]; exact hqT)
        subst ha2
        rw [List.getElem_map] at q2
        have q3 := OwnsS.row O12.out c (by rw [hmm]; exact hcT)
        have z3 := OwnsS.thaw O12.out c
        have e1 : (0 : Int) ≤ (q : Int) := (by omega)
        have e2 : (q : Int) < (T.length : Int) := (by omega)
        have e3 : (c : Int) < (T.length : Int) := (by omega)
        have HTW : Hid _ := OwnsS.store O12.out c (mkB ms[q])
        have HMT : Hid ((ms.map mkB).set c (mkB ms[q]) = (ms.set c ms[q]).map mkB) := (by show _ = _; rw [List.map_set])
        rw [HMT.out] at HTW
        have HTL2 : Hid (∀ t ∈ ms.set c ms[q], t.length ≤ 1000) := (fun t ht => (List.mem_or_eq_of_mem_set ht).elim (HML.out t) (fun e => e ▸ HML.out _ (List.getElem_mem hqm)))
        have BA : Hid (Below w10.heap.size w10 (w12.setCell ⟨g11, c, none⟩ (.string (mkB ms[q])))) := (below_of_grown G11.out).setCell hb11 _
        have HTWC : Hid ((q ≠ c → joinR (ms.set c ms[q]) = .inl 13) ∧ (q = c → joinR (ms.set c ms[q]) = .inr (1, 2, n, z, rs))) := (by
          refine ⟨fun h => joinR_twice hwh2 hok HPC.out (by omega) (by omega) c q hcm2 hqm h, fun h => ?_⟩
          subst h
          rw [List.set_getElem_self]
          exact HJA.out)
        go_wp2_with fail
        generalize w12.setCell ⟨g11, c, none⟩ (.string (mkB ms[q])) = wA at *
        refine (pjoin_owns HTW.out HTL2.out (by rw [List.length_set]; omega)).mono ?_
        intro e w13 h13
        obtain ⟨o13, k13, rfl, g13, hi13, ho13⟩ := toldJ_shape h13
        have HK13 : Hid (k13 = 13 ∨ (k13 = 0 ∧ o13 = L.toArray)) := (by
          by_cases hqc : q = c
          · have := ho13 _ _ _ _ _ (HTWC.out.2 hqc)
            rw [hL] at this
            exact .inr this
          · exact .inl (hi13 _ (HTWC.out.1 hqc)))
        have B13 : Hid (Below w10.heap.size w10 w13) := BA.out.trans ((below_of_grown g13).mono BA.out.size)
        have G13 : Hid (w9.grownBy w13 none) := gtrans G10.out (gbelow B13.out)
        have GW : Hid (w1.grownBy w13 none) := gtrans G4.out (gtrans HG.out (gtrans G6.out (gtrans (gbelow B9.out) G13.out)))
        clear h13 g13 hi13 ho13 HTW O12 q2 q3 z3
        go_wp2_with fail
        refine (HM.out 3 w13 GW.out).mono ?_
        rintro e w14 ⟨sv2, rfl, hown2, hg14⟩
        obtain ⟨al2, cl2, rfl⟩ := hown2.recs.slice
        have R14 : Hid (Recs w14.heap.size w14 (.slice al2 rs.length cl2) rs) := hown2.recs
        have G14 : Hid (w13.grownBy w14 none) := hg14
        clear hg14 hown2
        go_wp2_with fail
        refine (HT3.out _ _ R14.out).mono ?_
        rintro e w15 ⟨rfl, hg15⟩
        have G15 : Hid (w13.grownBy w15 none) := gtrans G14.out hg15
        clear hg15 R14
        have hsm3 := serB_small 1 3 n z rs (by omega) (by omega) hok
        have HS3 : Hid _ := HSO.out
        generalize serB 1 3 n z rs = L3 at *
        go_wp2_with fail
        refine (psplit L3 (31 + (z : Int) + (lp : Int)) _ (by omega) (by omega) (by omega)).mono ?_
        intro e w16 h16
        obtain ⟨at16, ct16, rfl, ho16, hg16⟩ := toldP_good h16 HS3.out
        have HCL : Hid ((chunksR 1 3 n z rs (startsR (31 + (z : Int) + (lp : Int)) rs)).length = T.length) := (by show _ = _; rw [HTL.out]; simp [chunksR])
        rw [HCL.out] at ho16 ⊢
        have HFO : Hid (2 ≤ T.length → ∀ v (hv : v < (chunksR 1 3 n z rs (startsR (31 + (z : Int) + (lp : Int)) rs)).length), joinR (ms.take c ++ ms.drop (c + 1) ++ [(chunksR 1 3 n z rs (startsR (31 + (z : Int) + (lp : Int)) rs))[v]]) = .inl 13) := (fun h2 v hv => joinR_strange hwh2 hwh3 hok HPC.out (by omega) (by omega) c v (by omega) hv (by decide))
        have HFL : Hid (∀ t ∈ chunksR 1 3 n z rs (startsR (31 + (z : Int) + (lp : Int)) rs), t.length ≤ 1000) := (fun t ht => by have := chunks_fit 1 3 n z rs _ hfit t ht; omega)
        generalize chunksR 1 3 n z rs (startsR (31 + (z : Int) + (lp : Int)) rs) = U at *
        have hUT : U.length = T.length := HCL.out
        have hcU : c < U.length := (by omega)
        obtain ⟨tb3, toff3, ha3, htb3, q3⟩ := (OwnsS.tss ho16).at (k := c) (by rw [List.length_map]; exact hcU)
        subst ha3
        rw [List.getElem_map] at q3
        have HFOc : Hid _ := fun h2 => HFO.out h2 c hcU
        have HFLc : Hid _ := HFL.out U[c] (List.getElem_mem hcU)
        have G16 : Hid (w13.grownBy w16 none) := gtrans G15.out hg16
        clear h16 ho16 hg16 HFO HFL HS3
        generalize U[c] = uc at *
        clear hcU hUT HCL
        have OL2 : Hid (OwnsS w7.heap.size w16 (.slice a9 (T.length - 1) c9) ((ms.take c ++ ms.drop (c + 1)).map mkB)) := OwnsS.kept OL.out (gtrans G13.out G16.out)
        have B16 : Hid (Below w7.heap.size w7 w16) := B9.out.trans ((below_of_grown (gtrans G13.out G16.out)).mono B9.out.size)
        have z16 : w7.heap.size ≤ w16.heap.size := B16.out.size
        have f3 : (c : Int) < (T.length : Int) := (by omega)
        have hl17 : ((ms.take c ++ ms.drop (c + 1)).map mkB).length ≤ 2000 := (by rw [List.length_map, HLL.out]; omega)
        have HL17 : Hid (((ms.take c ++ ms.drop (c + 1)).map mkB ++ [mkB uc]).length = T.length) := (by show _ = _; rw [List.length_append, List.length_map, HLL.out, List.length_singleton]; omega)
        go_wp2_with (at_builtin; first | (have guard1 := OL2; clear guard1; refine wpList_append_sw _ rfl _ _ rfl w7.heap.size _ ((ms.take c ++ ms.drop (c + 1)).map mkB) rfl (OwnsS.alloc OL2.out _) ⟨_, 0, none⟩ (mkB uc) rfl (cells_new2 _ _ _ _ (by simp)) hl17 (by simp; omega) ?_; intro v17 w17 hO17 hg17 _ _; obtain ⟨a17, c17, hv17⟩ := hO17.slice; rw [HL17.out] at hv17; subst hv17; have O17 : Hid (OwnsS w7.heap.size w17 _ ((ms.take c ++ ms.drop (c + 1)).map mkB ++ [mkB uc])) := hO17; have B17 : Hid (Below w7.heap.size w7 w17) := (B16.out.alloc z16 _).grown hg17 (by simp; omega) (OwnsS.own_ge OL2.out); clear hO17 hg17 OL2))
        have HM18 : Hid ((ms.take c ++ ms.drop (c + 1)).map mkB ++ [mkB uc] = (ms.take c ++ ms.drop (c + 1) ++ [uc]).map mkB) := (by show _ = _; simp)
        have O18 : Hid (OwnsS w7.heap.size w17 (.slice a17 T.length c17) ((ms.take c ++ ms.drop (c + 1) ++ [uc]).map mkB)) := (by show OwnsS _ _ _ _; rw [← HM18.out]; exact O17.out)
        refine (pjoin_owns O18.out (fun t ht => (List.mem_append.1 ht).elim (fun h => HML.out t (less_mem h)) (fun h => (List.mem_singleton.1 h) ▸ HFLc.out)) (by rw [List.length_append, HLL.out, List.length_singleton]; omega)).mono ?_
        intro e w18 h18
        obtain ⟨o18, k18, rfl, g18, hi18, -⟩ := toldJ_shape h18
        have HK18 : Hid (k18 = 13 ∨ (k18 ≠ 13 ∧ T.length = 1)) := (by
          show _ ∨ _
          by_cases h1 : k18 = 13
          · exact .inl h1
          · by_cases h2 : T.length = 1
            · exact .inr ⟨h1, h2⟩
            · exact .inl (hi18 _ (HFOc.out (by omega))))
        have GF : Hid (w1.grownBy w18 none) := gtrans G4.out (gtrans HG.out (gtrans G6.out (gtrans (gbelow B17.out) g18)))
        clear h18 g18 hi18 O17 O18 HTWC HLESS q3
        rcases hkk with ⟨rfl, hT9⟩ | ⟨rfl, hT9⟩ <;> rcases HK13.out with rfl | ⟨rfl, rfl⟩ <;> rcases HK18.out with rfl | ⟨h18, hT8⟩
        all_goals (go_wp2; go_ret; exact ⟨rfl, GF.out⟩))
end Go.Proofs.Ytkmeingnhaomaab
/- The statement on Pieces. -/
namespace Go.Proofs.Ytkmeingnhaomaab
open Go.ChangeShapes Go.WideShapes Go.ChangeAt Go.RowKit

set_option maxRecDepth 100000 in
theorem pieces_lifted (os : Os) (started : os.Started) (H : Type) (enc : TypeId × Value → H) :
    ReturnsInHanded {} Try.checked os 4 .any (Rows.piecesSpec.pre6 enc Try.prog Try.f4 Rows.piecesRow.domain false) (Rows.piecesSpec.post enc Try.prog Try.f4 false true false false) := by
  refine returnsInHanded_of_change_sized (C := Try.checked) Try.own started (by kernel_rfl) Try.func4
    (ChangeSpec.witness6 (enc := enc) (C := Try.checked) false ⟨#[], #[.int .i64 0, .int .i64 0, .slice none 0 0, .int .i64 0, .slice none 0 0, .int .i64 0], []⟩ 8 (by kernel_rfl) (by kernel_rfl) (by kernel_rfl) (by kernel_rfl)) ?_
  intro W base args ds gs before hval0 hW _ _ _
  have hval : ∀ (j : Nat) t v, Try.f4.params[j]? = some t → args[j]? = some v → Value.okWide Try.prog W .any base t v := hval0
  have hW' := hW
  obtain ⟨p, q, hA0, hV, rfl, _, _⟩ := hW
  have hA : DataW.TrodAll enc Try.prog W 0 (fun _ => true) true Try.f4.params.toList args.toList ds p := hA0
  rw [Try.params4] at hA hval
  obtain ⟨v0, vs0, d0, ds0, p0, q0, hargs, rfl, rfl, h0, r0⟩ := trodAll_cons hA
  obtain ⟨v1, vs1, d1, ds1, p1, q1, rfl, rfl, rfl, h1, r1⟩ := trodAll_cons r0
  obtain ⟨v2, vs2, d2, ds2, p2, q2, rfl, rfl, rfl, h2, r2⟩ := trodAll_cons r1
  obtain ⟨v3, vs3, d3, ds3, p3, q3, rfl, rfl, rfl, h3, r3⟩ := trodAll_cons r2
  obtain ⟨v4, vs4, d4, ds4, p4, q4, rfl, rfl, rfl, h4, r4⟩ := trodAll_cons r3
  obtain ⟨v5, vs5, d5, ds5, p5, q5, rfl, rfl, rfl, h5, r5⟩ := trodAll_cons r4
  obtain ⟨rfl, rfl, rfl⟩ := trodAll_nil r5
  obtain rfl : args = #[v0, v1, v2, v3, v4, v5] := by cases args; simp_all
  obtain ⟨rfl, rfl⟩ := trodVars_none hV
  obtain ⟨a0, rfl, rfl, rfl, w0⟩ := open_int Try.underlying3 (hval 0 3 v0 rfl rfl) h0
  obtain ⟨a1, rfl, rfl, rfl, w1⟩ := open_int Try.underlying3 (hval 1 3 v1 rfl rfl) h1
  obtain ⟨a3, rfl, rfl, rfl, w3⟩ := open_int Try.underlying3 (hval 3 3 v3 rfl rfl) h3
  obtain ⟨a5, rfl, rfl, rfl, w5⟩ := open_int Try.underlying3 (hval 5 3 v5 rfl rfl) h5
  obtain ⟨xs, hi, hx, hl⟩ := open_nums (hval 2 22 v2 rfl rfl) h2
  obtain ⟨ys, hi2, hx2, hl2⟩ := open_nums (hval 4 22 v4 rfl rfl) h4
  clear hA0 hval0
  simp only [List.append_nil] at hW'
  have hlt : ∀ x ∈ p2, x.block < W.heap.size := fun x hx => by simpa using hW'.lt x (by simp [hx])
  have hlt4 : ∀ x ∈ p4, x.block < W.heap.size := fun x hx => by simpa using hW'.lt x (by simp [hx])
  refine (pieces_walk a0 a1 a3 a5 v2 v4 xs ys W (wf_i64 w0) (wf_i64 w1) (wf_i64 w3) (wf_i64 w5) hi hx hl hi2 hx2 hl2).mono fun e W' ⟨he, hg⟩ => ?_
  subst he
  have hb := below_of_grown hg
  refine ⟨_, rfl, _, _, _, [], [] ++ ([] ++ (p2 ++ ([] ++ (p4 ++ ([] ++ []))))), [], hW', ?_, ?_, rfl, hb.frame _, fun h => by cases h⟩
  · exact trodAll_cons_mk (shut_bool Try.underlying4 _) trodAll_mk0
  · exact trodAll_cons_mk (shut_int Try.underlying3 w0) (trodAll_cons_mk (shut_int Try.underlying3 w1) (trodAll_cons_mk (Below.trod Try.laidOut (by kernel_rfl) (of_decide_eq_true (by kernel_rfl)) h2 hb hlt) (trodAll_cons_mk (shut_int Try.underlying3 w3) (trodAll_cons_mk (Below.trod Try.laidOut (by kernel_rfl) (of_decide_eq_true (by kernel_rfl)) h4 hb hlt4) (trodAll_cons_mk (shut_int Try.underlying3 w5) trodAll_mk0)))))

theorem pieces_holds : Rows.PiecesSaid :=
  OpenClaim.holds_of_wide 4 Try.f4 rfl rfl rfl rfl rfl rfl rfl ⟨rfl, rfl, rfl, rfl, rfl⟩ rfl rfl rfl rfl rfl (by kernel_rfl) Try.func4 (by kernel_rfl)
    (of_decide_eq_true (by kernel_rfl)) (by unfold Func.isWrapper; first | (rw [if_pos (by decide +kernel)]; kernel_rfl) | (rw [if_neg (by decide +kernel)]; exact ⟨rfl, rfl⟩))
    (fun os started H enc _ => pieces_lifted os started H enc)
end Go.Proofs.Ytkmeingnhaomaab
