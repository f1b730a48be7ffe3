/- PAll, PFace3, PAll2, PSort, PComplete, PTurn, PCollect3 -/
import Derived.Test.YtdjmhagclcfnfaaJoinMToPRow8
import Derived.Test.YtdjmhagclcfnfaaPFace
import Derived.Shelf.SlSortCmp.WholeK
import Derived.Shelf.SlicesG.Cmp
import Derived.Shelf.Small.Bits
import Derived.BigQuiet
import Derived.Test.YtdjmhagclcfnfaaPCollect2
/- The program's readAll of chunks: the inner function. -/
namespace Go.Proofs.Ytdjmhagclcfnfaa
open Go.RowKit Go.Shelf

theorem made_chunks (n : Nat) : (madeCells #[.int .i64 0, .int .i64 0, .int .i64 0, .int .i64 0, .int .i64 0, .int .i64 0, .int .i64 0, .slice none 0 0] (n * 8)).toList = (List.replicate n pcZero).flatMap pcCells := by
  apply List.ext_getElem?
  intro i
  by_cases hi : i < n * 8
  · have h1 : (madeCells #[.int .i64 0, .int .i64 0, .int .i64 0, .int .i64 0, .int .i64 0, .int .i64 0, .int .i64 0, .slice none 0 0] (n * 8)).toList[i]? = some (#[Value.int .i64 0, .int .i64 0, .int .i64 0, .int .i64 0, .int .i64 0, .int .i64 0, .int .i64 0, .slice none 0 0][i % 8]!) := by
      rw [Array.getElem?_toList]
      simp [madeCells, hi]
    rw [h1]
    have h2 := pcCells_at (List.replicate n pcZero) (i / 8) (by simp; omega) (i % 8) (by omega)
    rw [show i / 8 * 8 + i % 8 = i from by omega] at h2
    rw [h2, List.getElem_replicate]
    rcases (show i % 8 = 0 ∨ i % 8 = 1 ∨ i % 8 = 2 ∨ i % 8 = 3 ∨ i % 8 = 4 ∨ i % 8 = 5 ∨ i % 8 = 6 ∨ i % 8 = 7 by omega) with h | h | h | h | h | h | h | h <;> rw [h] <;> rfl
  · rw [List.getElem?_eq_none (by simp [size_madeCells]; omega), List.getElem?_eq_none (by rw [pcCells_length]; simp; omega)]

/-- The chunks that are read, and their records' lists. -/
def ReadCs (B : Nat) (W : World) (ps : List (Ck × Value)) : Prop := ∀ p ∈ ps, OwnsR B W p.2 p.1.rs

set_option maxRecDepth 100000 in
set_option maxHeartbeats 4000000 in
theorem readAll1_any (Bt Br : Nat) (sv : Value) (ts : List (List UInt8)) (w : World) (hT : Txs w.heap.size w sv ts) (hl : ∀ t ∈ ts, t.length ≤ 4611686018427387904) (hn : ts.length ≤ 100) (ht : w.cell? ⟨Bt, 0, none⟩ = some sv) (hr : w.cell? ⟨Br, 0, none⟩ = some (.func (.func 71) #[] #[])) :
    Calls Try.prog 101 #[.pointer (some ⟨Bt, 0, none⟩), .pointer (some ⟨Br, 0, none⟩)] w fun e w' => w.grownBy w' none ∧
      ((∃ k, chunksOf ts = .inl k ∧ e = .panicked (gave k)) ∨ (∃ ps g, chunksOf ts = .inr (ps.map Prod.fst) ∧ e = .returned (.slice (some ⟨g, 0, none⟩) ts.length ts.length) ∧ OwnsP w.heap.size w' (.slice (some ⟨g, 0, none⟩) ts.length ts.length) ps ∧ ReadCs w.heap.size w' ps)) := by
  obtain ⟨a, c, rfl⟩ := hT.slice
  obtain ⟨i0, hi, hz0, hz1, hz2⟩ := info_parts Try.infoChunk
  have hlt := World.block_lt_of_cell? _ _ ht
  have hlr := World.block_lt_of_cell? _ _ hr
  have hmk : ∀ W : World, (Instr.makeSlice 104 (.int .i64 ts.length) (.int .i64 ts.length)).run Try.prog W = .ok (.slice (some ⟨W.heap.size, 0, none⟩) ts.length ts.length) (W.alloc (.cells (madeCells (Value.agg #[.int .i64 0, .int .i64 0, .int .i64 0, .int .i64 0, .int .i64 0, .int .i64 0, .int .i64 0, .slice none 0 0]).cells (ts.length * 8)) 108)) := by
    intro W
    have := run_make (P := Try.prog) W 104 108 i0 _ Try.underlying104 hi hz0 .i64 .i64 (ts.length : Int) (ts.length : Int) (by omega) (Int.le_refl _) (by rw [hz2]; omega) (by omega)
    rw [hz1, show ((ts.length : Int)).toNat = ts.length from by omega] at this
    exact this
  go_enter Try.func101, Try.ntmps101
  go_wp2
  obtain ⟨M, hM⟩ : ∃ M, M = madeCells #[.int .i64 0, .int .i64 0, .int .i64 0, .int .i64 0, .int .i64 0, .int .i64 0, .int .i64 0, .slice none 0 0] (ts.length * 8) := ⟨_, rfl⟩
  rw [← hM]
  obtain ⟨W1, hW1⟩ : ∃ W1, W1 = w.alloc (.cells M 108) := ⟨_, rfl⟩
  have hg1 : w.grownBy W1 none := by rw [hW1]; exact galloc _ _ _
  have hO1 : OwnsP w.heap.size W1 (.slice (some ⟨w.heap.size, 0, none⟩) ts.length ts.length) ([] ++ List.replicate (ts.length - 0) pcZero) := by
    have hl0 : ([] ++ List.replicate (ts.length - 0) pcZero).length = ts.length := by simp
    refine ⟨pcCells_length _, .inr ⟨w.heap.size, ts.length, M, by rw [hl0], Nat.le_refl _, by rw [hW1]; exact World.alloc_heap_new _ _, by rw [hl0]; exact Nat.le_refl _, Nat.le_trans hn (by decide), by rw [hM, size_madeCells], ?_⟩⟩
    rw [hl0, hM, made_chunks, List.take_of_length_le (by rw [pcCells_length]; simp)]
    simp
  rw [← hW1]
  have HT : Hid (∀ W, w.grownBy W none → Txs W.heap.size W (.slice a ts.length c) ts) := fun W h => Txs.moved hT (below_of_grown h)
  have HTB : Hid (∀ k (_ : k < ts.length), ∃ b off, a = some ⟨b, off, none⟩ ∧ b < w.heap.size) := fun k hk => by
    obtain ⟨b, off, e, h1, _⟩ := Txs.at hT hk
    exact ⟨b, off, e, h1⟩
  have HL : Hid _ := hl
  have HRd : Hid (w.cell? ⟨Br, 0, none⟩ = some (.func (.func 71) #[] #[])) := hr
  clear hM hW1 hmk hz0 hz1 hz2 hi hT hl ht hr
  go_loopw [11] (fun i wr => ∃ (k : Nat) (ps : List (Ck × Value)), k ≤ ts.length ∧ ps.length = k ∧ i = .int .i64 k ∧ OwnsP w.heap.size wr (.slice (some ⟨w.heap.size, 0, none⟩) ts.length ts.length) (ps ++ List.replicate (ts.length - k) pcZero) ∧ chunksOf (ts.take k) = .inr (ps.map Prod.fst) ∧ ReadCs w.heap.size wr ps ∧ w.grownBy wr none) (fun i _ => ts.length - (intOf i).toNat)
  case atStart => exact ⟨0, [], Nat.zero_le _, rfl, rfl, hO1, rfl, (fun p hp => by cases hp), hg1⟩
  case round =>
    obtain ⟨k, ps, hk, hpk, rfl, hO, hcs, hrc, hg⟩ := hrel
    have H_O : Hid (OwnsP w.heap.size wr (.slice (some ⟨w.heap.size, 0, none⟩) ts.length ts.length) (ps ++ List.replicate (ts.length - k) pcZero)) := hO
    have H_C : Hid _ := hcs
    have H_R : Hid (ReadCs w.heap.size wr ps) := hrc
    have H_G : Hid (w.grownBy wr none) := hg
    clear hO hcs hrc hg hO1 hg1
    by_cases hlt2 : k < ts.length
    · obtain ⟨tb, toff, ha, htb, hc⟩ := Txs.at (HT.out wr H_G.out) hlt2
      subst ha
      have hrd : wr.cell? ⟨Br, 0, none⟩ = _ := (World.cell?_of_block (H_G.out.block Br hlr (by simp))).trans HRd.out
      have HRC : Hid (∀ u : Unit, _) := fun _ => readChunk_any ts[k] wr (HL.out _ (List.getElem_mem hlt2))
      have HCE : Hid (∀ e, chunkR ts[k] = .inl e → chunksOf ts = .inl e) := fun e he => by
        have := chunksOf_bad (ts.take k) _ ts[k] (ts.drop (k + 1)) e H_C.out he
        rwa [List.getElem_cons_drop, List.take_append_drop] at this
      have HCO : Hid (∀ cc, chunkR ts[k] = .inr cc → chunksOf (ts.take (k + 1)) = .inr (ps.map Prod.fst ++ [cc])) := fun cc he => by
        rw [List.take_succ_eq_append_getElem hlt2]
        exact chunksOf_ok (ts.take k) _ ts[k] cc H_C.out he
      generalize ts[k] = tk at *
      go_wp2_with fail
      refine (HRC.out ()).mono ?_
      rintro e w2 ⟨hg2, (⟨ke, hke, rfl⟩ | ⟨cc, v, hke, rfl, hown⟩)⟩
      · exact ⟨rfl, gtrans H_G.out hg2, .inl ⟨ke, HCE.out ke hke, rfl⟩⟩
      have hpl : (ps ++ List.replicate (ts.length - k) pcZero).length = ts.length := by simp; omega
      have hO2 : OwnsP w.heap.size w2 (.slice (some ⟨w.heap.size, 0, none⟩) ts.length ts.length) (ps ++ List.replicate (ts.length - k) pcZero) := World.ownsRow.kept H_O.out hg2 (.inr (by simp [Value.ownBlock]))
      obtain ⟨cur, hcur, hcat⟩ := OwnsP.at hO2 (k := k) (by omega)
      have hel : (ps ++ List.replicate (ts.length - k) pcZero)[k]'(by omega) = pcZero := by
        rw [List.getElem_append_right (by omega)]
        simp
      rw [hel] at hcat
      have x0 := boxed_cell (i := k * 8) hcur (hcat 0 _ rfl (by omega))
      have x1 := boxed_cell (i := k * 8 + 1) hcur (hcat 1 _ rfl (by omega))
      have x2 := boxed_cell (i := k * 8 + 2) hcur (hcat 2 _ rfl (by omega))
      have x3 := boxed_cell (i := k * 8 + 3) hcur (hcat 3 _ rfl (by omega))
      have x4 := boxed_cell (i := k * 8 + 4) hcur (hcat 4 _ rfl (by omega))
      have x5 := boxed_cell (i := k * 8 + 5) hcur (hcat 5 _ rfl (by omega))
      have x6 := boxed_cell (i := k * 8 + 6) hcur (hcat 6 _ rfl (by omega))
      have x7 := boxed_cell (i := k * 8 + 7) hcur (hcat 7 _ rfl (by omega))
      have y0 := boxed_frozen (i := k * 8) hcur
      have y1 := boxed_frozen (i := k * 8 + 1) hcur
      have y2 := boxed_frozen (i := k * 8 + 2) hcur
      have y3 := boxed_frozen (i := k * 8 + 3) hcur
      have y4 := boxed_frozen (i := k * 8 + 4) hcur
      have y5 := boxed_frozen (i := k * 8 + 5) hcur
      have y6 := boxed_frozen (i := k * 8 + 6) hcur
      have y7 := boxed_frozen (i := k * 8 + 7) hcur
      have O2 : Hid (OwnsP w.heap.size w2 (.slice (some ⟨w.heap.size, 0, none⟩) ts.length ts.length) (ps ++ List.replicate (ts.length - k) pcZero)) := hO2
      have HOW : Hid (OwnsR wr.heap.size w2 v cc.rs) := hown
      have G2 : Hid (w.grownBy w2 none) := gtrans H_G.out hg2
      have RC2 : Hid (ReadCs w.heap.size w2 ps) := fun p hp => OwnsR.keptN (H_R.out p hp) hg2
      have HCC : Hid _ := HCO.out cc hke
      have HCU : Hid _ := hcur
      obtain ⟨va, vn, vc, rfl⟩ : ∃ a ln cp, v = .slice a ln cp := by
        rcases hown.2 with ⟨rfl, _⟩ | ⟨g, cap, cur, rfl, _⟩
        · exact ⟨_, _, _, rfl⟩
        · exact ⟨_, _, _, rfl⟩
      clear hO2 hcur hcat hel hown hg2 hke HCE HCO
      have HGS : Hid (w2.grownBy ((((((((w2.setCell ⟨w.heap.size, k * 8, none⟩ (.int .i64 cc.f)).setCell ⟨w.heap.size, k * 8 + 1, none⟩ (.int .i64 cc.t)).setCell ⟨w.heap.size, k * 8 + 2, none⟩ (.int .i64 cc.b)).setCell ⟨w.heap.size, k * 8 + 3, none⟩ (.int .i64 cc.z)).setCell ⟨w.heap.size, k * 8 + 4, none⟩ (.int .i64 cc.all)).setCell ⟨w.heap.size, k * 8 + 5, none⟩ (.int .i64 cc.nu)).setCell ⟨w.heap.size, k * 8 + 6, none⟩ (.int .i64 cc.many)).setCell ⟨w.heap.size, k * 8 + 7, none⟩ (.slice va vn vc)) (some w.heap.size)) := gtrans (gtrans (gtrans (gtrans (gtrans (gtrans (gtrans (gset w2 w.heap.size (k * 8) (.int .i64 cc.f)) (gset _ w.heap.size _ _)) (gset _ w.heap.size _ _)) (gset _ w.heap.size _ _)) (gset _ w.heap.size _ _)) (gset _ w.heap.size _ _)) (gset _ w.heap.size _ _)) (gset _ w.heap.size _ _)
      have HKR : Hid (∀ (W' : World) (v : Value) (rs : List Rc), w2.grownBy W' (some w.heap.size) → OwnsR w.heap.size w2 v rs → OwnsR w.heap.size W' v rs) := fun W' v rs hg h => row_beside h hg (fun r e => by cases e; exact ⟨_, HCU.out⟩) (by decide)
      go_wp2
      refine ⟨⟨k + 1, ps ++ [(cc, .slice va vn vc)], by omega, by simp [hpk], by go_num, ?_, ?_, ?_, gfresh (gfresh (gfresh (gfresh (gfresh (gfresh (gfresh (gfresh (G2.out) (Nat.le_refl _)) (Nat.le_refl _)) (Nat.le_refl _)) (Nat.le_refl _)) (Nat.le_refl _)) (Nat.le_refl _)) (Nat.le_refl _)) (Nat.le_refl _)⟩, by simp [intOf]; omega⟩
      · have h := OwnsP.set O2.out k (by omega) (cc, .slice va vn vc)
        have e : (ps ++ List.replicate (ts.length - k) pcZero).set k (cc, .slice va vn vc) = (ps ++ [(cc, .slice va vn vc)]) ++ List.replicate (ts.length - (k + 1)) pcZero := by
          rw [List.set_append_right _ _ (by omega), hpk, Nat.sub_self, show ts.length - k = (ts.length - (k + 1)) + 1 from by omega, List.replicate_succ, List.set_cons_zero, List.append_assoc]
          rfl
        rw [e] at h
        exact h
      · rw [HCC.out, List.map_append]
        rfl
      · intro q hq
        rw [List.mem_append, List.mem_singleton] at hq
        refine HKR.out _ _ _ HGS.out ?_
        rcases hq with hq | rfl
        · exact RC2.out q hq
        · exact OwnsR.base HOW.out H_G.out.size
    · obtain rfl : k = ts.length := by omega
      go_wp2
      go_ret
      have hO := H_O.out
      rw [Nat.sub_self, List.replicate_zero, List.append_nil] at hO
      have hc := H_C.out
      rw [List.take_length] at hc
      exact ⟨H_G.out, .inr ⟨ps, w.heap.size, hc, rfl, hO, H_R.out⟩⟩
end Go.Proofs.Ytdjmhagclcfnfaa
/- The program's face, for a call that answers a list (chunks). -/
namespace Go.Proofs.Ytdjmhagclcfnfaa
open Go.RowKit Go.Shelf

set_option maxRecDepth 100000 in
set_option maxHeartbeats 1000000 in
theorem face1_cs (gd : Nat) (ld : Array Value) (ed : ∀ args w, (callFunc gd args).run Try.prog w = .ok (.enter gd args) w) (Bd Ba : Nat) (PK : Int → Prop) (PO : Nat → World → Value → Prop) (w : World)
    (hsl : ∀ B W v, PO B W v → ∃ a ln cp, v = .slice a ln cp) (hset : ∀ B W v k o x, PO B W v → k < B → PO B (W.setCell ⟨k, o, none⟩ x) v)
    (hd : w.cell? ⟨Bd, 0, none⟩ = some (.func (.func gd) #[] ld)) (ha : w.heap[Ba]? = some (.cells #[.slice none 0 0] 104 (0, 0)))
    (hdo : Calls Try.prog gd ld w fun e w' => w.grownBy w' none ∧ ((∃ k, PK k ∧ e = .panicked (gave k)) ∨ (∃ v, e = .returned v ∧ PO w.heap.size w' v))) :
    Calls Try.prog 128 #[.pointer (some ⟨Bd, 0, none⟩), .pointer (some ⟨Ba, 0, none⟩)] w fun e w' =>
      (∃ k, e = .panicked (gave k) ∧ PK k ∧ w.grownBy w' none) ∨ (e = .returned (.tuple #[]) ∧ ∃ a ln cp, w'.heap[Ba]? = some (.cells #[.slice a ln cp] 104 (0, 0)) ∧ PO w.heap.size w' (.slice a ln cp) ∧ w.grownBy w' (some Ba)) := by
  have HD : Hid (∀ u : Unit, _) := fun _ => hdo
  have HA : Hid _ := ha
  have la : Ba < w.heap.size := (Array.getElem?_eq_some_iff.1 ha).1
  clear hdo ha
  go_enter Try.func128, Try.ntmps128
  go_wp2_with fail
  refine (HD.out ()).mono ?_
  rintro e W2 ⟨hg2, (⟨k, hk, rfl⟩ | ⟨v, rfl, hown⟩)⟩
  · exact ⟨rfl, .inl ⟨k, rfl, hk, hg2⟩⟩
  · have hb2 := (hg2.block Ba la (by simp)).trans HA.out
    obtain ⟨a, ln, cp, rfl⟩ := hsl _ _ _ hown
    have HO : Hid (PO w.heap.size W2 (.slice a ln cp)) := hown
    have HG : Hid (w.grownBy W2 none) := hg2
    have HB : Hid (W2.heap[Ba]? = some (.cells #[.slice none 0 0] 104 (0, 0))) := hb2
    have c0 := boxed_cell (i := 0) hb2 rfl
    have f0 := boxed_frozen (i := 0) hb2
    clear hb2 hown hg2
    go_wp2
    go_end0
    refine .inr ⟨rfl, a, ln, cp, ?_, ?_, ?_⟩
    · exact block_set (i := 0) HB.out (.slice a ln cp)
    · exact hset _ _ _ _ _ _ HO.out la
    · exact gtrans (gnone HG.out) (gset _ Ba 0 _)

set_option maxRecDepth 100000 in
set_option maxHeartbeats 1000000 in
/-- **atFace**, of a call that answers a list. -/
theorem atFace_cs (gd : Nat) (ld : Array Value) (ed : ∀ args w, (callFunc gd args).run Try.prog w = .ok (.enter gd args) w) (PK : Int → Prop) (PO : Nat → World → Value → Prop) (w : World)
    (hsl : ∀ B W v, PO B W v → ∃ a ln cp, v = .slice a ln cp) (hset : ∀ B W v k o x, PO B W v → k < B → PO B (W.setCell ⟨k, o, none⟩ x) v) (hbase : ∀ B B' W v, PO B W v → B' ≤ B → PO B' W v)
    (hdo : ∀ W, w.grownBy W none → Calls Try.prog gd ld W fun e w' => W.grownBy w' none ∧ ((∃ k, PK k ∧ e = .panicked (gave k)) ∨ (∃ v, e = .returned v ∧ PO W.heap.size w' v))) :
    Calls Try.prog 100 #[.func (.func gd) #[] ld] w fun e w' => w.grownBy w' none ∧
      ((∃ k, PK k ∧ e = .returned (.tuple #[.slice none 0 0, .int .i64 k])) ∨ (∃ v, e = .returned (.tuple #[v, .int .i64 0]) ∧ PO w.heap.size w' v)) := by
  have hmf : ∀ (fn : Fn) (first cap : Array Value) (w : World), (Instr.makeFunc fn first cap).run Try.prog w = .ok (.func fn first cap) w := fun _ _ _ _ => rfl
  have HD : Hid _ := hdo
  clear hdo
  go_enter Try.func100, Try.ntmps100
  go_wp2_with fail
  obtain ⟨W1, hW1⟩ : ∃ W1, W1 = (w.alloc (.cells #[.func (.func gd) #[] ld] 137)).alloc (.cells #[.slice none 0 0] 104) := ⟨_, rfl⟩
  rw [← hW1]
  have hs1 : W1.heap.size = w.heap.size + 2 := by rw [hW1]; simp
  have hg1 : w.grownBy W1 none := by rw [hW1]; exact gallocR (galloc _ _ _) _
  have hd1 : W1.heap[w.heap.size]? = some (.cells #[.func (.func gd) #[] ld] 137 (0, 0)) := by rw [hW1]; exact (Below.heap_alloc _ _ _ (by simp)).trans (World.alloc_heap_new _ _)
  have ha1 : W1.heap[w.heap.size + 1]? = some (.cells #[.slice none 0 0] 104 (0, 0)) := by
    rw [hW1]
    have h := World.alloc_heap_new (w.alloc (.cells #[.func (.func gd) #[] ld] 137)) (.cells #[.slice none 0 0] 104)
    rw [World.size_alloc] at h
    exact h
  clear hW1
  obtain ⟨O, hO⟩ : ∃ O : Obj, O = .cells #[.int .i64 0] 25 := ⟨_, rfl⟩
  have hg2 : w.grownBy (W1.alloc O) none := gallocR hg1 _
  have hf := face1_cs gd ld ed w.heap.size (w.heap.size + 1) PK PO (W1.alloc O) hsl hset (boxed_cell (i := 0) ((Below.heap_alloc _ _ _ (by omega)).trans hd1) rfl) ((Below.heap_alloc _ _ _ (by omega)).trans ha1) (HD.out _ hg2)
  have hn : (W1.alloc O).heap[W1.heap.size]? = some O := World.alloc_heap_new _ _
  have hsO : (W1.alloc O).heap.size = w.heap.size + 3 := by simp; omega
  have hca := caught_any 128 #[.pointer (some ⟨w.heap.size, 0, none⟩), .pointer (some ⟨w.heap.size + 1, 0, none⟩)] (enters_of Try.func128 (by kernel_rfl) rfl) W1
    (fun w' => ∃ a ln cp, w'.heap[w.heap.size + 1]? = some (.cells #[.slice a ln cp] 104 (0, 0)) ∧ PO (w.heap.size + 3) w' (.slice a ln cp) ∧ w.grownBy w' none ∧ W1.heap.size < w'.heap.size)
    (fun k w' => PK k ∧ w'.heap[w.heap.size + 1]? = some (.cells #[.slice none 0 0] 104 (0, 0)) ∧ w.grownBy w' none ∧ W1.heap.size < w'.heap.size) (by
      rw [← hO]
      refine hf.mono ?_
      rintro e w' (⟨k, rfl, hk, hg⟩ | ⟨rfl, a, ln, cp, hb, ho, hg⟩)
      · refine ⟨(hg.block _ (by omega) (by simp)).trans hn, .inr ⟨k, rfl, hk, (hg.block _ (by omega) (by simp)).trans ((Below.heap_alloc _ _ _ (by omega)).trans ha1), gtrans hg2 hg, by have := hg.size; omega⟩⟩
      · refine ⟨(hg.block _ (by omega) (by simp; omega)).trans hn, .inl ⟨rfl, a, ln, cp, hb, by rw [← hsO]; exact ho, gbut hg2 hg (by omega), by have := hg.size; omega⟩⟩)
  refine hca.mono ?_
  clear hf hca hn hg2
  rintro e w'' ⟨w', k, rfl, rfl, (⟨rfl, a, ln, cp, hb, ho, hg, hsz⟩ | ⟨hk, hb, hg, hsz⟩)⟩
  · have hb2 : (w'.setCell ⟨W1.heap.size, 0, none⟩ (.int .i64 0)).heap[w.heap.size + 1]? = _ := (Below.heap_setCell _ _ _ _ (by show w.heap.size + 1 ≠ W1.heap.size; omega)).trans hb
    have HO : Hid (PO (w.heap.size + 3) (w'.setCell ⟨W1.heap.size, 0, none⟩ (.int .i64 0)) (.slice a ln cp)) := hset _ _ _ _ _ _ ho (by omega)
    have HG : Hid (w.grownBy (w'.setCell ⟨W1.heap.size, 0, none⟩ (.int .i64 0)) none) := gfresh hg (by omega)
    generalize w'.setCell ⟨W1.heap.size, 0, none⟩ (.int .i64 0) = W3 at *
    have c0 := boxed_cell (i := 0) hb2 rfl
    have f0 := boxed_frozen (i := 0) hb2
    clear hb2 ho hg hb ha1 hd1
    go_wp2
    refine bodyPost_ret (v := .tuple #[.slice a ln cp, .int .i64 0]) (by simp [results, Try.results100, go_sem, c0]) rfl ?_
    exact ⟨gfresh HG.out (by omega), .inr ⟨_, rfl, hbase _ _ _ _ (hset _ _ _ _ _ _ HO.out (by omega)) (by omega)⟩⟩
  · have hb2 : (w'.setCell ⟨W1.heap.size, 0, none⟩ (.int .i64 k)).heap[w.heap.size + 1]? = _ := (Below.heap_setCell _ _ _ _ (by show w.heap.size + 1 ≠ W1.heap.size; omega)).trans hb
    have HP : Hid _ := hk
    have HG : Hid (w.grownBy (w'.setCell ⟨W1.heap.size, 0, none⟩ (.int .i64 k)) none) := gfresh hg (by omega)
    generalize w'.setCell ⟨W1.heap.size, 0, none⟩ (.int .i64 k) = W3 at *
    have c0 := boxed_cell (i := 0) hb2 rfl
    have f0 := boxed_frozen (i := 0) hb2
    clear hb2 hk hg hb ha1 hd1
    go_wp2
    refine bodyPost_ret (v := .tuple #[.slice none 0 0, .int .i64 k]) (by simp [results, Try.results100, go_sem, c0]) rfl ?_
    exact ⟨gfresh HG.out (by omega), .inl ⟨k, HP.out, rfl⟩⟩
end Go.Proofs.Ytdjmhagclcfnfaa
/- The program's readAll of chunks. -/
namespace Go.Proofs.Ytdjmhagclcfnfaa
open Go.RowKit Go.Shelf

theorem row_set {B sz n : Nat} {e : TypeId} {W : World} {v x : Value} {xs : List Value} {k o : Nat} (h : W.ownsRow B e sz v n xs) (hk : k < B) : (W.setCell ⟨k, o, none⟩ x).ownsRow B e sz v n xs := by
  refine World.ownsRow.kept h (gset W k o x) ?_
  rcases h.2 with ⟨rfl, _⟩ | ⟨g, cap, cur, rfl, hbg, _⟩
  · exact .inl rfl
  · refine .inr fun e => ?_
    have : g = k := by simpa [Value.ownBlock] using e
    omega
theorem row_base {B B' sz n : Nat} {e : TypeId} {W : World} {v : Value} {xs : List Value} (h : W.ownsRow B e sz v n xs) (hb : B' ≤ B) : W.ownsRow B' e sz v n xs := by
  refine ⟨h.1, ?_⟩
  rcases h.2 with hn | ⟨g, cap, cur, hv, hbg, rest⟩
  · exact .inl hn
  · exact .inr ⟨g, cap, cur, hv, Nat.le_trans hb hbg, rest⟩

/-- How the reading of chunks ends. -/
def ToldR (ts : List (List UInt8)) (w : World) (e : Ending) (w' : World) : Prop :=
  w.grownBy w' none ∧ ((∃ k, chunksOf ts = .inl k ∧ e = .returned (.tuple #[.slice none 0 0, .int .i64 k])) ∨
    (∃ ps g, chunksOf ts = .inr (ps.map Prod.fst) ∧ e = .returned (.tuple #[.slice (some ⟨g, 0, none⟩) ts.length ts.length, .int .i64 0]) ∧ OwnsP w.heap.size w' (.slice (some ⟨g, 0, none⟩) ts.length ts.length) ps ∧ ReadCs w.heap.size w' ps))

theorem atFaceC_any (Bt Br : Nat) (sv : Value) (ts : List (List UInt8)) (w : World) (hT : Txs w.heap.size w sv ts) (hl : ∀ t ∈ ts, t.length ≤ 4611686018427387904) (hn : ts.length ≤ 100) (ht : w.cell? ⟨Bt, 0, none⟩ = some sv) (hr : w.cell? ⟨Br, 0, none⟩ = some (.func (.func 71) #[] #[])) :
    Calls Try.prog 100 #[.func (.func 101) #[] #[.pointer (some ⟨Bt, 0, none⟩), .pointer (some ⟨Br, 0, none⟩)]] w (ToldR ts w) := by
  have la := World.block_lt_of_cell? _ _ ht
  have lb := World.block_lt_of_cell? _ _ hr
  refine (atFace_cs 101 #[.pointer (some ⟨Bt, 0, none⟩), .pointer (some ⟨Br, 0, none⟩)] (enters_of Try.func101 (by kernel_rfl) rfl) (fun k => chunksOf ts = .inl k)
    (fun B W v => ∃ ps g, chunksOf ts = .inr (ps.map Prod.fst) ∧ v = .slice (some ⟨g, 0, none⟩) ts.length ts.length ∧ OwnsP B W (.slice (some ⟨g, 0, none⟩) ts.length ts.length) ps ∧ ReadCs B W ps) w ?_ ?_ ?_ ?_).mono ?_
  · rintro B W v ⟨ps, g, _, rfl, _⟩
    exact ⟨_, _, _, rfl⟩
  · rintro B W v k o x ⟨ps, g, h1, h2, h3, h4⟩ hk
    exact ⟨ps, g, h1, h2, row_set h3 hk, fun p hp => row_set (h4 p hp) hk⟩
  · rintro B B' W v ⟨ps, g, h1, h2, h3, h4⟩ hb
    exact ⟨ps, g, h1, h2, row_base h3 hb, fun p hp => row_base (h4 p hp) hb⟩
  · intro W hg
    refine (readAll1_any Bt Br sv ts W (Txs.moved hT (below_of_grown hg)) hl hn ((World.cell?_of_block (hg.block Bt la (by simp))).trans ht) ((World.cell?_of_block (hg.block Br lb (by simp))).trans hr)).mono ?_
    rintro e w' ⟨h1, (h2 | ⟨ps, g, h2, h3, h4, h5⟩)⟩
    · exact ⟨h1, .inl h2⟩
    · exact ⟨h1, .inr ⟨_, h3, ps, g, h2, rfl, h4, h5⟩⟩
  · rintro e w' ⟨h1, (h2 | ⟨v, h3, ps, g, h2, rfl, h4, h5⟩)⟩
    · exact ⟨h1, .inl h2⟩
    · exact ⟨h1, .inr ⟨ps, g, h2, h3, h4, h5⟩⟩

set_option maxRecDepth 100000 in
set_option maxHeartbeats 1000000 in
theorem readAll_any (sv : Value) (ts : List (List UInt8)) (w : World) (hT : Txs w.heap.size w sv ts) (hl : ∀ t ∈ ts, t.length ≤ 4611686018427387904) (htl : ts.length ≤ 4611686018427387904) :
    Calls Try.prog 70 #[sv, .int .i64 100, .func (.func 71) #[] #[]] w fun e w' =>
      ((ts.length < 1 ∨ 100 < ts.length) ∧ w.grownBy w' none ∧ e = .returned (.tuple #[.slice none 0 0, .int .i64 1])) ∨ (1 ≤ ts.length ∧ ts.length ≤ 100 ∧ ToldR ts w e w') := by
  have hmf : ∀ (fn : Fn) (first cap : Array Value) (w : World), (Instr.makeFunc fn first cap).run Try.prog w = .ok (.func fn first cap) w := fun _ _ _ _ => rfl
  obtain ⟨a, c, rfl⟩ := hT.slice
  have HT : Hid (∀ W, w.grownBy W none → Txs W.heap.size W (.slice a ts.length c) ts) := fun W h => Txs.moved hT (below_of_grown h)
  have HL : Hid _ := hl
  clear hT hl
  go_enter Try.func70, Try.ntmps70
  go_wp2_with fail
  obtain ⟨W1, hW1⟩ : ∃ W1, W1 = (w.alloc (.cells #[.slice a ts.length c] 52)).alloc (.cells #[.func (.func 71) #[] #[]] 109) := ⟨_, rfl⟩
  have hg1 : w.grownBy W1 none := by rw [hW1]; exact gallocR (galloc _ _ _) _
  have ha1 : W1.heap[w.heap.size]? = some (.cells #[.slice a ts.length c] 52 (0, 0)) := by rw [hW1]; exact (Below.heap_alloc _ _ _ (by simp)).trans (World.alloc_heap_new _ _)
  have hb1 : W1.heap[w.heap.size + 1]? = some (.cells #[.func (.func 71) #[] #[]] 109 (0, 0)) := by
    rw [hW1]
    have h := World.alloc_heap_new (w.alloc (.cells #[.slice a ts.length c] 52)) (.cells #[.func (.func 71) #[] #[]] 109)
    rwa [World.size_alloc] at h
  rw [← hW1]
  clear hW1
  refine (within_any _ _ _ _).mono ?_
  rintro e w2 ⟨rfl, rfl⟩
  have G1 : Hid (w.grownBy w2 none) := hg1
  by_cases hc : 1 ≤ ts.length ∧ ts.length ≤ 100
  · have e1 : win (ts.length : Int) 1 100 = true := (win_iff _ _ _).2 ⟨by omega, by omega⟩
    have HF : Hid (∀ u : Unit, _) := fun _ => atFaceC_any w.heap.size (w.heap.size + 1) (.slice a ts.length c) ts w2 (HT.out _ hg1) HL.out hc.2 (boxed_cell ha1 rfl) (boxed_cell hb1 rfl)
    clear hg1 ha1 hb1
    go_wp2_with fail
    refine (HF.out ()).mono ?_
    rintro e w3 ⟨hg3, (⟨k, hk, rfl⟩ | ⟨ps, g, hk, rfl, hown, hrc⟩)⟩
    · have HP : Hid _ := hk
      have G3 : Hid (w.grownBy w3 none) := gtrans G1.out hg3
      clear hk hg3
      go_wp2
      refine bodyPost_ret (results_tmp2 rfl _ _ _) rfl ?_
      exact .inr ⟨hc.1, hc.2, G3.out, .inl ⟨k, HP.out, rfl⟩⟩
    · have HP : Hid _ := hk
      have G3 : Hid (w.grownBy w3 none) := gtrans G1.out hg3
      have HO : Hid (OwnsP w2.heap.size w3 (.slice (some ⟨g, 0, none⟩) ts.length ts.length) ps) := hown
      have HC : Hid (ReadCs w2.heap.size w3 ps) := hrc
      clear hk hg3 hown hrc
      go_wp2
      refine bodyPost_ret (results_tmp2 rfl _ _ _) rfl ?_
      exact .inr ⟨hc.1, hc.2, G3.out, .inr ⟨ps, g, HP.out, rfl, row_base HO.out G1.out.size, fun p hp => row_base (HC.out p hp) G1.out.size⟩⟩
  · have e1 : win (ts.length : Int) 1 100 = false := (win_not _ _ _).2 (by omega)
    clear hg1 ha1 hb1
    go_wp2
    refine bodyPost_ret (results_tmp2 rfl _ _ _) rfl ?_
    exact .inl ⟨by omega, G1.out, rfl⟩
end Go.Proofs.Ytdjmhagclcfnfaa
/- The program's sort of chunks. -/
namespace Go.Proofs.Ytdjmhagclcfnfaa
open Go.Shelf Go.RowKit Go.Lib Go.Sort
def Try.sortCk_ren : Go.Shelf.Ren := ⟨fun | 6 => 103 | 15 => 131 | 14 => 130 | 28 => 161 | 29 => 162 | 20 => 153 | 21 => 154 | 22 => 155 | 23 => 156 | 24 => 157 | 25 => 158 | 26 => 159 | 27 => 160 | 46 => 166 | 47 => 167 | 48 => 168 | 49 => 169 | 50 => 170 | 57 => 175 | n => n, fun | 22 => 104 | 24 => 108 | 25 => 141 | 3 => 3 | 39 => 161 | 0 => 0 | 53 => 157 | 55 => 196 | 4 => 4 | 46 => 189 | 45 => 188 | 50 => 117 | 5 => 5 | 9 => 9 | 66 => 198 | 70 => 202 | 76 => 209 | 77 => 65 | n => n, fun | n => n⟩
theorem Try.sortCk : Go.Proofs.SlLaysF0.n6 Try.prog Try.sortCk_ren := {
  mixed := by kernel_rfl
  f6 := ⟨Try.f103.name, by decide, Try.func103.trans (congrArg some (by kernel_rfl))⟩
  f14 := ⟨Try.f130.name, by decide, Try.func130.trans (congrArg some (by kernel_rfl))⟩
  f15 := Try.func131.trans (congrArg some (by kernel_rfl))
  f20 := ⟨Try.f153.name, by decide, Try.func153.trans (congrArg some (by kernel_rfl))⟩
  f21 := ⟨Try.f154.name, by decide, Try.func154.trans (congrArg some (by kernel_rfl))⟩
  f22 := ⟨Try.f155.name, by decide, Try.func155.trans (congrArg some (by kernel_rfl))⟩
  f23 := ⟨Try.f156.name, by decide, Try.func156.trans (congrArg some (by kernel_rfl))⟩
  f24 := ⟨Try.f157.name, by decide, Try.func157.trans (congrArg some (by kernel_rfl))⟩
  f25 := ⟨Try.f158.name, by decide, Try.func158.trans (congrArg some (by kernel_rfl))⟩
  f26 := ⟨Try.f159.name, by decide, Try.func159.trans (congrArg some (by kernel_rfl))⟩
  f27 := ⟨Try.f160.name, by decide, Try.func160.trans (congrArg some (by kernel_rfl))⟩
  f28 := Try.func161.trans (congrArg some (by kernel_rfl))
  f29 := Try.func162.trans (congrArg some (by kernel_rfl))
  f46 := ⟨Try.f166.name, by decide, Try.func166.trans (congrArg some (by kernel_rfl))⟩
  f47 := Try.func167.trans (congrArg some (by kernel_rfl))
  f48 := Try.func168.trans (congrArg some (by kernel_rfl))
  f49 := ⟨Try.f169.name, by decide, Try.func169.trans (congrArg some (by kernel_rfl))⟩
  f50 := ⟨Try.f170.name, by decide, Try.func170.trans (congrArg some (by kernel_rfl))⟩
  f57 := ⟨Try.f175.name, by decide, Try.func175.trans (congrArg some (by kernel_rfl))⟩
  t0 := Try.underlying0
  a0 := Try.isAgg0
  z0 := Try.sizeOf0
  v0 := Try.zeroValue0
  t3 := Try.underlying3
  a3 := Try.isAgg3
  z3 := Try.sizeOf3
  v3 := Try.zeroValue3
  t4 := Try.underlying4
  a4 := Try.isAgg4
  z4 := Try.sizeOf4
  v4 := Try.zeroValue4
  t5 := Try.underlying5
  a5 := Try.isAgg5
  z5 := Try.sizeOf5
  v5 := Try.zeroValue5
  t9 := Try.underlying9
  a9 := Try.isAgg9
  z9 := Try.sizeOf9
  v9 := Try.zeroValue9
  t22 := Try.underlying104
  a22 := Try.isAgg104
  z22 := Try.sizeOf104
  v22 := Try.zeroValue104
  t25 := Try.underlying141
  a25 := Try.isAgg141
  z25 := Try.sizeOf141
  v25 := Try.zeroValue141
  t39 := Try.underlying161
  a39 := Try.isAgg161
  z39 := Try.sizeOf161
  v39 := Try.zeroValue161
  t45 := Try.underlying188
  a45 := Try.isAgg188
  z45 := Try.sizeOf188
  v45 := Try.zeroValue188
  t46 := Try.underlying189
  a46 := Try.isAgg189
  z46 := Try.sizeOf189
  v46 := Try.zeroValue189
  t50 := Try.underlying117
  a50 := Try.isAgg117
  z50 := Try.sizeOf117
  v50 := Try.zeroValue117
  t53 := Try.underlying157
  a53 := Try.isAgg157
  z53 := Try.sizeOf157
  v53 := Try.zeroValue157
  t55 := Try.underlying196
  a55 := Try.isAgg196
  z55 := Try.sizeOf196
  v55 := Try.zeroValue196
  t66 := Try.underlying198
  a66 := Try.isAgg198
  z66 := Try.sizeOf198
  v66 := Try.zeroValue198
  t70 := Try.underlying202
  a70 := Try.isAgg202
  z70 := Try.sizeOf202
  v70 := Try.zeroValue202
  t76 := Try.underlying209
  a76 := Try.isAgg209
  z76 := Try.sizeOf209
  v76 := Try.zeroValue209
  t77 := Try.underlying65
  a77 := Try.isAgg65
  z77 := Try.sizeOf65
  v77 := Try.zeroValue65 }
def Try.cmpInt_ren : Go.Shelf.Ren := ⟨fun | 5 => 105 | 7 => 132 | n => n, fun | 22 => 3 | 3 => 3 | 4 => 4 | n => n, fun | n => n⟩
theorem Try.cmpInt : Go.Proofs.SlLaysC2.n5 Try.prog Try.cmpInt_ren := {
  mixed := by kernel_rfl
  f5 := ⟨Try.f105.name, by decide, Try.func105.trans (congrArg some (by kernel_rfl))⟩
  f7 := ⟨Try.f132.name, by decide, Try.func132.trans (congrArg some (by kernel_rfl))⟩
  t3 := Try.underlying3
  a3 := Try.isAgg3
  z3 := Try.sizeOf3
  v3 := Try.zeroValue3
  t4 := Try.underlying4
  a4 := Try.isAgg4
  z4 := Try.sizeOf4
  v4 := Try.zeroValue4
  t22 := Try.underlying3
  a22 := Try.isAgg3
  z22 := Try.sizeOf3
  v22 := Try.zeroValue3 }

/-- A chunk with its list's header. -/
abbrev Sk := Ck × (Option Addr × Nat × Nat)
instance : Inhabited Sk := ⟨(⟨0, 0, 0, 0, 0, 0, 0, []⟩, none, 0, 0)⟩
def skP (x : Sk) : Ck × Value := (x.1, .slice x.2.1 x.2.2.1 x.2.2.2)
def skE (x : Sk) : List Value := pcCells (skP x)
def skC (x y : Sk) : Int := Lib.compareInt x.1.nu y.1.nu

theorem sk_lt (x y : Sk) : ltOf skC x y = decide (x.1.nu < y.1.nu) := by
  unfold ltOf skC Lib.compareInt
  by_cases h1 : x.1.nu < y.1.nu
  · simp [h1]
  · by_cases h2 : y.1.nu < x.1.nu <;> simp [h1, h2]
theorem sk_swo : SWO (ltOf skC) where
  irrefl x := by rw [sk_lt]; simp
  trans x y z h1 h2 := by rw [sk_lt] at *; simp at *; omega
  ntrans x y z h1 h2 := by rw [sk_lt] at *; simp at *; omega

set_option maxRecDepth 100000 in
set_option maxHeartbeats 1000000 in
theorem joined1_any (x y : Sk) (W : World) : Calls Try.prog 104 #[.agg (skE x).toArray, .agg (skE y).toArray] W fun e w' => e = .returned (.int .i64 (skC x y)) ∧ ∃ q os', w' = grow (W.drewN q) os' := by
  obtain ⟨⟨f1, t1, b1, z1, a1, n1, m1, r1⟩, xa, xl, xc⟩ := x
  obtain ⟨⟨f2, t2, b2, z2, a2, n2, m2, r2⟩, ya, yl, yc⟩ := y
  have hcon := fun W' => AnyG.cmp_Compare_int Try.cmpInt (n1 : Int) (n2 : Int) W'
  change ∀ W', Calls Try.prog 105 _ _ _ at hcon
  have HC : Hid _ := hcon
  clear hcon
  show Calls Try.prog 104 #[.agg #[.int .i64 f1, .int .i64 t1, .int .i64 b1, .int .i64 z1, .int .i64 a1, .int .i64 n1, .int .i64 m1, .slice xa xl xc], .agg #[.int .i64 f2, .int .i64 t2, .int .i64 b2, .int .i64 z2, .int .i64 a2, .int .i64 n2, .int .i64 m2, .slice ya yl yc]] W fun e w' => e = .returned (.int .i64 (Lib.compareInt n1 n2)) ∧ ∃ q os', w' = grow (W.drewN q) os'
  generalize Lib.compareInt (n1 : Int) (n2 : Int) = r at *
  go_enter Try.func104, Try.ntmps104
  go_wp2_with fail
  refine (HC.out _).mono ?_
  rintro e w' ⟨rfl, rfl⟩
  go_wp2
  go_ret
  exact ⟨rfl, 0, _, by rw [alloc_eq_grow, alloc_eq_grow, grow_grow]; rfl⟩

theorem sk_flat (xs : List Sk) : (flatK skE 8 xs.toArray).toList = (xs.map skP).flatMap pcCells := by
  apply List.ext_getElem?
  intro i
  by_cases hi : i < xs.length * 8
  · have hd : i / 8 < xs.length := by omega
    have h2 := pcCells_at (xs.map skP) (i / 8) (by simp; omega) (i % 8) (by omega)
    rw [show i / 8 * 8 + i % 8 = i from by omega] at h2
    rw [h2, Array.getElem?_toList]
    have hd2 : i / 8 < (xs.map skP).length := by simpa using hd
    have h3 : (pcCells ((xs.map skP)[i / 8]'hd2)).length = 8 := rfl
    simp only [flatK, List.size_toArray, Array.getElem?_map, Array.getElem?_range, hi, if_true, Option.map_some]
    rw [List.getElem!_toArray, getElem!_pos xs (i / 8) hd, List.getElem?_eq_getElem (by rw [h3]; omega), getElem!_pos (skE xs[i / 8]) (i % 8) (show i % 8 < 8 by omega)]
    simp [skE]
  · rw [List.getElem?_eq_none (by simp; omega), List.getElem?_eq_none (by rw [pcCells_length]; simp; omega)]

theorem holds_sk {w : World} {g : Nat} {cur : Array Value} {e : TypeId} {xs : List Sk} (hb : w.heap[g]? = some (.cells cur e (0, 0))) (ht : cur.toList.take (xs.length * 8) = (xs.map skP).flatMap pcCells) : HoldsK skE 8 w g 0 xs.toArray := by
  intro j hj
  have hj' : j < xs.length * 8 := by simpa using hj
  refine ⟨?_, by simp [World.frozen?, hb]⟩
  have h1 : (cur.toList.take (xs.length * 8))[j]? = (flatK skE 8 xs.toArray).toList[j]? := by rw [ht, sk_flat]
  rw [List.getElem?_take_of_lt hj', Array.getElem?_toList, Array.getElem?_toList] at h1
  rw [Nat.zero_add]
  refine boxed_cell hb ?_
  rw [h1, getElem!_pos _ j hj, Array.getElem?_eq_getElem hj]
  rfl

theorem heap_sk {w : World} {g n : Nat} {os : Array Obj} {cur : Array Value} {e : TypeId} {fr : Nat × Nat} (d : Array Sk) (hb : w.heap[g]? = some (.cells cur e fr)) :
    (sortWorldK skE 8 w g 0 n d os).heap[g]? = some (.cells (putCells id 0 (flatK skE 8 d) cur) e fr) := by
  have hg : g < w.heap.size := (Array.getElem?_eq_some_iff.1 hb).1
  unfold sortWorldK putRowK
  rw [heap_grow_old _ _ (by simpa using hg)]
  simp [putRow, mapBlock, Sort.ahead, Array.getElem?_modify, hb, onCells]
theorem grown_sk {w : World} {g n : Nat} {os : Array Obj} (d : Array Sk) : w.grownBy (sortWorldK skE 8 w g 0 n d os) (some g) := by
  refine ⟨rfl, rfl, rfl, by unfold sortWorldK putRowK; simp, fun k hk hne => ?_⟩
  unfold sortWorldK putRowK
  rw [heap_grow_old _ _ (by simpa using hk)]
  have : g ≠ k := fun e => hne (by rw [e])
  simp [putRow, mapBlock, Sort.ahead, Array.getElem?_modify, this]
theorem take_sk (cur F : Array Value) (h : F.size ≤ cur.size) : (putCells id 0 F cur).toList.take F.size = F.toList := by
  apply List.ext_getElem?
  intro j
  by_cases hj : j < F.size
  · rw [List.getElem?_take_of_lt hj, Array.getElem?_toList, Array.getElem?_toList]
    simp [putCells, hj, show j < cur.size by omega]
  · rw [List.getElem?_take_eq_none (by omega), List.getElem?_eq_none (by simpa using hj)]

/-- **The sort of chunks by their numbers.** -/
theorem sort_any (g cap B : Nat) (xs : List Sk) (w : World) (h : OwnsP B w (.slice (some ⟨g, 0, none⟩) xs.length cap) (xs.map skP)) (hn : xs.length ≤ 100) :
    Calls Try.prog 103 #[.slice (some ⟨g, 0, none⟩) xs.length cap, .func (.func 104) #[] #[]] w fun e w' => e = .returned (.tuple #[]) ∧
      ∃ ys : List Sk, ys.Perm xs ∧ ys.Pairwise (fun a b => a.1.nu ≤ b.1.nu) ∧ OwnsP B w' (.slice (some ⟨g, 0, none⟩) xs.length cap) (ys.map skP) ∧ w.grownBy w' (some g) := by
  rcases h.2 with ⟨e0, h0⟩ | ⟨g', cap', cur, e0, hb, hg, hc, hm, hs, ht⟩
  · cases e0
  have e1 := e0
  simp only [Value.slice.injEq, Option.some.injEq, Addr.mk.injEq] at e1
  obtain ⟨⟨rfl, -, -⟩, -, rfl⟩ := e1
  rw [List.length_map] at hc ht
  have eg : ∀ args w, (callFunc 104 args).run Try.prog w = .ok (.enter 104 args) w := enters_of Try.func104 (by kernel_rfl) rfl
  have hlays : CmpLays Try.prog 104 #[] skE 8 skC g 0 xs.toArray.size w := fun _ _ _ _ x y => joined1_any x y _
  have hcon := AnyQ.slices_SortFunc Try.sortCk 8 Try.isAgg108 Try.sizeOf108 skE (fun _ => rfl) (fun x v hv => by simp [skE, pcCells, skP] at hv; rcases hv with rfl | rfl | rfl | rfl | rfl | rfl | rfl | rfl <;> rfl) skC sk_swo 104 #[] g 0 cap xs.toArray w eg hlays (holds_sk hg ht) ((Array.getElem?_eq_some_iff.1 hg).1) (by simp; omega)
  change Calls Try.prog 103 _ _ _ at hcon
  rw [show xs.toArray.size = xs.length from by simp] at hcon
  refine hcon.mono ?_
  rintro e w' ⟨rfl, d', n, os, hp, hsr, rfl⟩
  have hds : d'.size = xs.length := by rw [hp.1]; simp
  have hperm : d'.toList.Perm xs := by
    have := hp.2.2
    rw [show d'.extract 0 xs.length = d' from by rw [← hds]; simp, show xs.toArray.extract 0 xs.length = xs.toArray from by simp] at this
    simpa using this
  refine ⟨rfl, d'.toList, hperm, ?_, ?_, grown_sk d'⟩
  · rw [List.pairwise_iff_getElem]
    intro i j hi hj hij
    have := hsr i j (Nat.zero_le _) hij (by simpa [hds] using hj)
    rw [sk_lt, getElem!_pos d' j (by simpa using hj), getElem!_pos d' i (by simpa using hi)] at this
    simp only [decide_eq_false_iff_not, Nat.not_lt] at this
    simpa using this
  · have hl : (d'.toList.map skP).length = xs.length := by simp [hds]
    refine ⟨pcCells_length _, .inr ⟨g, cap, _, by rw [hl], hb, heap_sk d' hg, by rw [hl]; exact hc, hm, by simp [putCells, hs], ?_⟩⟩
    have hF : (flatK skE 8 d').toList = (d'.toList.map skP).flatMap pcCells := by
      have := sk_flat d'.toList
      simpa using this
    have hfs : (flatK skE 8 d').size = xs.length * 8 := by simp [hds]
    rw [hl, ← hF, ← hfs]
    exact take_sk cur _ (by rw [hfs, hs]; omega)
end Go.Proofs.Ytdjmhagclcfnfaa
/- The program's complete. -/
namespace Go.Proofs.Ytdjmhagclcfnfaa
open Go.Shelf Go.RowKit

theorem OwnsP.cells {B : Nat} {W : World} {g l cp : Nat} {ps : List (Ck × Value)} (h : OwnsP B W (.slice (some ⟨g, 0, none⟩) l cp) ps) (k : Nat) (hk : k < ps.length) :
    W.cell? ⟨g, k * 8, none⟩ = some (.int .i64 ps[k].1.f) ∧ W.cell? ⟨g, k * 8 + 1, none⟩ = some (.int .i64 ps[k].1.t) ∧ W.cell? ⟨g, k * 8 + 2, none⟩ = some (.int .i64 ps[k].1.b) ∧ W.cell? ⟨g, k * 8 + 3, none⟩ = some (.int .i64 ps[k].1.z) ∧ W.cell? ⟨g, k * 8 + 4, none⟩ = some (.int .i64 ps[k].1.all) ∧ W.cell? ⟨g, k * 8 + 5, none⟩ = some (.int .i64 ps[k].1.nu) ∧ W.cell? ⟨g, k * 8 + 6, none⟩ = some (.int .i64 ps[k].1.many) ∧ W.cell? ⟨g, k * 8 + 7, none⟩ = some ps[k].2 := by
  obtain ⟨cur, hg, hc⟩ := h.at hk
  exact ⟨boxed_cell hg (hc 0 _ rfl (by omega)), boxed_cell hg (hc 1 _ rfl (by omega)), boxed_cell hg (hc 2 _ rfl (by omega)), boxed_cell hg (hc 3 _ rfl (by omega)), boxed_cell hg (hc 4 _ rfl (by omega)), boxed_cell hg (hc 5 _ rfl (by omega)), boxed_cell hg (hc 6 _ rfl (by omega)), boxed_cell hg (hc 7 _ rfl (by omega))⟩
theorem OwnsP.keptN {B : Nat} {W W' : World} {v : Value} {ps : List (Ck × Value)} (h : OwnsP B W v ps) (hg : W.grownBy W' none) : OwnsP B W' v ps := by
  refine World.ownsRow.kept h hg ?_
  rcases h.2 with ⟨rfl, _⟩ | ⟨g, cap, cur, rfl, _⟩
  · exact .inl rfl
  · exact .inr (by simp [Value.ownBlock])

/-- The k-th chunk is the one that it should be. -/
def ckIs (ps : List (Ck × Value)) (n k : Nat) (p : Ck × Value) : Prop :=
  ∃ a, ps[0]? = some a ∧ (p.1.f = a.1.f ∧ p.1.t = a.1.t ∧ p.1.b = a.1.b ∧ p.1.z = a.1.z ∧ p.1.all = a.1.all) ∧ p.1.many = n ∧ p.1.nu = k
def completeR (ps : List (Ck × Value)) : Prop := ∀ k p, ps[k]? = some p → ckIs ps ps.length k p

set_option maxRecDepth 100000 in
set_option maxHeartbeats 4000000 in
theorem complete_any (g cap B : Nat) (ps : List (Ck × Value)) (w : World) (h : OwnsP B w (.slice (some ⟨g, 0, none⟩) ps.length cap) ps) (hn : ps.length ≤ 100) (h1 : 1 ≤ ps.length) (hsl : ∀ p ∈ ps, ∃ a n c, p.2 = .slice a n c) :
    Calls Try.prog 106 #[.slice (some ⟨g, 0, none⟩) ps.length cap] w fun e w' => w.grownBy w' none ∧ ∃ ok : Bool, e = .returned (.bool ok) ∧ (ok = true ↔ completeR ps) := by
  have HO : Hid (OwnsP B w (.slice (some ⟨g, 0, none⟩) ps.length cap) ps) := h
  have HSL : Hid _ := hsl
  clear h hsl
  go_enter Try.func106, Try.ntmps106
  go_wp2
  go_loopw [7] (fun i wr => ∃ k : Nat, k ≤ ps.length ∧ i = .int .i64 k ∧ (∀ j p, j < k → ps[j]? = some p → ckIs ps ps.length j p) ∧ w.grownBy wr none) (fun i _ => ps.length - (intOf i).toNat)
  case atStart => exact ⟨0, Nat.zero_le _, rfl, fun j p hj => absurd hj (Nat.not_lt_zero _), ⟨rfl, rfl, rfl, Nat.le_refl _, fun _ _ _ => rfl⟩⟩
  case round =>
    obtain ⟨k, hk, rfl, hdone, hg⟩ := hrel
    have H_G : Hid (w.grownBy wr none) := hg
    have H_D : Hid _ := hdone
    have o2 := HO.out.keptN hg
    clear hg hdone
    by_cases hlt : k < ps.length
    · obtain ⟨x0, x1, x2, x3, x4, x5, x6, x7⟩ := o2.cells k hlt
      obtain ⟨a0, a1, a2, a3, a4, -⟩ := o2.cells 0 (by omega)
      obtain ⟨va, vn, vc, hv⟩ := HSL.out ps[k] (List.getElem_mem hlt)
      rw [hv] at x7
      have hgl := World.block_lt_of_cell? _ _ x0
      clear hv
      have HK : Hid (∀ q, ps[k]? = some q → q.1 = ps[k].1) := fun q hq => by
        rw [List.getElem?_eq_getElem hlt] at hq
        cases hq
        rfl
      have HA : Hid (ps[0]? = some (ps[0]'(by omega))) := List.getElem?_eq_getElem _
      generalize hpk : ps[k].1 = cc at *
      generalize hpa : (ps[0]'(by omega)).1 = aa at *
      have hcase : (((cc.f : Int) == (aa.f : Int)) = false) ∨ (((cc.f : Int) == (aa.f : Int)) = true ∧ ((cc.t : Int) == (aa.t : Int)) = false) ∨ (((cc.f : Int) == (aa.f : Int)) = true ∧ ((cc.t : Int) == (aa.t : Int)) = true ∧ ((cc.b : Int) == (aa.b : Int)) = false) ∨ (((cc.f : Int) == (aa.f : Int)) = true ∧ ((cc.t : Int) == (aa.t : Int)) = true ∧ ((cc.b : Int) == (aa.b : Int)) = true ∧ ((cc.z : Int) == (aa.z : Int)) = false) ∨ (((cc.f : Int) == (aa.f : Int)) = true ∧ ((cc.t : Int) == (aa.t : Int)) = true ∧ ((cc.b : Int) == (aa.b : Int)) = true ∧ ((cc.z : Int) == (aa.z : Int)) = true ∧ ((cc.all : Int) == (aa.all : Int)) = false) ∨ (((cc.f : Int) == (aa.f : Int)) = true ∧ ((cc.t : Int) == (aa.t : Int)) = true ∧ ((cc.b : Int) == (aa.b : Int)) = true ∧ ((cc.z : Int) == (aa.z : Int)) = true ∧ ((cc.all : Int) == (aa.all : Int)) = true ∧ ((cc.many : Int) != (ps.length : Int)) = true) ∨ (((cc.f : Int) == (aa.f : Int)) = true ∧ ((cc.t : Int) == (aa.t : Int)) = true ∧ ((cc.b : Int) == (aa.b : Int)) = true ∧ ((cc.z : Int) == (aa.z : Int)) = true ∧ ((cc.all : Int) == (aa.all : Int)) = true ∧ ((cc.many : Int) != (ps.length : Int)) = false ∧ ((cc.nu : Int) != (k : Int)) = true) ∨ (((cc.f : Int) == (aa.f : Int)) = true ∧ ((cc.t : Int) == (aa.t : Int)) = true ∧ ((cc.b : Int) == (aa.b : Int)) = true ∧ ((cc.z : Int) == (aa.z : Int)) = true ∧ ((cc.all : Int) == (aa.all : Int)) = true ∧ ((cc.many : Int) != (ps.length : Int)) = false ∧ ((cc.nu : Int) != (k : Int)) = false) := by
        by_cases e0 : cc.f = aa.f
        · by_cases e1 : cc.t = aa.t
          · by_cases e2 : cc.b = aa.b
            · by_cases e3 : cc.z = aa.z
              · by_cases e4 : cc.all = aa.all
                · by_cases e5 : cc.many = ps.length
                  · by_cases e6 : cc.nu = k
                    · exact .inr (.inr (.inr (.inr (.inr (.inr (.inr (⟨by rw [e0]; simp, by rw [e1]; simp, by rw [e2]; simp, by rw [e3]; simp, by rw [e4]; simp, by rw [e5]; simp, by rw [e6]; simp⟩)))))))
                    · exact .inr (.inr (.inr (.inr (.inr (.inr (.inl ⟨by rw [e0]; simp, by rw [e1]; simp, by rw [e2]; simp, by rw [e3]; simp, by rw [e4]; simp, by rw [e5]; simp, by simp; omega⟩))))))
                  · exact .inr (.inr (.inr (.inr (.inr (.inl ⟨by rw [e0]; simp, by rw [e1]; simp, by rw [e2]; simp, by rw [e3]; simp, by rw [e4]; simp, by simp; omega⟩)))))
                · exact .inr (.inr (.inr (.inr (.inl ⟨by rw [e0]; simp, by rw [e1]; simp, by rw [e2]; simp, by rw [e3]; simp, by simp; omega⟩))))
              · exact .inr (.inr (.inr (.inl ⟨by rw [e0]; simp, by rw [e1]; simp, by rw [e2]; simp, by simp; omega⟩)))
            · exact .inr (.inr (.inl ⟨by rw [e0]; simp, by rw [e1]; simp, by simp; omega⟩))
          · exact .inr (.inl ⟨by rw [e0]; simp, by simp; omega⟩)
        · exact .inl (by simp; omega)
      have HNo : Hid (¬ (cc.f = aa.f ∧ cc.t = aa.t ∧ cc.b = aa.b ∧ cc.z = aa.z ∧ cc.all = aa.all ∧ cc.many = ps.length ∧ cc.nu = k) → ¬ completeR ps) := by
        intro hno hc
        obtain ⟨a, ha, h5, h6, h7⟩ := hc k ps[k] (List.getElem?_eq_getElem hlt)
        rw [HA.out] at ha
        cases ha
        rw [hpk, hpa] at h5
        rw [hpk] at h6 h7
        exact hno ⟨h5.1, h5.2.1, h5.2.2.1, h5.2.2.2.1, h5.2.2.2.2, h6, h7⟩
      have HYes : Hid (cc.f = aa.f ∧ cc.t = aa.t ∧ cc.b = aa.b ∧ cc.z = aa.z ∧ cc.all = aa.all ∧ cc.many = ps.length ∧ cc.nu = k → ∀ j p, j < k + 1 → ps[j]? = some p → ckIs ps ps.length j p) := by
        intro hy j p hj hp
        by_cases hjk : j < k
        · exact H_D.out j p hjk hp
        · obtain rfl : j = k := by omega
          refine ⟨_, HA.out, ?_, ?_, ?_⟩
          · rw [HK.out p hp, hpa]
            exact ⟨hy.1, hy.2.1, hy.2.2.1, hy.2.2.2.1, hy.2.2.2.2.1⟩
          · rw [HK.out p hp]; exact hy.2.2.2.2.2.1
          · rw [HK.out p hp]; exact hy.2.2.2.2.2.2
      clear hpk hpa HK
      obtain ⟨Wc, hWc⟩ : ∃ Wc, Wc = wr.alloc (.cells #[.int .i64 cc.f, .int .i64 cc.t, .int .i64 cc.b, .int .i64 cc.z, .int .i64 cc.all, .int .i64 cc.nu, .int .i64 cc.many, .slice va vn vc] 108) := ⟨_, rfl⟩
      have hgc : wr.grownBy Wc none := by rw [hWc]; exact galloc _ _ _
      have hbc : Wc.heap[wr.heap.size]? = some (.cells #[.int .i64 cc.f, .int .i64 cc.t, .int .i64 cc.b, .int .i64 cc.z, .int .i64 cc.all, .int .i64 cc.nu, .int .i64 cc.many, .slice va vn vc] 108 (0, 0)) := by rw [hWc]; exact World.alloc_heap_new _ _
      have kc : ∀ o, Wc.cell? ⟨g, o, none⟩ = wr.cell? ⟨g, o, none⟩ := fun o => World.cell?_of_block (a := ⟨g, o, none⟩) (hgc.block g hgl (by simp))
      go_wp2
      rw [← hWc]
      clear hWc
      have b0 := (kc _).trans a0
      have b1 := (kc _).trans a1
      have b2 := (kc _).trans a2
      have b3 := (kc _).trans a3
      have b4 := (kc _).trans a4
      have c0 := boxed_cell (i := 0) hbc rfl
      have c1 := boxed_cell (i := 1) hbc rfl
      have c2 := boxed_cell (i := 2) hbc rfl
      have c3 := boxed_cell (i := 3) hbc rfl
      have c4 := boxed_cell (i := 4) hbc rfl
      have c5 := boxed_cell (i := 5) hbc rfl
      have c6 := boxed_cell (i := 6) hbc rfl
      have GC : Hid (w.grownBy Wc none) := gtrans H_G.out hgc
      clear a0 a1 a2 a3 a4 x0 x1 x2 x3 x4 x5 x6 x7 hgc hbc kc o2
      simp only [Nat.zero_mul, Nat.zero_add] at b0 b1 b2 b3 b4
      have hpos : (0 : Int) < (ps.length : Int) := by omega
      have hpos2 : 0 < ps.length := by omega
      have hpos3 : (0 : Int) ≤ 0 := by omega
      rcases hcase with q0 | ⟨q0, q1⟩ | ⟨q0, q1, q2⟩ | ⟨q0, q1, q2, q3⟩ | ⟨q0, q1, q2, q3, q4⟩ | ⟨q0, q1, q2, q3, q4, q5⟩ | ⟨q0, q1, q2, q3, q4, q5, q6⟩ | ⟨q0, q1, q2, q3, q4, q5, q6⟩
      case inr.inr.inr.inr.inr.inr.inr =>
        have hy : cc.f = aa.f ∧ cc.t = aa.t ∧ cc.b = aa.b ∧ cc.z = aa.z ∧ cc.all = aa.all ∧ cc.many = ps.length ∧ cc.nu = k := by
          simp only [beq_iff_eq, bne_eq_false_iff_eq] at q0 q1 q2 q3 q4 q5 q6
          omega
        have HY : Hid _ := HYes.out hy
        clear hy HYes HNo
        go_quiet (fail)
        go_wp2
        go_roundw
        case rel => exact ⟨k + 1, by omega, by go_num, HY.out, gdrewR GC.out _⟩
        case measure => simp [intOf]; omega
      all_goals
        have hno : ¬ (cc.f = aa.f ∧ cc.t = aa.t ∧ cc.b = aa.b ∧ cc.z = aa.z ∧ cc.all = aa.all ∧ cc.many = ps.length ∧ cc.nu = k) := by
          rintro ⟨h0, h1, h2, h3, h4, h5, h6⟩
          simp_all
        have HN : Hid (¬ completeR ps) := HNo.out hno
        clear hno HYes HNo
        go_quiet (fail)
        go_wp2
        go_ret
        exact ⟨gdrewR GC.out _, false, rfl, by simpa using HN.out⟩
    · obtain rfl : k = ps.length := by omega
      go_wp2
      go_ret
      exact ⟨H_G.out, true, rfl, by simp; exact fun j p hp => H_D.out j p (by have := List.getElem?_eq_some_iff.1 hp; exact this.1) hp⟩
end Go.Proofs.Ytdjmhagclcfnfaa
/- The program's inTurn: the records of the chunks, one behind the other. -/
namespace Go.Proofs.Ytdjmhagclcfnfaa
open Go.Shelf Go.RowKit

attribute [local go_sem] Oper.semAt_some

theorem kept_size {M : Nat} {W W' : World} (hM : M ≤ W.heap.size) (h : KeptOn (fun k => k < M) W W') : M ≤ W'.heap.size := by
  by_cases h0 : M = 0
  · omega
  · have := h.lt (fun k hk => by omega) (M - 1) (by omega)
    omega
def turnR (ps : List (Ck × Value)) : List Rc := ps.flatMap (fun p => p.1.rs)

set_option maxHeartbeats 1000000 in
theorem inTurn_any (a : Option Addr) (len cap : Nat) (w : World) :
    Calls Try.prog 107 #[.slice a len cap] w fun e w' => e = .returned (.func (.func 133) #[] #[.pointer (some ⟨w.heap.size, 0, none⟩)]) ∧ w' = w.alloc (.cells #[.slice a len cap] 104) := by
  have hmf : ∀ (fn : Fn) (first cap : Array Value) (w : World), (Instr.makeFunc fn first cap).run Try.prog w = .ok (.func fn first cap) w := fun _ _ _ _ => rfl
  go_enter Try.func107, Try.ntmps107
  go_wp2
  go_ret
  exact ⟨rfl, rfl⟩

set_option maxRecDepth 100000 in
set_option maxHeartbeats 2000000 in
theorem inTurn1_in (n : Nat) (hn : 1 ≤ n) (l Bs g cap M : Nat) (ps : List (Ck × Value)) (hlen : ps.length ≤ 100) (hreach : ∀ p ∈ ps, p.1.rs.length ≤ 1000) (J Jx : List Rc → World → Prop)
    (W : World) (hJ : OwnIt none W.heap.size J) (hM : M ≤ W.heap.size)
    (hY : ∀ pre x W, J pre W → pre ++ [x] <+: turnR ps → YieldAt Fence.wide (n - 1) Try.prog l #[.agg #[.bool x.free, .int .i64 x.block, .string x.data]] W fun e W' =>
      (e = .returned (.bool true) ∧ J (pre ++ [x]) W' ∧ KeptOn (fun k => k < M) W W') ∨ (e = .returned (.bool false) ∧ Jx (pre ++ [x]) W'))
    (hBs : W.cell? ⟨Bs, 0, none⟩ = some (.slice (some ⟨g, 0, none⟩) ps.length cap)) (hgM : g < M)
    (hO : OwnsP 0 W (.slice (some ⟨g, 0, none⟩) ps.length cap) ps) (hR : ∀ p ∈ ps, Recs M W p.2 p.1.rs)
    (h0 : J [] W) :
    CallsIn Fence.wide n Try.prog 133 #[.func (.yield l) #[] #[], .pointer (some ⟨Bs, 0, none⟩)] W fun e W' =>
      (∃ v, e = .returned v ∧ (J (turnR ps) W' ∨ (∃ pre, pre <+: turnR ps ∧ Jx pre W'))) := by
  refine callsIn_of_wp Try.func133 rfl trivial ?_ rfl
  simp only [Try.ntmps133, List.size_toArray, List.length_cons, List.length_nil, Nat.reduceAdd, Nat.reduceSub, Array.replicate_succ, Array.replicate_zero, List.push_toArray, List.append_toArray, List.nil_append, List.cons_append]
  have HO : Hid _ := hO
  have HR : Hid _ := hR
  have HY : Hid _ := hY
  have HL : Hid _ := hreach
  clear hO hR hY hreach
  gi_wp2
  gi_loopw [9] (fun i wr => ∃ k : Nat, k ≤ ps.length ∧ i = .int .i64 k ∧ J (turnR (ps.take k)) wr ∧ KeptOn (fun k => k < M) W wr)
    (fun i _ => ps.length - (intOf i).toNat)
  case atStart => exact ⟨0, Nat.zero_le _, rfl, h0, KeptOn.refl _ _⟩
  case round =>
    obtain ⟨k, hk, rfl, hJs, hkp⟩ := hrel
    have hsz := kept_size hM hkp
    by_cases hlt : k < ps.length
    · obtain ⟨x0, x1, x2, x3, x4, x5, x6, x7⟩ := OwnsP.cells HO.out k hlt
      have ck : ∀ o, wr.cell? ⟨g, o, none⟩ = W.cell? ⟨g, o, none⟩ := fun o => hkp.cell hgM
      replace x0 := (ck _).trans x0
      replace x1 := (ck _).trans x1
      replace x2 := (ck _).trans x2
      replace x3 := (ck _).trans x3
      replace x4 := (ck _).trans x4
      replace x5 := (ck _).trans x5
      replace x6 := (ck _).trans x6
      replace x7 := (ck _).trans x7
      have hts : turnR (ps.take (k + 1)) = turnR (ps.take k) ++ ps[k].1.rs := by
        unfold turnR
        rw [List.take_succ_eq_append_getElem hlt, List.flatMap_append, List.flatMap_cons, List.flatMap_nil, List.append_nil]
      have hpre : turnR (ps.take k) ++ ps[k].1.rs <+: turnR ps := by
        rw [← hts]
        unfold turnR
        conv => rhs; rw [← List.take_append_drop (k + 1) ps, List.flatMap_append]
        exact List.prefix_append _ _
      have HT : Hid _ := hts
      have HP : Hid _ := hpre
      have hrec := HR.out ps[k] (List.getElem_mem hlt)
      have hrl := HL.out ps[k] (List.getElem_mem hlt)
      clear hts hpre ck
      generalize hpk : ps[k] = pk at *
      obtain ⟨cc, sv⟩ := pk
      dsimp only at x0 x1 x2 x3 x4 x5 x6 x7 hrec hrl
      obtain ⟨rs, hrs⟩ : ∃ rs, rs = cc.rs := ⟨_, rfl⟩
      have HT2 : Hid (turnR (ps.take (k + 1)) = turnR (ps.take k) ++ rs) := by rw [hrs]; exact HT.out
      have HP2 : Hid (turnR (ps.take k) ++ rs <+: turnR ps) := by rw [hrs]; exact HP.out
      rw [← hrs] at hrec hrl
      clear HT HP hrs hpk
      have hgl : g < wr.heap.size := by omega
      obtain ⟨a, cp, rfl, hcs⟩ : ∃ a cp, sv = .slice a rs.length cp ∧ ∀ j (h : j < rs.length), ∃ b off, a = some ⟨b, off, none⟩ ∧ b < M ∧ W.cell? ⟨b, off + j * 3, none⟩ = some (.bool rs[j].free) ∧ W.cell? ⟨b, off + j * 3 + 1, none⟩ = some (.int .i64 rs[j].block) ∧ W.cell? ⟨b, off + j * 3 + 2, none⟩ = some (.string rs[j].data) := by
        rcases hrec with ⟨e, a, cp, rfl⟩ | ⟨b, off, cp, rfl, hb, hc⟩
        · exact ⟨a, cp, by rw [e]; rfl, fun j h => by rw [e] at h; exact absurd h (Nat.not_lt_zero _)⟩
        · exact ⟨_, cp, rfl, fun j h => ⟨b, off, rfl, hb, hc j h⟩⟩
      have HC : Hid _ := hcs
      clear hcs hrec
      obtain ⟨Wc, hWc⟩ : ∃ Wc, Wc = wr.alloc (.cells #[.int .i64 cc.f, .int .i64 cc.t, .int .i64 cc.b, .int .i64 cc.z, .int .i64 cc.all, .int .i64 cc.nu, .int .i64 cc.many, .slice a rs.length cp] 108) := ⟨_, rfl⟩
      have hJc : J (turnR (ps.take k)) Wc := by rw [hWc]; exact hJ.alloc _ hJs
      have hkc : KeptOn (fun k => k < M) W Wc := by rw [hWc]; exact hkp.alloc (fun k hk => by omega) _
      have hb7 : Wc.cell? ⟨wr.heap.size, 7, none⟩ = some (.slice a rs.length cp) := by rw [hWc]; exact boxed_cell (World.alloc_heap_new _ _) rfl
      gi_wp2
      rw [← hWc]
      clear hWc hJs hkp
      gi_wp2
      gi_loopw [16] (fun i wr => ∃ j : Nat, j ≤ rs.length ∧ i = .int .i64 j ∧ J (turnR (ps.take k) ++ rs.take j) wr ∧ KeptOn (fun k => k < M) W wr)
        (fun i _ => rs.length - (intOf i).toNat)
      case atStart => exact ⟨0, Nat.zero_le _, rfl, by simpa using hJc, hkc⟩
      case round =>
        obtain ⟨j, hj, rfl, hJs, hkp⟩ := hrel
        have hsz := kept_size hM hkp
        by_cases hlj : j < rs.length
        · obtain ⟨b, off, rfl, hb, q0, q1, q2⟩ := HC.out j hlj
          have cb : ∀ o, wr.cell? ⟨b, o, none⟩ = W.cell? ⟨b, o, none⟩ := fun o => hkp.cell hb
          replace q0 := (cb _).trans q0
          replace q1 := (cb _).trans q1
          replace q2 := (cb _).trans q2
          clear cb
          have hbw : b < wr.heap.size := by omega
          have hts : rs.take (j + 1) = rs.take j ++ [rs[j]] := List.take_succ_eq_append_getElem hlj
          have hpre : (turnR (ps.take k) ++ rs.take j) ++ [rs[j]] <+: turnR ps := by
            rw [List.append_assoc, ← hts]
            exact ((List.prefix_append_right_inj _).2 (List.take_prefix _ _)).trans HP2.out
          have HT3 : Hid _ := hts
          have HP3 : Hid _ := hpre
          clear hts hpre
          obtain ⟨fn, tmps, assign, body, hy, hR⟩ := HY.out (turnR (ps.take k) ++ rs.take j) rs[j] (wr.alloc (.cells #[.bool rs[j].free, .int .i64 rs[j].block, .string rs[j].data] 34)) (hJ.alloc _ hJs) HP3.out
          generalize hr : rs[j] = r at *
          have hbf : rs.length ≤ 9223372036854775807 := by omega
          gi_wp2
          refine hR.mono ?_
          rintro e W3 (⟨rfl, hJ3, hk3⟩ | ⟨rfl, hJx3⟩)
          · gi_wp2
            go_roundw
            case rel =>
              exact ⟨j + 1, by omega, by simp, by rw [HT3.out, ← List.append_assoc]; exact hJ3, (hkp.alloc (fun k hk => by omega) _).trans hk3⟩
            case measure => simp [intOf]; omega
          · gi_wp2
            refine bodyPost_ret (results_none rfl _ _ _) rfl ?_
            exact ⟨_, rfl, .inr ⟨_, HP3.out, hJx3⟩⟩
        · obtain rfl : j = rs.length := by omega
          rw [List.take_length] at hJs
          gi_wp2
          go_roundw
          case rel => exact ⟨k + 1, by omega, by simp, by rw [HT2.out]; exact hJs, hkp⟩
          case measure => simp [intOf]; omega
    · obtain rfl : k = ps.length := by omega
      rw [List.take_length] at hJs
      gi_wp2
      go_end0
      exact ⟨_, rfl, .inl hJs⟩

/-- **inTurn has its contract.** -/
theorem inTurn_seq (n : Nat) (hn : 1 ≤ n) (Bs g cap : Nat) (ps : List (Ck × Value)) (hlen : ps.length ≤ 100) (hreach : ∀ p ∈ ps, p.1.rs.length ≤ 1000) (w : World) (hc : w.cell? ⟨Bs, 0, none⟩ = some (.slice (some ⟨g, 0, none⟩) ps.length cap))
    (h1 : 1 ≤ ps.length) (hO : OwnsP 0 w (.slice (some ⟨g, 0, none⟩) ps.length cap) ps) (hR : ∀ p ∈ ps, Recs w.heap.size w p.2 p.1.rs) :
    SeqC Fence.wide n Try.prog 133 #[.pointer (some ⟨Bs, 0, none⟩)] encRc (fun k => k < w.heap.size) none (fun pre x => pre ++ [x] <+: turnR ps) (fun ys => ys = turnR ps) (fun pre => pre <+: turnR ps) (fun _ _ => False) w := by
  intro l J Jx W hW hJ hJx hY h0
  have hBs := World.block_lt_of_cell? _ _ hc
  have hc' := (hW.cell (p := ⟨Bs, 0, none⟩) hBs).trans hc
  obtain ⟨x0, -⟩ := OwnsP.cells hO 0 (by omega)
  have hg := World.block_lt_of_cell? _ _ x0
  have hgr : w.grownBy W none := gbelow hW
  refine (inTurn1_in n hn l Bs g cap w.heap.size ps hlen hreach J Jx W hJ hW.size hY hc' hg (OwnsP.keptN hO hgr) (fun p hp => (hR p hp).below hW (Nat.le_refl _)) h0).mono ?_
  rintro e W' ⟨v, rfl, hj | ⟨pre, hp, hj⟩⟩
  · exact .inl ⟨v, rfl, .inl ⟨_, rfl, hj⟩⟩
  · exact .inl ⟨v, rfl, .inr ⟨_, hp, hj⟩⟩
end Go.Proofs.Ytdjmhagclcfnfaa
/- slices.Collect over records, of longer iterators. -/
namespace Go.Proofs.Ytdjmhagclcfnfaa
open Go.RowKit Go.Shelf

attribute [local go_sem] Oper.semAt_some

set_option maxRecDepth 100000 in
set_option maxHeartbeats 2000000 in
theorem appendSeq_many {gf : Nat} {lb : Array Value} {KK : Nat → Prop} {bi : Option Nat} {G : List Rc → Rc → Prop} {Fin Stop : List Rc → Prop} {Pan : List PanicEntry → List Rc → Prop} (w : World)
    (eg : ∀ args w, (callFunc gf args).run Try.prog w = .ok (.enter gf args) w)
    (hseq : SeqC Fence.wide 8 Try.prog gf lb encRc KK bi G Fin Stop Pan w) (hKK : ∀ k, KK k → k < w.heap.size) (hbi : ∀ b, bi = some b → b < w.heap.size) (hG : ∀ pre x, G pre x → pre.length < 100000) :
    Calls Try.prog 116 #[.slice none 0 0, .func (.func gf) #[] lb] w fun e w' => w.grownBy w' bi ∧ ((∃ xs v, Fin xs ∧ e = .returned v ∧ OwnsR w.heap.size w' v xs) ∨ (∃ ch xs, Pan ch xs ∧ e = .panicked ch)) := by
  obtain ⟨i0, hi, hz0, hz1, hz2⟩ := info_parts Try.infoRec
  refine (callsIn_wide (n := 9)).1 ?_
  refine callsIn_of_wp_marks Try.func116 rfl trivial ?_ rfl
  simp only [Try.ntmps116, List.size_toArray, List.length_cons, List.length_nil, Nat.reduceAdd, Nat.reduceSub, Array.replicate_succ, Array.replicate_zero, List.push_toArray, List.append_toArray, List.nil_append, List.cons_append]
  gi_wp2
  have hO3 : (w.alloc (.cells #[.slice none 0 0] 22)).heap[w.heap.size]? = some (.cells #[.slice none 0 0] 22 (0, 0)) := World.alloc_heap_new _ _
  have hs3 : (w.alloc (.cells #[.slice none 0 0] 22)).heap.size = w.heap.size + 1 := by simp
  have hg3 : w.grownBy (w.alloc (.cells #[.slice none 0 0] 22)) bi := galloc _ _ _
  have hb3 : Below w.heap.size w (w.alloc (.cells #[.slice none 0 0] 22)) := (Below.refl _ _).alloc (Nat.le_refl _) _
  generalize w.alloc (.cells #[.slice none 0 0] 22) = W3 at *
  refine range_law (n := 9) rfl (by decide) (gf := gf) (lb := lb) rfl trivial eg hseq hb3 (fun k hk => by have := hKK k hk; omega) (fun b hb => by have := hbi b hb; omega) (fun _ => rfl)
    (fun pre W => (∃ v, W.heap[w.heap.size]? = some (.cells #[v] 22 (0, 0)) ∧ OwnsR w.heap.size W v pre) ∧ w.grownBy W bi)
    (fun _ _ _ => False)
    (OwnIt.and (ownIt_rows bi _ w.heap.size w.heap.size (fun pre => pre) hbi (Nat.le_refl _)) (ownIt_grown (by omega)))
    (fun cd => OwnIt.pure _ _ _)
    ⟨⟨_, hO3, World.ownsRow_nil _ _ _ _⟩, hg3⟩
    (fun x a' W => ∃ Bx, w.heap.size ≤ Bx ∧ W.heap[Bx]? = some (.cells #[.bool x.free, .int .i64 x.block, .string x.data] 34 (0, 0)) ∧ a' = { tmps := #[.slice none 0 0, .func (.func gf) #[] lb, .pointer (some ⟨w.heap.size, 0, none⟩), undef, .slice none 0 0, .pointer (some ⟨Bx, 0, none⟩), .func (.func gf) #[] lb, .agg #[.bool x.free, .int .i64 x.block, .string x.data], undef, undef, undef, undef, undef], defers := [] })
    ?ax
    ?assign ?body ?done ?stop ?panic
  case ax =>
    rintro x a' s W W' row ⟨Bx, h1, h2, h3⟩ hg hr
    refine ⟨Bx, h1, (hg.block Bx (Array.getElem?_eq_some_iff.1 h2).1 (fun e => ?_)).trans h2, h3⟩
    rcases hr Bx e.symm with e2 | ⟨_, o, ho', hc⟩
    · have := hbi Bx e2.symm; omega
    · rw [h2] at ho'; cases ho'; cases hc
  case assign =>
    rintro l pre x W K ⟨⟨v, h1, h2⟩, h5⟩ hK
    have lt := fun {k : Nat} {o : Obj} (e : W.heap[k]? = some o) => (Array.getElem?_eq_some_iff.1 e).1
    gi_wp2
    refine hK _ _ ((KeepsOthers.alloc _ _).from _) ?_ ⟨⟨v, (Below.heap_alloc _ _ _ (lt h1)).trans h1, World.ownsRow.alloc h2 _⟩, gallocR h5 _⟩ ⟨W.heap.size, h5.size, World.alloc_heap_new _ _, rfl⟩
    exact (KeptOn.refl _ _).alloc (fun k hk => Nat.lt_of_lt_of_le (hKK k hk) h5.size) _
  case body =>
    rintro l pre x a' W ⟨⟨v, h1, h2⟩, h5⟩ ⟨Bx, hx1, hx, rfl⟩ hGx
    have hln := hG pre x hGx
    have hml : pre.length + 1 ≤ maxLen := Nat.le_trans (show pre.length + 1 ≤ 100001 by omega) (by decide)
    have r0 := boxed_cell (i := 0) hx rfl
    have r1 := boxed_cell (i := 1) hx rfl
    have r2 := boxed_cell (i := 2) hx rfl
    have o0 := boxed_cell (i := 0) h1 rfl
    gi_wp2_with (gi_at_builtin; refine wpListIn_append_own _ rfl _ _ 22 rfl w.heap.size 34 i0 _ 3 32 Try.underlying22 hi hz0 hz1 hz2 rfl (by decide) _ _ _ rfl (World.ownsRow.alloc h2 _) ⟨W.heap.size, 0, none⟩ 1 1 [.bool x.free, .int .i64 x.block, .string x.data] rfl rfl (cells_new _ _ _) (by simp [Value.oneCell']) hml (by omega) (by have := h5.size; simp; omega) ?_; intro v' w3 hown' hg3' hnil'; obtain ⟨k1, k2, k3, k4, k5⟩ := Boxed.appended (t := 22) h1 (by decide) h2 h5.size (Nat.le_refl _) hown' hg3'; obtain ⟨g', cap', rfl⟩ := ownsRow_succ hown'; have p0 := boxed_cell (i := 0) k1 rfl; have pf := boxed_frozen (i := 0) k1)
    exact ⟨k4.from _, KeptOn.of_below k5 hKK, ⟨_, k2, ownsR_snoc k3⟩, gbelowR h5 k5⟩
  case done =>
    rintro D ys W hD hF ⟨⟨v, h1, h2⟩, h5⟩ hK
    have o0 := boxed_cell (i := 0) h1 rfl
    have hgp : w.grownBy (W.putObj D (.deferred none)) bi := ⟨h5.os, h5.tape, h5.output, by simpa using h5.size, fun j hj hne => (World.putObj_heap_other (by omega)).trans (h5.block j hj hne)⟩
    obtain ⟨a, ln, cp, rfl⟩ : ∃ a ln cp, v = .slice a ln cp := by
      rcases h2.2 with ⟨rfl, _⟩ | ⟨g, cap, cur, rfl, _⟩
      · exact ⟨_, _, _, rfl⟩
      · exact ⟨_, _, _, rfl⟩
    gi_wp2
    refine ⟨by simp, .inl ⟨_, _, rfl, run_takeDeferred hK, ?_⟩⟩
    refine ⟨_, results_tmp rfl _ _ _, hgp, .inl ⟨ys, .slice a ln cp, hF, ?_, ownsRow_putObj h2 _ hK rfl⟩⟩
    rfl
  case panic =>
    rintro D ch xs W hD hP ⟨_, h5⟩ hK
    have hgp : w.grownBy (W.putObj D (.deferred none)) bi := ⟨h5.os, h5.tape, h5.output, by simpa using h5.size, fun j hj hne => (World.putObj_heap_other (by omega)).trans (h5.block j hj hne)⟩
    refine ⟨by simp, .inl ⟨_, _, rfl, run_takeDeferred hK, ?_⟩⟩
    exact ⟨hgp, .inr ⟨ch, xs, hP, rfl⟩⟩
  case stop =>
    rintro D cd pre W _ _ h
    exact h.elim

set_option maxHeartbeats 1000000 in
theorem collect_many {gf : Nat} {lb : Array Value} {KK : Nat → Prop} {bi : Option Nat} {G : List Rc → Rc → Prop} {Fin Stop : List Rc → Prop} {Pan : List PanicEntry → List Rc → Prop} (w : World)
    (eg : ∀ args w, (callFunc gf args).run Try.prog w = .ok (.enter gf args) w)
    (hseq : SeqC Fence.wide 8 Try.prog gf lb encRc KK bi G Fin Stop Pan w) (hKK : ∀ k, KK k → k < w.heap.size) (hbi : ∀ b, bi = some b → b < w.heap.size) (hG : ∀ pre x, G pre x → pre.length < 100000) :
    Calls Try.prog 85 #[.func (.func gf) #[] lb] w fun e w' => w.grownBy w' bi ∧ ((∃ xs v, Fin xs ∧ e = .returned v ∧ OwnsR w.heap.size w' v xs) ∨ (∃ ch xs, Pan ch xs ∧ e = .panicked ch)) := by
  have HC : Hid (∀ u : Unit, _) := fun _ => appendSeq_many w eg hseq hKK hbi hG
  clear hseq eg
  go_enter Try.func85, Try.ntmps85
  go_wp2_with fail
  refine (HC.out ()).mono ?_
  rintro e w1 ⟨hg, (⟨xs, v, hF, rfl, ho⟩ | ⟨ch, xs, hP, rfl⟩)⟩
  · have HO : Hid _ := ho
    have HG : Hid _ := hg
    have HF : Hid _ := hF
    clear ho hg hF
    go_wp2
    go_ret
    exact ⟨HG.out, .inl ⟨xs, v, HF.out, rfl, HO.out⟩⟩
  · exact ⟨rfl, hg, .inr ⟨ch, xs, hP, rfl⟩⟩
end Go.Proofs.Ytdjmhagclcfnfaa
