/- The law Writes: its walk. -/
import Derived.Test.YtdjmhagclcfnfaaLWrites
import Derived.Laws.CopyRow
import Derived.Laws.MakeOwn
namespace Go.Proofs.Ytdjmhagclcfnfaa
open Go.RowKit Go.Shelf


/-- Records as cells. -/
def recCells (rs : List Rc) : List Value := rs.flatMap fun r => [.bool r.free, .int .i64 r.block, .string r.data]
theorem recCells_length (rs : List Rc) : (recCells rs).length = rs.length * 3 := by
  induction rs with
  | nil => rfl
  | cons r rs ih => simp only [recCells, List.flatMap_cons, List.length_append, List.length_cons, List.length_nil] at *; omega
theorem recCells_at : ∀ (rs : List Rc) (k : Nat) (h : k < rs.length), (recCells rs)[k * 3]? = some (.bool rs[k].free) ∧ (recCells rs)[k * 3 + 1]? = some (.int .i64 rs[k].block) ∧ (recCells rs)[k * 3 + 2]? = some (.string rs[k].data)
  | [], k, h => by simp at h
  | r :: rs, 0, _ => by simp [recCells]
  | r :: rs, k + 1, h => by
    have ih := recCells_at rs k (by simpa using h)
    have e : recCells (r :: rs) = [.bool r.free, .int .i64 r.block, .string r.data] ++ recCells rs := by simp [recCells]
    rw [e]
    have e3 : ∀ i, ([Value.bool r.free, .int .i64 r.block, .string r.data] ++ recCells rs)[(k + 1) * 3 + i]? = (recCells rs)[k * 3 + i]? := by
      intro i
      rw [List.getElem?_append_right (by simp; omega)]
      congr 1
      simp; omega
    have e0 := e3 0
    simp only [Nat.add_zero] at e0
    rw [e0, e3 1, e3 2]
    simpa using ih
theorem recCells_one (rs : List Rc) : ∀ u ∈ recCells rs, u.oneCell' = true := by
  intro u hu
  simp only [recCells, List.mem_flatMap] at hu
  obtain ⟨r, _, hr⟩ := hu
  simp at hr
  rcases hr with rfl | rfl | rfl <;> rfl
/-- All cells of a slice of records. -/
theorem Recs.cells {B : Nat} {W : World} {b off l cap : Nat} {rs : List Rc} (h : Recs B W (.slice (some ⟨b, off, none⟩) l cap) rs) : ∀ j v, (recCells rs)[j]? = some v → W.cell? ⟨b, off + j, none⟩ = some v := by
  intro j v hj
  have hlt : j < rs.length * 3 := by rw [← recCells_length]; exact (List.getElem?_eq_some_iff.1 hj).1
  obtain ⟨b', off', e, _, q0, q1, q2⟩ := h.at (k := j / 3) (by omega)
  simp only [Option.some.injEq, Addr.mk.injEq] at e
  obtain ⟨rfl, rfl, _⟩ := e
  obtain ⟨p0, p1, p2⟩ := recCells_at rs (j / 3) (by omega)
  have hm : j % 3 = 0 ∨ j % 3 = 1 ∨ j % 3 = 2 := by omega
  rcases hm with hm | hm | hm
  · have e : j = j / 3 * 3 := by omega
    rw [e] at hj ⊢
    rw [p0] at hj; cases hj; exact q0
  · have e : j = j / 3 * 3 + 1 := by omega
    rw [e] at hj ⊢
    rw [p1] at hj; cases hj; exact q1
  · have e : j = j / 3 * 3 + 2 := by omega
    rw [e] at hj ⊢
    rw [p2] at hj; cases hj; exact q2

/-- 'copy(given, records)': into a row that is known whole. -/
theorem run_copy_recs (w : World) (ty : TypeId) (g dLen dCap : Nat) (sv : Value) (rs : List Rc) (cur : Array Value) (hg : w.heap[g]? = some (.cells cur 34 (0, 0))) (hR : Recs w.heap.size w sv rs) (hd : rs.length ≤ dLen) (hfit : rs.length * 3 ≤ cur.size) :
    (Builtin.copy_ #[22, 22] ty #[.slice (some ⟨g, 0, none⟩) dLen dCap, sv]).run Try.prog w = .ok (goInt rs.length) (w.setRow g (recCells rs ++ cur.toList.drop (rs.length * 3)).toArray) := by
  obtain ⟨i0, hi, hz0, hz1, hz2⟩ := info_parts Try.infoRec
  obtain ⟨a, cap, rfl⟩ := hR.slice
  have hst := run_storeCells_at Try.prog g 0 34 (recCells rs) 0 cur w hg (by rw [recCells_length]; omega) (recCells_one rs)
  have hl : (Builtin.firstCells 3 rs.length (.slice a rs.length cap)).run Try.prog w = .ok (recCells rs).toArray w := by
    cases rs with
    | nil =>
      cases a with
      | none => simp [Builtin.firstCells, recCells]
      | some ad => simp [Builtin.firstCells, recCells, loadCells, loadCellsFrom]
    | cons r rs' =>
      obtain ⟨b, off, e, _⟩ := hR.at (k := 0) (by simp)
      subst e
      have := run_loadCells_list (P := Try.prog) w ⟨b, off, none⟩ (recCells (r :: rs')) (fun j v hj => by
        rw [Addr.add_lit]; exact hR.cells j v hj)
      rw [recCells_length] at this
      simpa [Builtin.firstCells] using this
  have hm : min rs.length dLen = rs.length := Nat.min_eq_left hd
  simp only [Nat.add_zero, Nat.zero_add, List.take_zero, List.nil_append, recCells_length] at hst
  simp [Builtin.copy_, run_underlying Try.underlying22, Builtin.lenOf, sizeOf, typeInfo, hi, hz1, hm, hl, hst]

/-- Both Serializes answer one and the same, whatever slice holds the records. -/
theorem ser_both (f t b z : Int) (rs : List Rc) (hlen : rs.length ≤ 4611686018427387904) : ∃ (X : ByteArray) (E : Int),
    (∀ sv w, Recs w.heap.size w sv rs → Calls Try.prog 18 #[.agg #[.int .i64 f, .int .i64 t, .int .i64 b, .int .i64 z, sv]] w fun e w' => e = .returned (.tuple #[.string X, .int .i64 E]) ∧ Below w.heap.size w w') ∧
    (∀ sv w, Recs w.heap.size w sv rs → Calls Try.prog 19 #[.agg #[.int .i64 f, .int .i64 t, .int .i64 b, .int .i64 z, sv]] w fun e w' => e = .returned (.tuple #[.string X, .int .i64 E]) ∧ Below w.heap.size w w') := by
  cases h : (wellHead f t b z && recsOk b z (-1) rs) with
  | false => exact ⟨_, _, fun sv w hR => pser_bad f t b z sv rs w hR hlen h, fun sv w hR => ser_bad f t b z sv rs w hR hlen h⟩
  | true =>
    rw [Bool.and_eq_true] at h
    obtain ⟨h1, h2, h3, h4, h5, h6, h7, h8, h9⟩ : 0 ≤ f ∧ f ≤ 2147483647 ∧ 1 ≤ t ∧ t ≤ 2147483647 ∧ f ≠ t ∧ 1 ≤ b ∧ b ≤ 100 ∧ 1 ≤ z ∧ z ≤ 64 := of_decide_eq_true h.1
    obtain ⟨f, rfl⟩ := Int.eq_ofNat_of_zero_le h1
    obtain ⟨t, rfl⟩ := Int.eq_ofNat_of_zero_le (show 0 ≤ t by omega)
    obtain ⟨b, rfl⟩ := Int.eq_ofNat_of_zero_le (show 0 ≤ b by omega)
    obtain ⟨z, rfl⟩ := Int.eq_ofNat_of_zero_le (show 0 ≤ z by omega)
    exact ⟨_, _, fun sv w hR => pser_good f t b z sv rs w hR h.1 h.2, fun sv w hR => ser_good f t b z sv rs w hR h.1 h.2⟩

theorem below_dr (w : World) (n : Nat) : Below w.heap.size w (w.drewN n) := ⟨rfl, rfl, rfl, Nat.le_refl _, fun _ _ => rfl⟩
/-- A block that begins with records. -/
theorem Recs.of_block {W : World} {g : Nat} {cs : Array Value} {t : TypeId} {rs : List Rc} (h : W.heap[g]? = some (.cells cs t (0, 0))) (hc : ∀ j, j < rs.length * 3 → cs[j]? = (recCells rs)[j]?) (cap : Nat) : Recs W.heap.size W (.slice (some ⟨g, 0, none⟩) rs.length cap) rs := by
  refine .inr ⟨g, 0, cap, rfl, (Array.getElem?_eq_some_iff.1 h).1, fun j hj => ?_⟩
  obtain ⟨p0, p1, p2⟩ := recCells_at rs j hj
  refine ⟨boxed_cell h ?_, boxed_cell h ?_, boxed_cell h ?_⟩
  · rw [hc _ (by omega), Nat.zero_add]; exact p0
  · rw [hc _ (by omega), Nat.zero_add]; exact p1
  · rw [hc _ (by omega), Nat.zero_add]; exact p2


set_option maxRecDepth 100000 in
set_option maxHeartbeats 1000000 in
theorem writes_walk (f t b z : Int) (sv : Value) (rs : List Rc) (w : World) (hR : Recs w.heap.size w sv rs) (hlen : rs.length * 32 ≤ 140737488355328) :
    Calls Try.prog 4 #[.agg #[.int .i64 f, .int .i64 t, .int .i64 b, .int .i64 z, sv]] w fun e w' => e = .returned (.bool true) ∧ Below w.heap.size w w' := by
  obtain ⟨i0, hi, hz0, hz1, hz2⟩ := info_parts Try.infoRec
  obtain ⟨a, cap, rfl⟩ := hR.slice
  have hmk : ∀ W : World, (Instr.makeSlice 22 (.int .i64 (rs.length + 2)) (.int .i64 (rs.length + 2))).run Try.prog W = .ok (.slice (some ⟨W.heap.size, 0, none⟩) (rs.length + 2) (rs.length + 2)) (W.alloc (.cells (madeCells (Value.agg #[.bool false, .int .i64 0, .string ⟨#[]⟩]).cells ((rs.length + 2) * 3)) 34)) := by
    intro W
    have := run_make (P := Try.prog) W 22 34 i0 _ Try.underlying22 hi hz0 .i64 .i64 ((rs.length : Int) + 2) ((rs.length : Int) + 2) (by omega) (Int.le_refl _) (by rw [hz2]; omega) (by omega)
    rw [hz1, show ((rs.length : Int) + 2).toNat = rs.length + 2 from by omega] at this
    exact this
  obtain ⟨O, hO⟩ : ∃ O, O = Obj.cells #[.int .i64 f, .int .i64 t, .int .i64 b, .int .i64 z, .slice a rs.length cap] 24 := ⟨_, rfl⟩
  obtain ⟨M, hM⟩ : ∃ M, M = madeCells (Value.agg #[.bool false, .int .i64 0, .string ⟨#[]⟩]).cells ((rs.length + 2) * 3) := ⟨_, rfl⟩
  have hMs : M.size = (rs.length + 2) * 3 := by rw [hM]; exact size_madeCells _ _
  have hB1 : Below w.heap.size w ((w.alloc O).alloc (.cells M 34)) := ((Below.refl _ _).alloc (Nat.le_refl _) _).alloc (by simp) _
  have hG1 : ((w.alloc O).alloc (.cells M 34)).heap[w.heap.size + 1]? = some (.cells M 34 (0, 0)) := by
    have := World.alloc_heap_new (w.alloc O) (.cells M 34)
    rwa [World.size_alloc] at this
  have hS1 : ((w.alloc O).alloc (.cells M 34)).heap[w.heap.size]? = some O := (Below.heap_alloc _ _ _ (by simp)).trans (World.alloc_heap_new w O)
  have hcp := run_copy_recs ((w.alloc O).alloc (.cells M 34)) 3 (w.heap.size + 1) (rs.length + 2) (rs.length + 2) (.slice a rs.length cap) rs M hG1 (hR.moved hB1) (by omega) (by omega)
  obtain ⟨W2, hW2⟩ : ∃ W2, W2 = ((w.alloc O).alloc (.cells M 34)).setRow (w.heap.size + 1) (recCells rs ++ M.toList.drop (rs.length * 3)).toArray := ⟨_, rfl⟩
  have hG2 : W2.heap[w.heap.size + 1]? = some (.cells (recCells rs ++ M.toList.drop (rs.length * 3)).toArray 34 (0, 0)) := by
    rw [hW2]; exact setRow_heap _ _ _ _ _ _ hG1
  have hS2 : W2.heap[w.heap.size]? = some O := by
    rw [hW2]; exact (setRow_other _ _ _ _ (by omega)).trans hS1
  have hB2 : Below w.heap.size w W2 := by
    rw [hW2]; exact hB1.trans ⟨rfl, rfl, rfl, by simp [World.setRow], fun k hk => setRow_other _ _ _ _ (by omega)⟩
  have hs2 : W2.heap.size = w.heap.size + 2 := by rw [hW2]; simp [World.setRow]
  rw [← hW2] at hcp
  rw [← hM] at hmk
  have HM : Hid _ := hM
  clear hW2 hG1 hS1 hB1 hM
  rw [hO] at hcp
  have harr : (recCells rs ++ M.toList.drop (rs.length * 3)).toArray.size = (rs.length + 2) * 3 := by
    simp [recCells_length, hMs]; omega
  generalize hA : (recCells rs ++ M.toList.drop (rs.length * 3)).toArray = A at *
  have HA : Hid _ := hA
  clear hA
  obtain ⟨x1, u1⟩ : ∃ v, W2.cell? ⟨w.heap.size + 1, rs.length * 3 + 1, none⟩ = some v := ⟨_, boxed_cell hG2 (Array.getElem?_eq_getElem (by omega))⟩
  obtain ⟨x2, u2⟩ : ∃ v, W2.cell? ⟨w.heap.size + 1, (rs.length + 1) * 3 + 1, none⟩ = some v := ⟨_, boxed_cell hG2 (Array.getElem?_eq_getElem (by omega))⟩
  have hfr : ∀ o, W2.frozen? ⟨w.heap.size + 1, o, none⟩ = false := fun o => boxed_frozen hG2
  subst hO
  have s0 := boxed_cell (i := 0) hS2 rfl
  have s1 := boxed_cell (i := 1) hS2 rfl
  have s2 := boxed_cell (i := 2) hS2 rfl
  have s3 := boxed_cell (i := 3) hS2 rfl
  have s4 := boxed_cell (i := 4) hS2 rfl
  have hne : ¬ rs.length * 3 + 1 = (rs.length + 1) * 3 + 1 := by omega
  have HG2 : Hid _ := hG2
  have HS2 : Hid _ := hS2
  clear hG2 hS2
  have hnil := fun (x : Option Addr) (l c : Nat) (W : World) => Lib.run_eql_slice_nil (P := Try.prog) W 22 34 x l c 0 0 Try.underlying22
  obtain ⟨X, E, hP, hQ⟩ := ser_both f t b z rs (by omega)
  have HP : Hid _ := hP
  have HQ : Hid _ := hQ
  clear hP hQ
  -- what lies ahead of the first call
  obtain ⟨W3, hW3⟩ : ∃ W3, W3 = (W2.setCell ⟨w.heap.size + 1, rs.length * 3 + 1, none⟩ (.int .i64 77)).setCell ⟨w.heap.size + 1, (rs.length + 1) * 3 + 1, none⟩ (.int .i64 77) := ⟨_, rfl⟩
  have hG3 : W3.heap[w.heap.size + 1]? = some (.cells ((A.setIfInBounds (rs.length * 3 + 1) (.int .i64 77)).setIfInBounds ((rs.length + 1) * 3 + 1) (.int .i64 77)) 34 (0, 0)) := by
    rw [hW3]; exact block_set (block_set HG2.out _) _
  have hS3 : W3.heap[w.heap.size]? = some (.cells #[.int .i64 f, .int .i64 t, .int .i64 b, .int .i64 z, .slice a rs.length cap] 24 (0, 0)) := by
    rw [hW3]; exact (Below.heap_setCell _ _ _ _ (by simp)).trans ((Below.heap_setCell _ _ _ _ (by simp)).trans HS2.out)
  have hB3 : Below w.heap.size w W3 := by
    rw [hW3]; exact (hB2.setCell (p := ⟨w.heap.size + 1, rs.length * 3 + 1, none⟩) (by simp) _).setCell (p := ⟨w.heap.size + 1, (rs.length + 1) * 3 + 1, none⟩) (by simp) _
  have hs3 : W3.heap.size = w.heap.size + 2 := by
    rw [hW3]
    simp only [World.size_setCell]
    exact hs2
  have hRG : Recs W3.heap.size W3 (.slice (some ⟨w.heap.size + 1, 0, none⟩) rs.length (rs.length + 2)) rs := by
    refine Recs.of_block hG3 (fun j hj => ?_) _
    rw [Array.getElem?_setIfInBounds_ne (by omega), Array.getElem?_setIfInBounds_ne (by omega), ← HA.out]
    rw [List.getElem?_toArray, List.getElem?_append_left (by rw [recCells_length]; exact hj)]
  have hz1 : ((A.setIfInBounds (rs.length * 3 + 1) (.int .i64 77)).setIfInBounds ((rs.length + 1) * 3 + 1) (.int .i64 77))[rs.length * 3 + 1]? = some (.int .i64 77) := by
    rw [Array.getElem?_setIfInBounds_ne (by omega), Array.getElem?_setIfInBounds, if_pos rfl, if_pos (by omega)]
  have hz2 : ((A.setIfInBounds (rs.length * 3 + 1) (.int .i64 77)).setIfInBounds ((rs.length + 1) * 3 + 1) (.int .i64 77))[(rs.length + 1) * 3 + 1]? = some (.int .i64 77) := by
    rw [Array.getElem?_setIfInBounds, if_pos rfl, if_pos (by rw [Array.size_setIfInBounds]; omega)]
  have hRs : Recs W3.heap.size W3 (.slice a rs.length cap) rs := hR.moved hB3
  have HG3 : Hid _ := hG3
  have HS3 : Hid _ := hS3
  have HRG : Hid _ := hRG
  have HRs : Hid _ := hRs
  clear hG3 hS3 hRG hRs HG2 HS2 HA HM
  cases a with
  | none =>
    have HN : Hid (rs = []) := by
      rcases hR with ⟨h0, _⟩ | ⟨b', off', cap', e, _⟩
      · exact h0
      · simp only [Value.slice.injEq] at e; cases e.1
    go_enter Try.func4, Try.ntmps4
    go_wp2_with fail
    rw [← hW3]
    clear hmk hcp u1 u2 hfr s0 s1 s2 s3 s4 hW3 hs2 hB2 hnil
    refine (HP.out _ _ ?hrt).mono ?_
    case hrt => exact .inl ⟨HN.out, none, 0, rfl⟩
    rintro e w4 ⟨rfl, hb4⟩
    replace hb4 : Below W3.heap.size W3 w4 := ((Below.refl _ _).alloc (Nat.le_refl _) _).trans (hb4.mono (by simp))
    have s0 := boxed_cell (i := 0) (v := .int .i64 f) ((hb4.block _ (by omega)).trans HS3.out) rfl
    have s1 := boxed_cell (i := 1) (v := .int .i64 t) ((hb4.block _ (by omega)).trans HS3.out) rfl
    have s2 := boxed_cell (i := 2) (v := .int .i64 b) ((hb4.block _ (by omega)).trans HS3.out) rfl
    have s3 := boxed_cell (i := 3) (v := .int .i64 z) ((hb4.block _ (by omega)).trans HS3.out) rfl
    have s4 := boxed_cell (i := 4) (v := .slice none rs.length cap) ((hb4.block _ (by omega)).trans HS3.out) rfl
    go_wp2_with fail
    refine (HQ.out _ _ ?hrt).mono ?_
    case hrt => exact Recs.moved HRs.out hb4
    rintro e w5 ⟨rfl, hb5⟩
    replace hb5 : Below W3.heap.size W3 w5 := hb4.trans (hb5.mono hb4.size)
    clear s0 s1 s2 s3 s4 hb4
    have s4 := boxed_cell (i := 4) (v := .slice none rs.length cap) ((hb5.block _ (by omega)).trans HS3.out) rfl
    have g1 := boxed_cell ((hb5.block _ (by omega)).trans HG3.out) hz1
    have g2 := boxed_cell ((hb5.block _ (by omega)).trans HG3.out) hz2
    have HR1 : Hid _ := Recs.moved HRG.out hb5
    have HR2 : Hid _ := Recs.moved HRs.out hb5
    have HBe : Hid _ := hB3.trans (hb5.mono hB3.size)
    go_wp2
    go_quiet ((go_at_call 20; exact Calls.quiet_of (same_any _ _ rs _ (Recs.moved HR1.out (below_dr _ _)) (Recs.moved HR2.out (below_dr _ _)) (by omega))))
    go_wp2
    go_ret
    exact ⟨rfl, HBe.out.trans ((below_dr w5 _).mono (HBe.out.size))⟩
  | some ad =>
    go_enter Try.func4, Try.ntmps4
    go_wp2_with fail
    rw [← hW3]
    clear hmk hcp u1 u2 hfr s0 s1 s2 s3 s4 hW3 hs2 hB2 hnil
    refine (HP.out _ _ ?hrt).mono ?_
    case hrt => exact Recs.moved HRG.out ((Below.refl _ _).alloc (Nat.le_refl _) _)
    rintro e w4 ⟨rfl, hb4⟩
    replace hb4 : Below W3.heap.size W3 w4 := ((Below.refl _ _).alloc (Nat.le_refl _) _).trans (hb4.mono (by simp))
    have s0 := boxed_cell (i := 0) (v := .int .i64 f) ((hb4.block _ (by omega)).trans HS3.out) rfl
    have s1 := boxed_cell (i := 1) (v := .int .i64 t) ((hb4.block _ (by omega)).trans HS3.out) rfl
    have s2 := boxed_cell (i := 2) (v := .int .i64 b) ((hb4.block _ (by omega)).trans HS3.out) rfl
    have s3 := boxed_cell (i := 3) (v := .int .i64 z) ((hb4.block _ (by omega)).trans HS3.out) rfl
    have s4 := boxed_cell (i := 4) (v := .slice (some ad) rs.length cap) ((hb4.block _ (by omega)).trans HS3.out) rfl
    go_wp2_with fail
    refine (HQ.out _ _ ?hrt).mono ?_
    case hrt => exact Recs.moved HRs.out hb4
    rintro e w5 ⟨rfl, hb5⟩
    replace hb5 : Below W3.heap.size W3 w5 := hb4.trans (hb5.mono hb4.size)
    clear s0 s1 s2 s3 s4 hb4
    have s4 := boxed_cell (i := 4) (v := .slice (some ad) rs.length cap) ((hb5.block _ (by omega)).trans HS3.out) rfl
    have g1 := boxed_cell ((hb5.block _ (by omega)).trans HG3.out) hz1
    have g2 := boxed_cell ((hb5.block _ (by omega)).trans HG3.out) hz2
    have HR1 : Hid _ := Recs.moved HRG.out hb5
    have HR2 : Hid _ := Recs.moved HRs.out hb5
    have HBe : Hid _ := hB3.trans (hb5.mono hB3.size)
    go_wp2
    go_quiet ((go_at_call 20; exact Calls.quiet_of (same_any _ _ rs _ (Recs.moved HR1.out (below_dr _ _)) (Recs.moved HR2.out (below_dr _ _)) (by omega))))
    go_wp2
    go_ret
    exact ⟨rfl, HBe.out.trans ((below_dr w5 _).mono (HBe.out.size))⟩
end Go.Proofs.Ytdjmhagclcfnfaa
