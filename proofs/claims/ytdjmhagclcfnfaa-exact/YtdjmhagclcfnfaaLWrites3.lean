/- The statement on Writes. -/
import Derived.Test.YtdjmhagclcfnfaaLWrites2
import Derived.ProofKit
import Derived.SizedLaws
import Derived.Deep.Slices
import Derived.Deep.Strs
import Derived.Lib.SmallJoins
namespace Go.Proofs.Ytdjmhagclcfnfaa
open Go.ChangeShapes Go.WideShapes Go.ChangeAt Go.RowKit

theorem Try.own : ownKnob Try.prog.godebug = none := by kernel_rfl
theorem Try.laidOut : laidOutB Try.prog = true := by kernel_rfl
theorem Try.cellsStream : Try.prog.cellsOf 24 = 5 := by kernel_rfl
theorem Try.cellsRecord : Try.prog.cellsOf 34 = 3 := by kernel_rfl
theorem Try.cellsRecords : Try.prog.cellsOf 22 = 1 := by kernel_rfl
theorem Try.cellsInt : Try.prog.cellsOf 3 = 1 := by kernel_rfl
theorem Try.cellsBool : Try.prog.cellsOf 4 = 1 := by kernel_rfl
theorem Try.cellsString : Try.prog.cellsOf 9 = 1 := by kernel_rfl
theorem Try.bytesRecord : Try.prog.bytesOf 34 = 32 := by kernel_rfl

theorem list3 {α : Type} : ∀ {l : List α}, l.length = 3 → ∃ a b c, l = [a, b, c]
  | [a, b, c], _ => ⟨a, b, c, rfl⟩
theorem list5 {α : Type} : ∀ {l : List α}, l.length = 5 → ∃ a b c d e, l = [a, b, c, d, e]
  | [a, b, c, d, e], _ => ⟨a, b, c, d, e, rfl⟩

/-- A slice of records, opened. -/
theorem open_recs {H : Type} {enc : TypeId × Value → H} {W : World} {fuel : Nat} {v : Value} {x : DataW H × List MemPlace} (h : DataW.trod enc Try.prog W 0 (fun _ => true) true fuel 22 [v] = some x) :
    ∃ rs : List Rc, Recs W.heap.size W v rs ∧ ((v = .slice none 0 0 ∧ x.1 = .nil) ∨ ∃ a cap el sp, v = .slice (some a) rs.length cap ∧ x.1 = .slice el sp ∧ el.length = rs.length) := by
  rcases Deep.open_slice Try.underlying22 h with ⟨e, hx⟩ | ⟨a, len, cap, m, n, D, Pl, e, hb, hl, hm, hmm, rfl, hx⟩
  · simp at e
    exact ⟨[], .inl ⟨rfl, none, 0, e⟩, .inl ⟨e, by rw [hx]⟩⟩
  · simp at e
    subst e
    simp only [if_true] at hmm
    subst hmm
    have each : ∀ i, i < len → ∃ r : Rc, W.cell? (a.add (i * 3)) = some (.bool r.free) ∧ W.cell? (a.add (i * 3 + 1)) = some (.int .i64 r.block) ∧ W.cell? (a.add (i * 3 + 2)) = some (.string r.data) := by
      intro i hi
      obtain ⟨cs', h1, h2⟩ := hx i (by omega)
      rw [Try.cellsRecord] at h1
      obtain ⟨_, hlen, hcell⟩ := World.cells?_some h1
      obtain ⟨y0, y1, y2, k, _, _, g0, g1, g2⟩ := Deep.trod_struct3 Try.underlying34 h2
      obtain ⟨v0, v1, v2, rfl⟩ := list3 hlen
      simp only [Try.cellsBool, Try.cellsInt, Try.cellsString, List.drop_zero, List.drop_succ_cons, List.take_succ_cons, List.take_zero] at g0 g1 g2
      obtain ⟨b0, e0, _⟩ := DataW.trod_bool Try.underlying4 g0
      obtain ⟨n1, e1, _⟩ := DataW.trod_int Try.underlying3 g1
      obtain ⟨s2, e2, _⟩ := DataW.trod_string Try.underlying9 g2
      simp at e0 e1 e2
      subst e0 e1 e2
      have c0 := hcell 0 (by omega)
      have c1 := hcell 1 (by omega)
      have c2 := hcell 2 (by omega)
      rw [Deep.add_add] at c0 c1 c2
      exact ⟨⟨b0, n1, s2⟩, by simpa using c0, by simpa using c1, by simpa using c2⟩
    obtain ⟨rs, hrl, hrs⟩ : ∃ rs : List Rc, rs.length = len ∧ ∀ i (h : i < rs.length), W.cell? (a.add (i * 3)) = some (.bool rs[i].free) ∧ W.cell? (a.add (i * 3 + 1)) = some (.int .i64 rs[i].block) ∧ W.cell? (a.add (i * 3 + 2)) = some (.string rs[i].data) := by
      obtain ⟨f, hf⟩ : ∃ f : Nat → Rc, ∀ i, i < len → W.cell? (a.add (i * 3)) = some (.bool (f i).free) ∧ W.cell? (a.add (i * 3 + 1)) = some (.int .i64 (f i).block) ∧ W.cell? (a.add (i * 3 + 2)) = some (.string (f i).data) :=
        ⟨fun i => if h : i < len then Classical.choose (each i h) else ⟨false, 0, ByteArray.empty⟩, fun i hi => by simp only [dif_pos hi]; exact Classical.choose_spec (each i hi)⟩
      exact ⟨(List.range len).map f, by simp, fun i hi => by simpa using hf i (by simpa using hi)⟩
    subst hrl
    refine ⟨rs, ?_, .inr ⟨a, m, _, _, rfl, rfl, by simp⟩⟩
    cases hr0 : rs with
    | nil => exact .inl ⟨rfl, some a, m, rfl⟩
    | cons r rs' =>
      rw [← hr0]
      have hpos : 0 < rs.length := by rw [hr0]; simp
      obtain ⟨b, off, spot⟩ := a
      have hspot : spot = none := by
        have := World.cell?_spot (hrs 0 hpos).1
        simpa [Addr.add] using this
      subst hspot
      refine .inr ⟨b, off, m, rfl, ?_, fun j hj => ?_⟩
      · exact World.block_lt_of_cell? W _ (hrs 0 hpos).1
      · have := hrs j hj
        simpa only [Addr.add_lit, Nat.add_assoc] using this

set_option maxRecDepth 100000 in
/-- A stream, opened. -/
theorem open_stream {H : Type} {enc : TypeId × Value → H} {W : World} {base : Nat} {v : Value} {d : DataW H} {p : List MemPlace} (hv : Value.okWide Try.prog W .any base 24 v) (h : DataW.Trod enc Try.prog W 0 (fun _ => true) true 24 v d p) :
    ∃ (f t b z : Int) (sv : Value) (rs : List Rc), v = .agg #[.int .i64 f, .int .i64 t, .int .i64 b, .int .i64 z, sv] ∧ Recs W.heap.size W sv rs ∧
      ((rs = []) ∨ ∃ d0 d1 d2 d3 el sp, d = .agg [d0, d1, d2, d3, .slice el sp] ∧ el.length = rs.length) := by
  obtain ⟨cs, rfl, hsz⟩ := okWide_struct Try.underlying24 hv
  obtain ⟨fuel, hf⟩ := h
  obtain ⟨xs, n, _, hx, hl, hlen, hfs⟩ := DataW.trod_struct Try.underlying24 hf
  obtain ⟨c0, c1, c2, c3, c4, hcs⟩ := list5 (show cs.toList.length = 5 by rw [← Try.cellsStream]; exact hsz)
  obtain ⟨y0, y1, y2, y3, y4, rfl⟩ := list5 hlen
  obtain rfl : cs = #[c0, c1, c2, c3, c4] := by rw [← hcs]
  have g0 : DataW.trod enc Try.prog W 0 (fun _ => true) true n 3 [c0] = some y0 := by
    have h : DataW.trod enc Try.prog W 0 (fun _ => true) true n 3 (([c0, c1, c2, c3, c4].drop 0).take (Try.prog.cellsOf 3)) = some y0 := hfs 0 _ rfl
    rw [Try.cellsInt] at h
    exact h
  have g1 : DataW.trod enc Try.prog W 0 (fun _ => true) true n 3 [c1] = some y1 := by
    have h : DataW.trod enc Try.prog W 0 (fun _ => true) true n 3 (([c0, c1, c2, c3, c4].drop 1).take (Try.prog.cellsOf 3)) = some y1 := hfs 1 _ rfl
    rw [Try.cellsInt] at h
    exact h
  have g2 : DataW.trod enc Try.prog W 0 (fun _ => true) true n 3 [c2] = some y2 := by
    have h : DataW.trod enc Try.prog W 0 (fun _ => true) true n 3 (([c0, c1, c2, c3, c4].drop 2).take (Try.prog.cellsOf 3)) = some y2 := hfs 2 _ rfl
    rw [Try.cellsInt] at h
    exact h
  have g3 : DataW.trod enc Try.prog W 0 (fun _ => true) true n 3 [c3] = some y3 := by
    have h : DataW.trod enc Try.prog W 0 (fun _ => true) true n 3 (([c0, c1, c2, c3, c4].drop 3).take (Try.prog.cellsOf 3)) = some y3 := hfs 3 _ rfl
    rw [Try.cellsInt] at h
    exact h
  have g4 : DataW.trod enc Try.prog W 0 (fun _ => true) true n 22 [c4] = some y4 := by
    have h : DataW.trod enc Try.prog W 0 (fun _ => true) true n 22 (([c0, c1, c2, c3, c4].drop 4).take (Try.prog.cellsOf 22)) = some y4 := hfs 4 _ rfl
    rw [Try.cellsRecords] at h
    exact h
  obtain ⟨f, e0, _⟩ := DataW.trod_int Try.underlying3 g0
  obtain ⟨t, e1, _⟩ := DataW.trod_int Try.underlying3 g1
  obtain ⟨b, e2, _⟩ := DataW.trod_int Try.underlying3 g2
  obtain ⟨z, e3, _⟩ := DataW.trod_int Try.underlying3 g3
  simp at e0 e1 e2 e3
  subst e0 e1 e2 e3
  obtain ⟨rs, hR, hsh⟩ := open_recs g4
  refine ⟨f, t, b, z, c4, rs, rfl, hR, ?_⟩
  simp only [Prod.mk.injEq] at hx
  rcases hsh with ⟨e, _⟩ | ⟨a, cap, el, sp, _, e, hel⟩
  · left
    subst e
    rcases hR with ⟨h0, _⟩ | ⟨_, _, _, e, _⟩
    · exact h0
    · cases e
  · right
    refine ⟨y0.1, y1.1, y2.1, y3.1, el, sp, ?_, hel⟩
    rw [hx.1]
    simp [e]

set_option maxRecDepth 100000 in
theorem writes_lifted (os : Os) (started : os.Started) (H : Type) (enc : TypeId × Value → H) :
    ReturnsInHanded {} Try.checked os 4 .any (Rows.writesSpec.pre6 enc Try.prog Try.f4 Rows.writesRow.domain false) (Rows.writesSpec.post enc Try.prog Try.f4 false true false false) := by
  refine returnsInHanded_of_change_sized (C := Try.checked) Try.own started (by kernel_rfl) Try.func4
    (ChangeSpec.witness6 (enc := enc) (C := Try.checked) false ⟨#[], #[.agg #[.int .i64 0, .int .i64 0, .int .i64 0, .int .i64 0, .slice none 0 0]], []⟩ 8 (by kernel_rfl) (by kernel_rfl) (by kernel_rfl) (by kernel_rfl)) ?_
  intro W base args ds gs before hval0 hW _ hsz0 _
  have hsz : (DataW.weightsEach Try.prog (Try.f4.params.toList ++ Rows.writesSpec.plain.varTypes Try.prog) (ds ++ gs)).all (· ≤ reachBytes) = true := hsz0
  clear hsz0
  have hval : ∀ (j : Nat) t v, Try.f4.params[j]? = some t → args[j]? = some v → Value.okWide Try.prog W .any base t v := hval0
  have hW' := hW
  obtain ⟨p, q, hA0, hV, rfl, _, _⟩ := hW
  have hA : DataW.TrodAll enc Try.prog W 0 (fun _ => true) true Try.f4.params.toList args.toList ds p := hA0
  rw [Try.params4] at hA hval hsz
  obtain ⟨v0, vs0, d0, ds0, p0, q0, hargs, rfl, rfl, h0, r0⟩ := trodAll_cons hA
  obtain ⟨rfl, rfl, rfl⟩ := trodAll_nil r0
  obtain rfl : args = #[v0] := by cases args; simp_all
  obtain ⟨rfl, rfl⟩ := trodVars_none hV
  clear hA0 hval0
  simp only [List.append_nil] at hW'
  have hlt : ∀ x ∈ p0, x.block < W.heap.size := fun x hx => by simpa using hW'.lt x hx
  have h0k := h0
  obtain ⟨f, t, b, z, sv, rs, rfl, hR, hsh⟩ := open_stream (hval 0 24 v0 rfl rfl) h0
  have hlen : rs.length * 32 ≤ 140737488355328 := by
    rcases hsh with rfl | ⟨e0, e1, e2, e3, el, sp, rfl, hel⟩
    · simp
    · have h1 : (el.length + sp.length) * Try.prog.bytesOf 34 ∈ (DataW.slice el sp).weights Try.prog 22 := by simp [DataW.weights, Try.underlying22]
      have h2 := DataW.weights_mem_each (P := Try.prog) (ts := [3, 3, 3, 3, 22]) (ds := [e0, e1, e2, e3, .slice el sp]) (j := 4) rfl rfl _ h1
      have h3 : (el.length + sp.length) * Try.prog.bytesOf 34 ∈ (DataW.agg [e0, e1, e2, e3, .slice el sp]).weights Try.prog 24 := by
        simp only [DataW.weights, Try.underlying24]
        exact h2
      have h4 := DataW.weights_mem_each (P := Try.prog) (j := 0) (ts := [24] ++ Rows.writesSpec.plain.varTypes Try.prog) (ds := [.agg [e0, e1, e2, e3, .slice el sp]] ++ []) rfl rfl _ h3
      have h5 := of_decide_eq_true (List.all_eq_true.1 hsz _ h4)
      rw [Try.bytesRecord] at h5
      simp only [reachBytes] at h5
      omega
  refine (writes_walk f t b z sv rs W hR hlen).mono fun e W' ⟨he, hb⟩ => ?_
  subst he
  refine ⟨_, rfl, _, _, _, [], p0 ++ [], [], hW', ?_, ?_, rfl, hb.frame _, fun h => by cases h⟩
  · exact trodAll_cons_mk (shut_bool Try.underlying4 _) trodAll_mk0
  · exact trodAll_cons_mk (Below.trod Try.laidOut (by kernel_rfl) (of_decide_eq_true (by kernel_rfl)) h0k hb hlt) trodAll_mk0

theorem writes_holds : Rows.WritesSaid :=
  OpenClaim.holds_of_wide 4 Try.f4 rfl rfl rfl rfl rfl rfl rfl ⟨rfl, rfl, rfl, rfl, rfl⟩ rfl rfl rfl rfl rfl (by kernel_rfl) Try.func4 (by kernel_rfl)
    (of_decide_eq_true (by kernel_rfl)) (by unfold Func.isWrapper; first | (rw [if_pos (by decide +kernel)]; kernel_rfl) | (rw [if_neg (by decide +kernel)]; exact ⟨rfl, rfl⟩))
    (fun os started H enc _ => writes_lifted os started H enc)
end Go.Proofs.Ytdjmhagclcfnfaa
