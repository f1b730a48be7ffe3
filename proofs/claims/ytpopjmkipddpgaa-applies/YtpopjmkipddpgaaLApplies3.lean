/- The statement on Applies. -/
import Derived.Test.YtpopjmkipddpgaaLApplies2
namespace Go.Proofs.Ytpopjmkipddpgaa
open Go.ChangeShapes Go.WideShapes Go.ChangeAt Go.RowKit
open Go.ChangeMaps (open_string shut_string)

theorem Try.cellsCell : Try.prog.cellsOf 41 = 2 := by kernel_rfl
theorem Try.bytesCell : Try.prog.bytesOf 41 = 24 := by kernel_rfl
theorem list2 {α : Type} : ∀ {l : List α}, l.length = 2 → ∃ a b, l = [a, b]
  | [a, b], _ => ⟨a, b, rfl⟩

set_option maxRecDepth 100000 in
/-- A slice of blocks, opened. -/
theorem open_cls {H : Type} {enc : TypeId × Value → H} {W : World} {base : Nat} {v : Value} {d : DataW H} {p : List MemPlace} (hv : Value.okWide Try.prog W .any base 39 v) (h : DataW.Trod enc Try.prog W 0 (fun _ => true) true 39 v d p) :
    ∃ cs : List Cl, Cls W.heap.size W v cs ∧ (cs = [] ∨ ∃ el sp, d = .slice el sp ∧ el.length = cs.length) := by
  obtain ⟨a0, len0, cap0, rfl⟩ := okWide_slice Try.underlying39 hv
  obtain ⟨fuel, hf⟩ := h
  rcases Deep.open_slice Try.underlying39 hf with ⟨e, hx⟩ | ⟨a, len, cap, m, n, D, Pl, e, hb, hl, hm, hmm, hd, hx⟩
  · simp [Value.cells] at e
    obtain ⟨rfl, rfl, rfl⟩ := e
    exact ⟨[], .inl ⟨rfl, none, 0, rfl⟩, .inl rfl⟩
  · simp [Value.cells] at e
    obtain ⟨rfl, rfl, rfl⟩ := e
    simp only [if_true] at hmm
    subst hmm
    have each : ∀ i, i < len0 → ∃ r : Cl, W.cell? (a.add (i * 2)) = some (.bool r.held) ∧ W.cell? (a.add (i * 2 + 1)) = some (.string r.data) := by
      intro i hi
      obtain ⟨cs', h1, h2⟩ := hx i (by omega)
      rw [Try.cellsCell] at h1
      obtain ⟨_, hlen, hcell⟩ := World.cells?_some h1
      obtain ⟨xs2, k, _, _, _, hl2, hf2⟩ := DataW.trod_struct Try.underlying41 h2
      obtain ⟨y0, y1, rfl⟩ := list2 hl2
      obtain ⟨v0, v1, rfl⟩ := list2 hlen
      have g0 : DataW.trod enc Try.prog W 0 (fun _ => true) true k 4 [v0] = some y0 := by
        have h : DataW.trod enc Try.prog W 0 (fun _ => true) true k 4 (([v0, v1].drop 0).take (Try.prog.cellsOf 4)) = some y0 := hf2 0 _ rfl
        rw [Try.cellsBool] at h
        exact h
      have g1 : DataW.trod enc Try.prog W 0 (fun _ => true) true k 9 [v1] = some y1 := by
        have h : DataW.trod enc Try.prog W 0 (fun _ => true) true k 9 (([v0, v1].drop 1).take (Try.prog.cellsOf 9)) = some y1 := hf2 1 _ rfl
        rw [Try.cellsString] at h
        exact h
      obtain ⟨b0, e0, _⟩ := DataW.trod_bool Try.underlying4 g0
      obtain ⟨s1, e1, _⟩ := DataW.trod_string Try.underlying9 g1
      simp at e0 e1
      subst e0 e1
      have c0 := hcell 0 (by omega)
      have c1 := hcell 1 (by omega)
      rw [Deep.add_add] at c0 c1
      exact ⟨⟨b0, s1⟩, by simpa using c0, by simpa using c1⟩
    obtain ⟨cs, hrl, hrs⟩ : ∃ cs : List Cl, cs.length = len0 ∧ ∀ i (h : i < cs.length), W.cell? (a.add (i * 2)) = some (.bool cs[i].held) ∧ W.cell? (a.add (i * 2 + 1)) = some (.string cs[i].data) := by
      obtain ⟨f, hf⟩ : ∃ f : Nat → Cl, ∀ i, i < len0 → W.cell? (a.add (i * 2)) = some (.bool (f i).held) ∧ W.cell? (a.add (i * 2 + 1)) = some (.string (f i).data) :=
        ⟨fun i => if h : i < len0 then Classical.choose (each i h) else ⟨false, ByteArray.empty⟩, fun i hi => by simp only [dif_pos hi]; exact Classical.choose_spec (each i hi)⟩
      exact ⟨(List.range len0).map f, by simp, fun i hi => by simpa using hf i (by simpa using hi)⟩
    subst hrl
    refine ⟨cs, ?_, .inr ⟨_, _, congrArg Prod.fst hd, by simp⟩⟩
    cases hr0 : cs with
    | nil => exact .inl ⟨rfl, some a, _, rfl⟩
    | cons r cs' =>
      rw [← hr0]
      have hpos : 0 < cs.length := by rw [hr0]; simp
      obtain ⟨b, off, spot⟩ := a
      have hspot : spot = none := by
        have := World.cell?_spot (hrs 0 hpos).1
        simpa [Addr.add] using this
      subst hspot
      refine .inr ⟨b, off, _, rfl, ?_, fun j hj => ?_⟩
      · exact World.block_lt_of_cell? W _ (hrs 0 hpos).1
      · have := hrs j hj
        simpa only [Addr.add_lit, Nat.add_assoc] using this

set_option maxRecDepth 100000 in
theorem applies_lifted (os : Os) (started : os.Started) (H : Type) (enc : TypeId × Value → H) :
    ReturnsInHanded {} Try.checked os 5 .any (Rows.appliesSpec.pre6 enc Try.prog Try.f5 Rows.appliesRow.domain false) (Rows.appliesSpec.post enc Try.prog Try.f5 false true false false) := by
  refine returnsInHanded_of_change_sized (C := Try.checked) Try.own started (by kernel_rfl) Try.func5
    (ChangeSpec.witness6 (enc := enc) (C := Try.checked) false ⟨#[], #[.string ByteArray.empty, .slice none 0 0], []⟩ 8 (by kernel_rfl) (by kernel_rfl) (by kernel_rfl) (by kernel_rfl)) ?_
  intro W base args ds gs before hval0 hW _ hsz0 _
  have hsz : (DataW.weightsEach Try.prog (Try.f5.params.toList ++ Rows.appliesSpec.plain.varTypes Try.prog) (ds ++ gs)).all (· ≤ reachBytes) = true := hsz0
  clear hsz0
  have hval : ∀ (j : Nat) t v, Try.f5.params[j]? = some t → args[j]? = some v → Value.okWide Try.prog W .any base t v := hval0
  have hW' := hW
  obtain ⟨p, q, hA0, hV, rfl, _, _⟩ := hW
  have hA : DataW.TrodAll enc Try.prog W 0 (fun _ => true) true Try.f5.params.toList args.toList ds p := hA0
  rw [Try.params5] at hA hval hsz
  obtain ⟨v0, vs0, d0, ds0, p0, q0, hargs, rfl, rfl, h0, r0⟩ := trodAll_cons hA
  obtain ⟨v1, vs1, d1, ds1, p1, q1, rfl, rfl, rfl, h1, r1⟩ := trodAll_cons r0
  obtain ⟨rfl, rfl, rfl⟩ := trodAll_nil r1
  obtain rfl : args = #[v0, v1] := by cases args; simp_all
  obtain ⟨rfl, rfl⟩ := trodVars_none hV
  obtain ⟨a0, rfl, rfl, rfl, w0⟩ := open_string Try.underlying9 (hval 0 9 v0 rfl rfl) h0
  obtain ⟨cs, hcs, hsh⟩ := open_cls (hval 1 39 v1 rfl rfl) h1
  clear hA0 hval0
  simp only [List.append_nil] at hW'
  have hlt : ∀ x ∈ p1, x.block < W.heap.size := fun x hx => by simpa using hW'.lt x (by simp [hx])
  have hlen : a0.data.toList.length ≤ 4611686018427387904 := by
    have h4 := DataW.weights_mem_each (H := H) (P := Try.prog) (j := 0) (ts := [9, 39] ++ Rows.appliesSpec.plain.varTypes Try.prog) (ds := [.lit (.string a0.data.toList), d1] ++ []) rfl rfl a0.data.toList.length (by simp [DataW.weights])
    have h5 := of_decide_eq_true (List.all_eq_true.1 hsz _ h4)
    simp only [reachBytes] at h5
    omega
  have hlen2 : cs.length * 24 ≤ 140737488355328 := by
    rcases hsh with rfl | ⟨el, sp, rfl, hel⟩
    · simp
    · have hm1 : (el.length + sp.length) * Try.prog.bytesOf 41 ∈ (DataW.slice el sp).weights Try.prog 39 := by simp [DataW.weights, Try.underlying39]
      have h4 := DataW.weights_mem_each (H := H) (P := Try.prog) (j := 1) (ts := [9, 39] ++ Rows.appliesSpec.plain.varTypes Try.prog) (ds := [.lit (.string a0.data.toList), .slice el sp] ++ []) rfl rfl _ hm1
      have h5 := of_decide_eq_true (List.all_eq_true.1 hsz _ h4)
      rw [Try.bytesCell] at h5
      simp only [reachBytes] at h5
      omega
  have hwalk := applies_walk a0.data.toList v1 cs W hlen hcs hlen2
  rw [show (⟨a0.data.toList.toArray⟩ : ByteArray) = a0 from rfl] at hwalk
  refine hwalk.mono fun e W' ⟨he, hg⟩ => ?_
  subst he
  have hb := below_of_grown hg
  refine ⟨_, rfl, _, _, _, [], [] ++ (p1 ++ []), [], hW', ?_, ?_, rfl, hb.frame _, fun h => by cases h⟩
  · exact trodAll_cons_mk (shut_bool Try.underlying4 _) trodAll_mk0
  · exact trodAll_cons_mk (shut_string Try.underlying9 w0) (trodAll_cons_mk (Below.trod Try.laidOut (by kernel_rfl) (of_decide_eq_true (by kernel_rfl)) h1 hb hlt) trodAll_mk0)

theorem applies_holds : Rows.AppliesSaid :=
  OpenClaim.holds_of_wide 5 Try.f5 rfl rfl rfl rfl rfl rfl rfl ⟨rfl, rfl, rfl, rfl, rfl⟩ rfl rfl rfl rfl rfl (by kernel_rfl) Try.func5 (by kernel_rfl)
    (of_decide_eq_true (by kernel_rfl)) (by unfold Func.isWrapper; first | (rw [if_pos (by decide +kernel)]; kernel_rfl) | (rw [if_neg (by decide +kernel)]; exact ⟨rfl, rfl⟩))
    (fun os started H enc _ => applies_lifted os started H enc)
end Go.Proofs.Ytpopjmkipddpgaa
