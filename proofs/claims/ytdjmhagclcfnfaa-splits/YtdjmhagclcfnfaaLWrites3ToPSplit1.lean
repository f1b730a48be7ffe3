/- LWrites3, LExact2, Tx, KPick, KInts, PSplit1 -/
import Derived.Test.YtdjmhagclcfnfaaLWrites2
import Derived.ProofKit
import Derived.SizedLaws
import Derived.Deep.Slices
import Derived.Deep.Strs
import Derived.Lib.SmallJoins
import Derived.Test.YtdjmhagclcfnfaaLExact
import Derived.OpenShut
import Derived.ShutString
import Derived.Deep.AppendLies
import Derived.Test.YtdjmhagclcfnfaaLOwn
import Derived.Deep.RegionLaw
import Derived.Test.YtdjmhagclcfnfaaPRead
import Derived.ChangeSlices
import Derived.Test.YtdjmhagclcfnfaaPFace
import Derived.Test.YtdjmhagclcfnfaaPWrite2
import Derived.Test.YtdjmhagclcfnfaaSplitM
import Derived.Shelf.RegionOpen
/- The statement on Writes. -/
namespace Go.Proofs.Ytdjmhagclcfnfaa
open Go.ChangeShapes Go.WideShapes Go.ChangeAt Go.RowKit

theorem Try.own : ownKnob Try.prog.godebug = none := by kernel_rfl
theorem Try.laidOut : laidOutB Try.prog = true := by kernel_rfl
theorem Try.cellsStream : Try.prog.cellsOf 24 = 5 := by kernel_rfl
theorem Try.cellsRecord : Try.prog.cellsOf 34 = 3 := by kernel_rfl
theorem Try.cellsRecords : Try.prog.cellsOf 22 = 1 := by kernel_rfl
theorem Try.cellsInt : Try.prog.cellsOf 3 = 1 := by kernel_rfl
theorem Try.cellsBool : Try.prog.cellsOf 4 = 1 := by kernel_rfl
theorem Try.cellsString : Try.prog.cellsOf 9 = 1 := by kernel_rfl
theorem Try.bytesRecord : Try.prog.bytesOf 34 = 32 := by kernel_rfl

theorem list3 {α : Type} : ∀ {l : List α}, l.length = 3 → ∃ a b c, l = [a, b, c]
  | [a, b, c], _ => ⟨a, b, c, rfl⟩
theorem list5 {α : Type} : ∀ {l : List α}, l.length = 5 → ∃ a b c d e, l = [a, b, c, d, e]
  | [a, b, c, d, e], _ => ⟨a, b, c, d, e, rfl⟩

/-- A slice of records, opened. -/
theorem open_recs {H : Type} {enc : TypeId × Value → H} {W : World} {fuel : Nat} {v : Value} {x : DataW H × List MemPlace} (h : DataW.trod enc Try.prog W 0 (fun _ => true) true fuel 22 [v] = some x) :
    ∃ rs : List Rc, Recs W.heap.size W v rs ∧ ((v = .slice none 0 0 ∧ x.1 = .nil) ∨ ∃ a cap el sp, v = .slice (some a) rs.length cap ∧ x.1 = .slice el sp ∧ el.length = rs.length) := by
  rcases Deep.open_slice Try.underlying22 h with ⟨e, hx⟩ | ⟨a, len, cap, m, n, D, Pl, e, hb, hl, hm, hmm, rfl, hx⟩
  · simp at e
    exact ⟨[], .inl ⟨rfl, none, 0, e⟩, .inl ⟨e, by rw [hx]⟩⟩
  · simp at e
    subst e
    simp only [if_true] at hmm
    subst hmm
    have each : ∀ i, i < len → ∃ r : Rc, W.cell? (a.add (i * 3)) = some (.bool r.free) ∧ W.cell? (a.add (i * 3 + 1)) = some (.int .i64 r.block) ∧ W.cell? (a.add (i * 3 + 2)) = some (.string r.data) := by
      intro i hi
      obtain ⟨cs', h1, h2⟩ := hx i (by omega)
      rw [Try.cellsRecord] at h1
      obtain ⟨_, hlen, hcell⟩ := World.cells?_some h1
      obtain ⟨y0, y1, y2, k, _, _, g0, g1, g2⟩ := Deep.trod_struct3 Try.underlying34 h2
      obtain ⟨v0, v1, v2, rfl⟩ := list3 hlen
      simp only [Try.cellsBool, Try.cellsInt, Try.cellsString, List.drop_zero, List.drop_succ_cons, List.take_succ_cons, List.take_zero] at g0 g1 g2
      obtain ⟨b0, e0, _⟩ := DataW.trod_bool Try.underlying4 g0
      obtain ⟨n1, e1, _⟩ := DataW.trod_int Try.underlying3 g1
      obtain ⟨s2, e2, _⟩ := DataW.trod_string Try.underlying9 g2
      simp at e0 e1 e2
      subst e0 e1 e2
      have c0 := hcell 0 (by omega)
      have c1 := hcell 1 (by omega)
      have c2 := hcell 2 (by omega)
      rw [Deep.add_add] at c0 c1 c2
      exact ⟨⟨b0, n1, s2⟩, by simpa using c0, by simpa using c1, by simpa using c2⟩
    obtain ⟨rs, hrl, hrs⟩ : ∃ rs : List Rc, rs.length = len ∧ ∀ i (h : i < rs.length), W.cell? (a.add (i * 3)) = some (.bool rs[i].free) ∧ W.cell? (a.add (i * 3 + 1)) = some (.int .i64 rs[i].block) ∧ W.cell? (a.add (i * 3 + 2)) = some (.string rs[i].data) := by
      obtain ⟨f, hf⟩ : ∃ f : Nat → Rc, ∀ i, i < len → W.cell? (a.add (i * 3)) = some (.bool (f i).free) ∧ W.cell? (a.add (i * 3 + 1)) = some (.int .i64 (f i).block) ∧ W.cell? (a.add (i * 3 + 2)) = some (.string (f i).data) :=
        ⟨fun i => if h : i < len then Classical.choose (each i h) else ⟨false, 0, ByteArray.empty⟩, fun i hi => by simp only [dif_pos hi]; exact Classical.choose_spec (each i hi)⟩
      exact ⟨(List.range len).map f, by simp, fun i hi => by simpa using hf i (by simpa using hi)⟩
    subst hrl
    refine ⟨rs, ?_, .inr ⟨a, m, _, _, rfl, rfl, by simp⟩⟩
    cases hr0 : rs with
    | nil => exact .inl ⟨rfl, some a, m, rfl⟩
    | cons r rs' =>
      rw [← hr0]
      have hpos : 0 < rs.length := by rw [hr0]; simp
      obtain ⟨b, off, spot⟩ := a
      have hspot : spot = none := by
        have := World.cell?_spot (hrs 0 hpos).1
        simpa [Addr.add] using this
      subst hspot
      refine .inr ⟨b, off, m, rfl, ?_, fun j hj => ?_⟩
      · exact World.block_lt_of_cell? W _ (hrs 0 hpos).1
      · have := hrs j hj
        simpa only [Addr.add_lit, Nat.add_assoc] using this

set_option maxRecDepth 100000 in
/-- A stream, opened. -/
theorem open_stream {H : Type} {enc : TypeId × Value → H} {W : World} {base : Nat} {v : Value} {d : DataW H} {p : List MemPlace} (hv : Value.okWide Try.prog W .any base 24 v) (h : DataW.Trod enc Try.prog W 0 (fun _ => true) true 24 v d p) :
    ∃ (f t b z : Int) (sv : Value) (rs : List Rc), v = .agg #[.int .i64 f, .int .i64 t, .int .i64 b, .int .i64 z, sv] ∧ Recs W.heap.size W sv rs ∧
      ((rs = []) ∨ ∃ d0 d1 d2 d3 el sp, d = .agg [d0, d1, d2, d3, .slice el sp] ∧ el.length = rs.length) := by
  obtain ⟨cs, rfl, hsz⟩ := okWide_struct Try.underlying24 hv
  obtain ⟨fuel, hf⟩ := h
  obtain ⟨xs, n, _, hx, hl, hlen, hfs⟩ := DataW.trod_struct Try.underlying24 hf
  obtain ⟨c0, c1, c2, c3, c4, hcs⟩ := list5 (show cs.toList.length = 5 by rw [← Try.cellsStream]; exact hsz)
  obtain ⟨y0, y1, y2, y3, y4, rfl⟩ := list5 hlen
  obtain rfl : cs = #[c0, c1, c2, c3, c4] := by rw [← hcs]
  have g0 : DataW.trod enc Try.prog W 0 (fun _ => true) true n 3 [c0] = some y0 := by
    have h : DataW.trod enc Try.prog W 0 (fun _ => true) true n 3 (([c0, c1, c2, c3, c4].drop 0).take (Try.prog.cellsOf 3)) = some y0 := hfs 0 _ rfl
    rw [Try.cellsInt] at h
    exact h
  have g1 : DataW.trod enc Try.prog W 0 (fun _ => true) true n 3 [c1] = some y1 := by
    have h : DataW.trod enc Try.prog W 0 (fun _ => true) true n 3 (([c0, c1, c2, c3, c4].drop 1).take (Try.prog.cellsOf 3)) = some y1 := hfs 1 _ rfl
    rw [Try.cellsInt] at h
    exact h
  have g2 : DataW.trod enc Try.prog W 0 (fun _ => true) true n 3 [c2] = some y2 := by
    have h : DataW.trod enc Try.prog W 0 (fun _ => true) true n 3 (([c0, c1, c2, c3, c4].drop 2).take (Try.prog.cellsOf 3)) = some y2 := hfs 2 _ rfl
    rw [Try.cellsInt] at h
    exact h
  have g3 : DataW.trod enc Try.prog W 0 (fun _ => true) true n 3 [c3] = some y3 := by
    have h : DataW.trod enc Try.prog W 0 (fun _ => true) true n 3 (([c0, c1, c2, c3, c4].drop 3).take (Try.prog.cellsOf 3)) = some y3 := hfs 3 _ rfl
    rw [Try.cellsInt] at h
    exact h
  have g4 : DataW.trod enc Try.prog W 0 (fun _ => true) true n 22 [c4] = some y4 := by
    have h : DataW.trod enc Try.prog W 0 (fun _ => true) true n 22 (([c0, c1, c2, c3, c4].drop 4).take (Try.prog.cellsOf 22)) = some y4 := hfs 4 _ rfl
    rw [Try.cellsRecords] at h
    exact h
  obtain ⟨f, e0, _⟩ := DataW.trod_int Try.underlying3 g0
  obtain ⟨t, e1, _⟩ := DataW.trod_int Try.underlying3 g1
  obtain ⟨b, e2, _⟩ := DataW.trod_int Try.underlying3 g2
  obtain ⟨z, e3, _⟩ := DataW.trod_int Try.underlying3 g3
  simp at e0 e1 e2 e3
  subst e0 e1 e2 e3
  obtain ⟨rs, hR, hsh⟩ := open_recs g4
  refine ⟨f, t, b, z, c4, rs, rfl, hR, ?_⟩
  simp only [Prod.mk.injEq] at hx
  rcases hsh with ⟨e, _⟩ | ⟨a, cap, el, sp, _, e, hel⟩
  · left
    subst e
    rcases hR with ⟨h0, _⟩ | ⟨_, _, _, e, _⟩
    · exact h0
    · cases e
  · right
    refine ⟨y0.1, y1.1, y2.1, y3.1, el, sp, ?_, hel⟩
    rw [hx.1]
    simp [e]

set_option maxRecDepth 100000 in
theorem writes_lifted (os : Os) (started : os.Started) (H : Type) (enc : TypeId × Value → H) :
    ReturnsInHanded {} Try.checked os 4 .any (Rows.writesSpec.pre6 enc Try.prog Try.f4 Rows.writesRow.domain false) (Rows.writesSpec.post enc Try.prog Try.f4 false true false false) := by
  refine returnsInHanded_of_change_sized (C := Try.checked) Try.own started (by kernel_rfl) Try.func4
    (ChangeSpec.witness6 (enc := enc) (C := Try.checked) false ⟨#[], #[.agg #[.int .i64 0, .int .i64 0, .int .i64 0, .int .i64 0, .slice none 0 0]], []⟩ 8 (by kernel_rfl) (by kernel_rfl) (by kernel_rfl) (by kernel_rfl)) ?_
  intro W base args ds gs before hval0 hW _ hsz0 _
  have hsz : (DataW.weightsEach Try.prog (Try.f4.params.toList ++ Rows.writesSpec.plain.varTypes Try.prog) (ds ++ gs)).all (· ≤ reachBytes) = true := hsz0
  clear hsz0
  have hval : ∀ (j : Nat) t v, Try.f4.params[j]? = some t → args[j]? = some v → Value.okWide Try.prog W .any base t v := hval0
  have hW' := hW
  obtain ⟨p, q, hA0, hV, rfl, _, _⟩ := hW
  have hA : DataW.TrodAll enc Try.prog W 0 (fun _ => true) true Try.f4.params.toList args.toList ds p := hA0
  rw [Try.params4] at hA hval hsz
  obtain ⟨v0, vs0, d0, ds0, p0, q0, hargs, rfl, rfl, h0, r0⟩ := trodAll_cons hA
  obtain ⟨rfl, rfl, rfl⟩ := trodAll_nil r0
  obtain rfl : args = #[v0] := by cases args; simp_all
  obtain ⟨rfl, rfl⟩ := trodVars_none hV
  clear hA0 hval0
  simp only [List.append_nil] at hW'
  have hlt : ∀ x ∈ p0, x.block < W.heap.size := fun x hx => by simpa using hW'.lt x hx
  have h0k := h0
  obtain ⟨f, t, b, z, sv, rs, rfl, hR, hsh⟩ := open_stream (hval 0 24 v0 rfl rfl) h0
  have hlen : rs.length * 32 ≤ 140737488355328 := by
    rcases hsh with rfl | ⟨e0, e1, e2, e3, el, sp, rfl, hel⟩
    · simp
    · have h1 : (el.length + sp.length) * Try.prog.bytesOf 34 ∈ (DataW.slice el sp).weights Try.prog 22 := by simp [DataW.weights, Try.underlying22]
      have h2 := DataW.weights_mem_each (P := Try.prog) (ts := [3, 3, 3, 3, 22]) (ds := [e0, e1, e2, e3, .slice el sp]) (j := 4) rfl rfl _ h1
      have h3 : (el.length + sp.length) * Try.prog.bytesOf 34 ∈ (DataW.agg [e0, e1, e2, e3, .slice el sp]).weights Try.prog 24 := by
        simp only [DataW.weights, Try.underlying24]
        exact h2
      have h4 := DataW.weights_mem_each (P := Try.prog) (j := 0) (ts := [24] ++ Rows.writesSpec.plain.varTypes Try.prog) (ds := [.agg [e0, e1, e2, e3, .slice el sp]] ++ []) rfl rfl _ h3
      have h5 := of_decide_eq_true (List.all_eq_true.1 hsz _ h4)
      rw [Try.bytesRecord] at h5
      simp only [reachBytes] at h5
      omega
  refine (writes_walk f t b z sv rs W hR hlen).mono fun e W' ⟨he, hb⟩ => ?_
  subst he
  refine ⟨_, rfl, _, _, _, [], p0 ++ [], [], hW', ?_, ?_, rfl, hb.frame _, fun h => by cases h⟩
  · exact trodAll_cons_mk (shut_bool Try.underlying4 _) trodAll_mk0
  · exact trodAll_cons_mk (Below.trod Try.laidOut (by kernel_rfl) (of_decide_eq_true (by kernel_rfl)) h0k hb hlt) trodAll_mk0

theorem writes_holds : Rows.WritesSaid :=
  OpenClaim.holds_of_wide 4 Try.f4 rfl rfl rfl rfl rfl rfl rfl ⟨rfl, rfl, rfl, rfl, rfl⟩ rfl rfl rfl rfl rfl (by kernel_rfl) Try.func4 (by kernel_rfl)
    (of_decide_eq_true (by kernel_rfl)) (by unfold Func.isWrapper; first | (rw [if_pos (by decide +kernel)]; kernel_rfl) | (rw [if_neg (by decide +kernel)]; exact ⟨rfl, rfl⟩))
    (fun os started H enc _ => writes_lifted os started H enc)
end Go.Proofs.Ytdjmhagclcfnfaa
/- The statement on Exact. -/
namespace Go.Proofs.Ytdjmhagclcfnfaa
open Go.ChangeShapes Go.WideShapes Go.ChangeAt Go.RowKit
open Go.ChangeMaps (open_string shut_string)

theorem below_of_grown {A B : World} (h : A.grownBy B none) : Below A.heap.size A B := ⟨h.os, h.tape, h.output, h.size, fun k hk => h.block k hk (by simp)⟩

set_option maxRecDepth 100000 in
theorem exact_lifted (os : Os) (started : os.Started) (H : Type) (enc : TypeId × Value → H) :
    ReturnsInHanded {} Try.checked os 11 .any (Rows.exactSpec.pre6 enc Try.prog Try.f11 Rows.exactRow.domain false) (Rows.exactSpec.post enc Try.prog Try.f11 false true false false) := by
  refine returnsInHanded_of_change_sized (C := Try.checked) Try.own started (by kernel_rfl) Try.func11
    (ChangeSpec.witness6 (enc := enc) (C := Try.checked) false ⟨#[], #[.string ByteArray.empty], []⟩ 8 (by kernel_rfl) (by kernel_rfl) (by kernel_rfl) (by kernel_rfl)) ?_
  intro W base args ds gs before hval0 hW _ hsz0 _
  have hsz : (DataW.weightsEach Try.prog (Try.f11.params.toList ++ Rows.exactSpec.plain.varTypes Try.prog) (ds ++ gs)).all (· ≤ reachBytes) = true := hsz0
  clear hsz0
  have hval : ∀ (j : Nat) t v, Try.f11.params[j]? = some t → args[j]? = some v → Value.okWide Try.prog W .any base t v := hval0
  have hW' := hW
  obtain ⟨p, q, hA0, hV, rfl, _, _⟩ := hW
  have hA : DataW.TrodAll enc Try.prog W 0 (fun _ => true) true Try.f11.params.toList args.toList ds p := hA0
  rw [Try.params11] at hA hval hsz
  obtain ⟨v0, vs0, d0, ds0, p0, q0, hargs, rfl, rfl, h0, r0⟩ := trodAll_cons hA
  obtain ⟨rfl, rfl, rfl⟩ := trodAll_nil r0
  obtain rfl : args = #[v0] := by cases args; simp_all
  obtain ⟨rfl, rfl⟩ := trodVars_none hV
  obtain ⟨a0, rfl, rfl, rfl, w0⟩ := open_string Try.underlying9 (hval 0 9 v0 rfl rfl) h0
  clear hA0 hval0
  simp only [List.append_nil] at hW'
  have hlen : a0.data.toList.length ≤ 4611686018427387904 := by
    have h4 := DataW.weights_mem_each (H := H) (P := Try.prog) (j := 0) (ts := [9] ++ Rows.exactSpec.plain.varTypes Try.prog) (ds := [.lit (.string a0.data.toList)] ++ []) rfl rfl a0.data.toList.length (by simp [DataW.weights])
    have h5 := of_decide_eq_true (List.all_eq_true.1 hsz _ h4)
    simp only [reachBytes] at h5
    omega
  have hwalk := exact_walk a0.data.toList W hlen
  rw [show (⟨a0.data.toList.toArray⟩ : ByteArray) = a0 from rfl] at hwalk
  refine hwalk.mono fun e W' ⟨he, hg⟩ => ?_
  subst he
  have hb := below_of_grown hg
  refine ⟨_, rfl, _, _, _, [], [], [], hW', ?_, ?_, rfl, hb.frame _, fun h => by cases h⟩
  · exact trodAll_cons_mk (shut_bool Try.underlying4 _) trodAll_mk0
  · exact trodAll_cons_mk (shut_string Try.underlying9 w0) trodAll_mk0

theorem exact_holds : Rows.ExactSaid :=
  OpenClaim.holds_of_wide 11 Try.f11 rfl rfl rfl rfl rfl rfl rfl ⟨rfl, rfl, rfl, rfl, rfl⟩ rfl rfl rfl rfl rfl (by kernel_rfl) Try.func11 (by kernel_rfl)
    (of_decide_eq_true (by kernel_rfl)) (by unfold Func.isWrapper; first | (rw [if_pos (by decide +kernel)]; kernel_rfl) | (rw [if_neg (by decide +kernel)]; exact ⟨rfl, rfl⟩))
    (fun os started H enc _ => exact_lifted os started H enc)
end Go.Proofs.Ytdjmhagclcfnfaa
/- Lists of elements of one cell each (texts, numbers) that a call owns. -/
namespace Go.Proofs.Ytdjmhagclcfnfaa
open Go.RowKit Go.Shelf

/-- v owns the elements xs, of type e, in a block from B on. -/
def Own1 (e : TypeId) (B : Nat) (w : World) (v : Value) (xs : List Value) : Prop := w.ownsRow B e 1 v xs.length xs
theorem own1_snoc {e : TypeId} {B : Nat} {W : World} {v x : Value} {pre : List Value} (h : W.ownsRow B e 1 v (pre.length + 1) (pre ++ [x])) : Own1 e B W v (pre ++ [x]) := by
  unfold Own1
  rw [List.length_append]
  exact h
theorem own1_nil (e : TypeId) (B : Nat) (W : World) : Own1 e B W (.slice none 0 0) [] := World.ownsRow_nil _ _ _ _
theorem Own1.slice {e : TypeId} {B : Nat} {W : World} {v : Value} {xs : List Value} (h : Own1 e B W v xs) : ∃ a cp, v = .slice a xs.length cp := by
  rcases h.2 with ⟨rfl, h0⟩ | ⟨g, cap, cur, rfl, _⟩
  · exact ⟨none, 0, by rw [h0]⟩
  · exact ⟨_, _, rfl⟩
theorem Own1.at {e : TypeId} {B : Nat} {W : World} {a : Option Addr} {l cp : Nat} {xs : List Value} (h : Own1 e B W (.slice a l cp) xs) {k : Nat} (hk : k < xs.length) :
    ∃ b, a = some ⟨b, 0, none⟩ ∧ B ≤ b ∧ W.cell? ⟨b, k, none⟩ = some xs[k] ∧ W.frozen? ⟨b, k, none⟩ = false := by
  rcases h.2 with ⟨e0, h0⟩ | ⟨g, cap, cur, e0, hb, hg, hc, _, hs, ht⟩
  · rw [h0] at hk
    exact absurd hk (by omega)
  · simp only [Value.slice.injEq] at e0
    rw [Nat.mul_one] at ht
    have h1 : cur[k]? = some xs[k] := by
      have : (cur.toList.take xs.length)[k]? = some xs[k] := by rw [ht]; exact List.getElem?_eq_getElem hk
      rw [List.getElem?_take_of_lt hk] at this
      simpa using this
    exact ⟨g, e0.1, hb, boxed_cell hg h1, boxed_frozen hg⟩
theorem Own1.kept {e : TypeId} {B : Nat} {W W' : World} {v : Value} {xs : List Value} (h : Own1 e B W v xs) (hg : W.grownBy W' none) : Own1 e B W' v xs := by
  refine World.ownsRow.kept h hg ?_
  rcases h.2 with ⟨rfl, _⟩ | ⟨g, cap, cur, rfl, _⟩
  · exact .inl rfl
  · exact .inr (by simp [Value.ownBlock])
theorem Own1.alloc {e : TypeId} {B : Nat} {W : World} {v : Value} {xs : List Value} (h : Own1 e B W v xs) (o : Obj) : Own1 e B (W.alloc o) v xs := World.ownsRow.alloc h o
theorem Own1.base {e : TypeId} {B B' : Nat} {W : World} {v : Value} {xs : List Value} (h : Own1 e B W v xs) (hb : B' ≤ B) : Own1 e B' W v xs := by
  refine ⟨h.1, ?_⟩
  rcases h.2 with h | ⟨g, cap, cur, e0, h1, h2⟩
  · exact .inl h
  · exact .inr ⟨g, cap, cur, e0, Nat.le_trans hb h1, h2⟩
theorem Own1.grown {e : TypeId} {A W W' : World} {v : Value} {xs : List Value} (h : Own1 e A.heap.size W v xs) (hg : A.grownBy W none) (hk : W.grownBy W' v.ownBlock) : A.grownBy W' none := by
  refine ⟨hk.os.trans hg.os, hk.tape.trans hg.tape, hk.output.trans hg.output, Nat.le_trans hg.size hk.size, fun j hj hne => (hk.block j (Nat.lt_of_lt_of_le hj hg.size) ?_).trans (hg.block j hj hne)⟩
  rcases h.2 with ⟨rfl, _⟩ | ⟨g, cap, cur, rfl, hbg, _⟩
  · simp [Value.ownBlock]
  · simp [Value.ownBlock]; omega
theorem Own1.ne {e : TypeId} {B : Nat} {W : World} {v : Value} {xs : List Value} (h : Own1 e B W v xs) {k : Nat} {cs : Array Value} {t : TypeId} {fr : Nat × Nat} (hk : W.heap[k]? = some (.cells cs t fr)) (ht : t ≠ e) : some k ≠ v.ownBlock := by
  rcases h.2 with ⟨rfl, _⟩ | ⟨g, cap, cur, rfl, _, hgb, _⟩
  · simp [Value.ownBlock]
  · intro e0
    obtain rfl : k = g := by simpa [Value.ownBlock] using e0
    rw [hgb] at hk
    simp only [Option.some.injEq, Obj.cells.injEq] at hk
    exact ht hk.2.1.symm
theorem Own1.lt {e : TypeId} {B : Nat} {W : World} {v : Value} {xs : List Value} (h : Own1 e B W v xs) : some W.heap.size ≠ v.ownBlock := by
  rcases h.2 with ⟨rfl, _⟩ | ⟨g, cap, cur, rfl, hb, hg, _⟩
  · simp [Value.ownBlock]
  · have := (Array.getElem?_eq_some_iff.1 hg).1
    simp [Value.ownBlock]; omega
/-- What one owns stays, where another's block is written that is of another type. -/
theorem Own1.beside {e : TypeId} {B : Nat} {W W' : World} {v : Value} {xs : List Value} (h : Own1 e B W v xs) {o : Option Nat} (hg : W.grownBy W' o) (hne : ∀ k cs fr, W.heap[k]? = some (.cells cs e fr) → some k ≠ o) : Own1 e B W' v xs := by
  refine World.ownsRow.kept h hg ?_
  rcases h.2 with ⟨rfl, _⟩ | ⟨g, cap, cur, rfl, _, hg2, _⟩
  · exact .inl rfl
  · refine .inr ?_
    have := hne g cur (0, 0) hg2
    simp only [Value.ownBlock]
    exact this
theorem Own1.own_ge {e : TypeId} {B : Nat} {W : World} {v : Value} {xs : List Value} (h : Own1 e B W v xs) : ∀ g, v.ownBlock = some g → B ≤ g := by
  intro g e0
  rcases h.2 with ⟨rfl, _⟩ | ⟨g', cap, cur, rfl, hb, _⟩
  · simp [Value.ownBlock] at e0
  · obtain rfl : g' = g := by simpa [Value.ownBlock] using e0
    exact hb

/-- 'append(l, r)' at a step of a region that draws its order. -/
theorem step_recT {w : World} {ops : Array Oper} {o : Oper} {a : Act} {K : Act → World → Prop} {Q : Exit → Act → World → Prop} {E : Prop} (hgd : o.guard = none) (sl x : Operand)
    (ho : o.op = .call { callee := .builtin .append, args := #[sl, x], argTypes := #[22, 22] })
    (B : Nat) (v : Value) (rs : List Rc) (r : Rc) (nb : Nat) (hs : a.eval sl = v) (hown : OwnsR B w v rs) (hx : a.eval x = .slice (some ⟨nb, 0, none⟩) 1 1)
    (hc : ∀ j u, [Value.bool r.free, .int .i64 r.block, .string r.data][j]? = some u → w.cell? (Addr.add ⟨nb, 0, none⟩ j) = some u) (hl : rs.length ≤ 2000) (hB : B ≤ w.heap.size)
    (h : ∀ v' w', OwnsR B w' v' (rs ++ [r]) → w.grownBy w' v.ownBlock → K (a.put o.dst v') w') :
    if Region.wanted o (yielded ops a.tmps) = true then Oper.wp Try.prog o a w K Q else E := by
  obtain ⟨i0, hi, hz0, hz1, hz2⟩ := info_parts Try.infoRec
  have hml : rs.length + 1 ≤ maxLen := Nat.le_trans (show rs.length + 1 ≤ 2001 by omega) (by decide)
  refine step_append_lies w hgd sl x 22 ho B 34 i0 _ 3 32 Try.underlying22 hi hz0 hz1 hz2 rfl (by decide) v rs.length (recVals rs) hs hown ⟨nb, 0, none⟩ 1 1 _ hx rfl hc (by simp [Value.oneCell']) (by decide) hml (by omega) hB w.heap.size rfl ?_
  intro g cap w1 ho1 hg _ _
  exact h _ w1 (ownsR_snoc ho1) hg

/-- .. where one block has been written besides. -/
theorem OwnsR.keptBut {B : Nat} {W W' : World} {v : Value} {rs : List Rc} {sb : Nat} (h : OwnsR B W v rs) (hg : W.grownBy W' (some sb)) (hsb : sb < B) : OwnsR B W' v rs := by
  refine World.ownsRow.kept h hg ?_
  rcases h.2 with ⟨rfl, _⟩ | ⟨g, cap, cur, rfl, hb, _⟩
  · exact .inl rfl
  · refine .inr ?_
    simp only [Value.ownBlock, ne_eq, Option.some.injEq]
    omega
theorem box_step {A wr w3 : World} {sb : Nat} {v0 v1 v2 v3 sv v' : Value} {rs rs' : List Rc} (hsb : sb < A.heap.size)
    (h1 : wr.heap[sb]? = some (.cells #[v0, v1, v2, v3, sv] 24 (0, 0))) (ho : OwnsR A.heap.size wr sv rs) (hw : A.grownBy wr (some sb))
    (hg : wr.grownBy w3 sv.ownBlock) (ho' : OwnsR A.heap.size w3 v' rs') :
    (w3.setCell ⟨sb, 4, none⟩ v').heap[sb]? = some (.cells #[v0, v1, v2, v3, v'] 24 (0, 0)) ∧ OwnsR A.heap.size (w3.setCell ⟨sb, 4, none⟩ v') v' rs' ∧ A.grownBy (w3.setCell ⟨sb, 4, none⟩ v') (some sb) := by
  have hn : ∀ k, k < A.heap.size → some k ≠ sv.ownBlock := fun k hk e => by have := ho.own_ge k e.symm; omega
  have l1 := (Array.getElem?_eq_some_iff.1 h1).1
  have b1 := (hg.block sb l1 (hn _ hsb)).trans h1
  refine ⟨block_set (i := 4) b1 v', ho'.set hsb, ?_⟩
  have g3 : A.grownBy w3 (some sb) := ⟨hg.os.trans hw.os, hg.tape.trans hw.tape, hg.output.trans hw.output, Nat.le_trans hw.size hg.size, fun j hj hne => (hg.block j (Nat.lt_of_lt_of_le hj hw.size) (hn _ hj)).trans (hw.block j hj hne)⟩
  exact ⟨g3.os, g3.tape, g3.output, by simpa using g3.size, fun j hj hne => (Below.heap_setCell _ _ _ _ (fun e => hne (congrArg some e))).trans (g3.block j hj hne)⟩

theorem Try.infoInt1 : (Try.prog.info? 3).map (fun i => (i.zero, i.size, i.bytes)) = some (some (.int .i64 0), 1, 8) := by kernel_rfl

theorem wpList_append_str (w : World) {ops : Array Oper} {rest : List Oper} {o : Oper} {a : Act} {Q : Exit → Act → World → Prop} (hgd : o.guard = none) (s x : Operand)
    (ho : o.op = .call { callee := .builtin .append, args := #[s, x], argTypes := #[52, 52] })
    (B : Nat) (v : Value) (xs : List Value) (hs : a.eval s = v) (hown : Own1 9 B w v xs) (ad : Addr) (q : ByteArray) (hx : a.eval x = .slice (some ad) 1 1)
    (hnews : ∀ j u, [Value.string q][j]? = some u → w.cell? (ad.add j) = some u) (hl : xs.length ≤ 2000) (hB : B ≤ w.heap.size)
    (h : ∀ v' w', Own1 9 B w' v' (xs ++ [.string q]) → w.grownBy w' v.ownBlock → wpList Try.prog ops Q rest (a.put o.dst v') w') : wpList Try.prog ops Q (o :: rest) a w := by
  obtain ⟨i0, hi, hz0, hz1, hz2⟩ := info_parts Try.infoStr
  have hml : xs.length + 1 ≤ maxLen := Nat.le_trans (show xs.length + 1 ≤ 2001 by omega) (by decide)
  refine wpList_append_own w hgd s x 52 ho B 9 i0 _ 1 16 Try.underlying52 hi hz0 hz1 hz2 rfl (by decide) _ _ _ hs hown ad 1 1 _ hx rfl hnews (by simp [Value.oneCell']) hml (by omega) hB ?_
  intro v' w' ho' hg' _
  exact h v' w' (own1_snoc ho') hg'

theorem wpList_append_int (w : World) {ops : Array Oper} {rest : List Oper} {o : Oper} {a : Act} {Q : Exit → Act → World → Prop} (hgd : o.guard = none) (s x : Operand)
    (ho : o.op = .call { callee := .builtin .append, args := #[s, x], argTypes := #[64, 64] })
    (B : Nat) (v : Value) (xs : List Value) (hs : a.eval s = v) (hown : Own1 3 B w v xs) (ad : Addr) (q : Int) (hx : a.eval x = .slice (some ad) 1 1)
    (hnews : ∀ j u, [Value.int .i64 q][j]? = some u → w.cell? (ad.add j) = some u) (hl : xs.length ≤ 2000) (hB : B ≤ w.heap.size)
    (h : ∀ v' w', Own1 3 B w' v' (xs ++ [.int .i64 q]) → w.grownBy w' v.ownBlock → wpList Try.prog ops Q rest (a.put o.dst v') w') : wpList Try.prog ops Q (o :: rest) a w := by
  obtain ⟨i0, hi, hz0, hz1, hz2⟩ := info_parts Try.infoInt1
  have hml : xs.length + 1 ≤ maxLen := Nat.le_trans (show xs.length + 1 ≤ 2001 by omega) (by decide)
  refine wpList_append_own w hgd s x 64 ho B 3 i0 _ 1 8 Try.underlying64 hi hz0 hz1 hz2 rfl (by decide) _ _ _ hs hown ad 1 1 _ hx rfl hnews (by simp [Value.oneCell']) hml (by omega) hB ?_
  intro v' w' ho' hg' _
  exact h v' w' (own1_snoc ho') hg'
end Go.Proofs.Ytdjmhagclcfnfaa
/- strandkeep's pick, nth and shape. -/
namespace Go.Proofs.Ytdjmhagclcfnfaa
open Go.RowKit

/-- An int as there are. -/
def I64 (c : Int) : Prop := -9223372036854775808 ≤ c ∧ c ≤ 9223372036854775807
/-- Which of n things. -/
def pickN (c : Int) (n : Nat) : Nat := (if c < 0 then (-(c + 1)) else c).toNat % n

theorem pickN_lt (c : Int) (n : Nat) (hn : 0 < n) : pickN c n < n := Nat.mod_lt _ hn

set_option maxRecDepth 100000 in
theorem pick_any (c : Int) (n : Nat) (w : World) (hc : I64 c) (h0 : 0 < n) (hn : n ≤ 2147483647) :
    Calls Try.prog 40 #[.int .i64 c, .int .i64 n] w fun e w' => e = .returned (.int .i64 (pickN c n : Nat)) ∧ w' = w := by
  obtain ⟨hc1, hc2⟩ := hc
  go_enter Try.func40, Try.ntmps40
  by_cases hlt : c < 0
  · obtain ⟨m, rfl⟩ : ∃ m : Nat, c = -(m : Int) - 1 := ⟨(-(c + 1)).toNat, by omega⟩
    have e : (pickN (-(m : Int) - 1) n : Int) = (m : Int) % n := by
      unfold pickN
      rw [if_pos hlt, Int.natCast_emod]
      congr 1
      omega
    rw [e]
    go_wp2
    go_ret
    exact ⟨rfl, rfl⟩
  · obtain ⟨m, rfl⟩ := Int.eq_ofNat_of_zero_le (show 0 ≤ c by omega)
    have e : (pickN (m : Int) n : Int) = (m : Int) % n := by
      unfold pickN
      rw [if_neg hlt, Int.natCast_emod]
      rfl
    rw [e]
    go_wp2
    go_ret
    exact ⟨rfl, rfl⟩

/-- A list of ints that lies below B. -/
def Ints (B : Nat) (W : World) (v : Value) (xs : List Int) : Prop :=
  (xs = [] ∧ ∃ a cap, v = .slice a 0 cap) ∨ ∃ b o cap, v = .slice (some ⟨b, o, none⟩) xs.length cap ∧ b < B ∧ ∀ j (h : j < xs.length), W.cell? ⟨b, o + j, none⟩ = some (.int .i64 xs[j])
theorem Ints.below {B : Nat} {W W' : World} {v : Value} {xs : List Int} (h : Ints B W v xs) (hb : Below B W W') : Ints B W' v xs := by
  rcases h with h | ⟨b, o, cap, e, hlt, hc⟩
  · exact .inl h
  · exact .inr ⟨b, o, cap, e, hlt, fun j hj => (hb.cell (p := ⟨b, o + j, none⟩) hlt).trans (hc j hj)⟩
theorem Ints.slice {B : Nat} {W : World} {v : Value} {xs : List Int} (h : Ints B W v xs) : ∃ a cap, v = .slice a xs.length cap := by
  rcases h with ⟨rfl, a, cap, e⟩ | ⟨b, o, cap, e, _⟩
  · exact ⟨a, cap, e⟩
  · exact ⟨_, cap, e⟩

set_option maxRecDepth 100000 in
theorem nth_any (B : Nat) (v : Value) (xs : List Int) (i : Nat) (w : World) (h : Ints B w v xs) (_hi : i ≤ 1000) (hl : xs.length ≤ 9223372036854775807) :
    Calls Try.prog 76 #[v, .int .i64 i] w fun e w' => e = .returned (.int .i64 (xs.getD i 0)) ∧ w' = w := by
  obtain ⟨a, cap, rfl⟩ := h.slice
  go_enter Try.func76, Try.ntmps76
  by_cases hlt : i < xs.length
  · obtain ⟨b, o, rfl, hc⟩ : ∃ b o, a = some ⟨b, o, none⟩ ∧ w.cell? ⟨b, o + i, none⟩ = some (.int .i64 xs[i]) := by
      rcases h with ⟨rfl, _⟩ | ⟨b, o, cap', e, _, hc⟩
      · simp at hlt
      · simp only [Value.slice.injEq] at e
        exact ⟨b, o, e.1, hc i hlt⟩
    rw [List.getD_eq_getElem?_getD, List.getElem?_eq_getElem hlt, Option.getD_some]
    clear h
    go_wp2
    go_ret
    exact ⟨rfl, rfl⟩
  · rw [List.getD_eq_getElem?_getD, List.getElem?_eq_none (by omega), Option.getD_none]
    clear h
    go_wp2
    go_ret
    exact ⟨rfl, rfl⟩

theorem pick_at (c n : Int) (m : Nat) (w : World) (hc : I64 c) (e : n = m) (h0 : 0 < m) (hn : m ≤ 2147483647) :
    Calls Try.prog 40 #[.int .i64 c, .int .i64 n] w fun e w' => e = .returned (.int .i64 (pickN c m : Nat)) ∧ w' = w := by
  subst e
  exact pick_any c m w hc h0 hn

set_option maxRecDepth 100000 in
set_option maxHeartbeats 1000000 in
theorem shape_any (x y : Int) (w : World) (hx : I64 x) (hy : I64 y) :
    Calls Try.prog 39 #[.int .i64 x, .int .i64 y] w fun e w' => e = .returned (.tuple #[.int .i64 (pickN x 100 + 1 : Nat), .int .i64 (pickN y 64 + 1 : Nat)]) ∧ w' = w := by
  have H1 : Hid (∀ u : Unit, Calls Try.prog 40 #[.int .i64 x, .int .i64 100] w fun e w' => e = .returned (.int .i64 (pickN x 100 : Nat)) ∧ w' = w) := fun _ => pick_at x 100 100 w hx rfl (by omega) (by omega)
  have H2 : Hid (∀ u : Unit, Calls Try.prog 40 #[.int .i64 y, .int .i64 64] w fun e w' => e = .returned (.int .i64 (pickN y 64 : Nat)) ∧ w' = w) := fun _ => pick_at y 64 64 w hy rfl (by omega) (by omega)
  have h1 := pickN_lt x 100 (by omega)
  have h2 := pickN_lt y 64 (by omega)
  generalize pickN x 100 = n1 at *
  generalize pickN y 64 = n2 at *
  go_enter Try.func39, Try.ntmps39
  go_wp2_with fail
  go_at_call 40
  refine (H1.out ()).mono ?_
  rintro _ _ ⟨rfl, rfl⟩
  go_wp2_with fail
  go_at_call 40
  refine (H2.out ()).mono ?_
  rintro _ _ ⟨rfl, rfl⟩
  go_wp2
  refine bodyPost_ret (results_tmp2 rfl _ _ _) rfl ?_
  refine ⟨?_, rfl⟩
  simp
  omega

set_option maxRecDepth 100000 in
set_option maxHeartbeats 1000000 in
theorem data_any (c : Int) (z : Nat) (w : World) (hc : -4611686018427387904 ≤ c ∧ c ≤ 4611686018427387904) (hz : z ≤ 64) :
    Calls Try.prog 77 #[.int .i64 c, .int .i64 z] w fun e w' => ∃ bs : List UInt8, bs.length = z ∧ e = .returned (.string ⟨bs.toArray⟩) ∧ w.grownBy w' none := by
  obtain ⟨hc1, hc2⟩ := hc
  go_enter Try.func77, Try.ntmps77
  go_wp2
  go_loopw [5, 6] (fun b i wr => ∃ (k : Nat) (bs : List UInt8), k ≤ z ∧ i = .int .i64 k ∧ bs.length = k ∧ OwnsB w.heap.size wr b bs ∧ w.grownBy wr none) (fun _ i _ => z - (intOf i).toNat)
  case atStart => exact ⟨0, [], Nat.zero_le _, rfl, rfl, World.ownsRow_nil _ _ _ _, drew_grown w 0 _⟩
  case round =>
    obtain ⟨k, bs, hk, rfl, hbl, hown, hg⟩ := hrel
    by_cases hlt : k < z
    · have H1 : Hid (∀ W, _) := fun W => pick_at (c + k) 26 26 W ⟨by omega, by omega⟩ rfl (by omega) (by omega)
      have h1 := pickN_lt (c + k) 26 (by omega)
      have HR : Hid (∀ x : Int, x = ((97 + pickN (c + k) 26 : Nat) : Int) → ∀ v' w1, w1.ownsRow w.heap.size 5 1 v' (bs.length + 1) (byteVals bs ++ [.int .u8 x]) → OwnsB w.heap.size w1 v' (bs ++ [UInt8.ofNat (97 + pickN (c + k) 26)])) := by
        intro x hx v' w1 ho
        unfold OwnsB
        rw [byteVals_append, List.length_append]
        rw [hx] at ho
        have e : ((UInt8.ofNat (97 + pickN (c + k) 26)).toNat : Int) = ((97 + pickN (c + k) 26 : Nat) : Int) := by
          rw [UInt8.toNat_ofNat']
          omega
        unfold byteVals at *
        rw [List.map_cons, List.map_nil, e]
        exact ho
      have HO : Hid (wr.ownsRow w.heap.size 5 1 _ bs.length (byteVals bs)) := hown
      have HG : Hid _ := hg
      have hsz : w.heap.size ≤ wr.heap.size := hg.size
      clear hown hg
      generalize pickN (c + k) 26 = n1 at *
      obtain ⟨i0, hi, hz0, hz1, hz2⟩ := info_parts Try.infoU8
      go_wp2_with (first
        | (go_at_call 40; refine (H1.out _).mono ?_; rintro _ _ ⟨rfl, rfl⟩)
        | (at_builtin; refine wpList_append_own_at _ rfl _ _ 72 rfl w.heap.size 5 i0 (.int .u8 0) 1 1 Try.underlying72 hi hz0 hz1 hz2 rfl (by decide) _ _ _ rfl (HO.out.alloc _) ⟨_, 0, none⟩ 1 1 [_] rfl rfl (cell_one_new _ _ _) (by intro u hu; simp at hu; subst hu; rfl) (by unfold maxLen; omega) (by omega) (by simp; omega) ?_; intro v' w1 hown' hgrow _ hat))
      refine ⟨⟨k + 1, _, by omega, by go_num, by simp; omega, HR.out _ (by go_num) _ _ hown', ?_⟩, by simp [intOf]; omega⟩
      have g1 := Grew.of_alloc hgrow hat
      exact ⟨g1.by_.os.trans HG.out.os, g1.by_.tape.trans HG.out.tape, g1.by_.output.trans HG.out.output, Nat.le_trans HG.out.size g1.by_.size, fun j hj hne => (g1.by_.block j (Nat.lt_of_lt_of_le hj HG.out.size) (fun e => by have := OwnsB.base (l := bs) HO.out j e.symm; omega)).trans (HG.out.block j hj hne)⟩
    · have HC := conv_own hown
      obtain rfl : k = z := by omega
      go_wp2
      go_ret
      exact ⟨bs, hbl, rfl, hg⟩
end Go.Proofs.Ytdjmhagclcfnfaa
/- Lists of ints and ints, opened. -/
namespace Go.Proofs.Ytdjmhagclcfnfaa
open Go.ChangeShapes Go.WideShapes Go.ChangeAt Go.RowKit

theorem wf_i64 {n : Int} (h : (Lit.int .i64 n).wf = true) : I64 n := by
  simp only [Lit.wf, Bool.and_eq_true, decide_eq_true_eq] at h
  exact ⟨h.1, h.2⟩
theorem getD_at (zs : List Int) (j : Nat) (h : j < zs.length) : zs.getD j 0 = zs[j] := by
  rw [List.getD_eq_getElem?_getD, List.getElem?_eq_getElem h, Option.getD_some]
set_option maxRecDepth 100000 in
theorem open_nums {H : Type} {enc : TypeId × Value → H} {W : World} {base : Nat} {v : Value} {d : DataW H} {p : List MemPlace} (hv : Value.okWide Try.prog W .any base 64 v) (h : DataW.Trod enc Try.prog W 0 (fun _ => true) true 64 v d p) :
    ∃ xs : List Int, Ints W.heap.size W v xs ∧ (∀ x ∈ xs, I64 x) ∧ xs.length ≤ 9223372036854775807 := by
  obtain ⟨a, len, cap, rfl⟩ := okWide_slice Try.underlying64 hv
  obtain ⟨fuel, hf⟩ := h
  rcases open_ints Try.underlying64 Try.underlying3 Try.cellsInt hf with ⟨e, _⟩ | ⟨a', len', cap', zs, e, _, hl, hm, hzl, _, hc, hwf⟩
  · simp [Value.cells] at e
    obtain ⟨rfl, rfl, rfl⟩ := e
    exact ⟨[], .inl ⟨rfl, none, 0, rfl⟩, (fun x hx => by cases hx), by simp⟩
  · simp [Value.cells] at e
    obtain ⟨rfl, rfl, rfl⟩ := e
    simp only [if_true] at hzl
    have hl2 : (zs.take len).length = len := by rw [List.length_take]; omega
    have hm' : cap ≤ 9223372036854775807 := hm
    refine ⟨zs.take len, ?_, fun x hx => wf_i64 (hwf x (List.mem_of_mem_take hx)), by omega⟩
    by_cases h0 : len = 0
    · subst h0
      exact .inl ⟨by simp, some a', cap, rfl⟩
    · have c0 := hc 0 (by omega)
      obtain ⟨b, o, sp⟩ := a'
      obtain rfl : sp = none := by
        have := World.cell?_spot c0
        simpa [Addr.add] using this
      refine .inr ⟨b, o, cap, by rw [hl2], World.block_lt_of_cell? W _ c0, fun j hj => ?_⟩
      rw [hl2] at hj
      have := hc j (by omega)
      rw [Addr.add_lit, getD_at zs j (by omega)] at this
      rw [List.getElem_take]
      exact this
end Go.Proofs.Ytdjmhagclcfnfaa
/- The program's recordBytes and longest. -/
namespace Go.Proofs.Ytdjmhagclcfnfaa
open Go.RowKit Go.Shelf

attribute [local go_sem] Oper.semAt_some

theorem lenR_fit (z : Int) (r : Rc) (h : RecFit z r) : lenR r = 3 + r.data.size := by
  obtain ⟨_, _, h2⟩ := h
  unfold lenR recB
  cases hf : r.free with
  | true =>
    rw [hf] at h2
    simp at h2
    simp [lowB_length, h2]
  | false =>
    have hs : r.data.data.toList.length = r.data.size := rfl
    simp only [Bool.false_eq_true, if_false, List.length_cons, List.length_append, lowB_length, hs]
    omega

set_option maxRecDepth 100000 in
set_option maxHeartbeats 400000 in
theorem recordBytes_any (r : Rc) (w : World) (hs : r.data.size ≤ 1000) :
    Calls Try.prog 97 #[.agg #[.bool r.free, .int .i64 r.block, .string r.data]] w fun e w' => e = .returned (.int .i64 ((3 + r.data.size : Nat) : Int)) ∧ Below w.heap.size w w' := by
  go_enter Try.func97, Try.ntmps97
  go_wp2
  go_ret
  exact ⟨by simp, (Below.refl _ _).alloc (Nat.le_refl _) _⟩

theorem fit_size (z : Int) (hz : z ≤ 64) (r : Rc) (h : RecFit z r) : r.data.size ≤ 64 := by
  have := h.2.2
  split at this <;> omega

theorem mostR_fit (z : Int) (hz : z ≤ 64) (rs : List Rc) (h : ∀ r ∈ rs, RecFit z r) : mostR rs ≤ 67 := by
  have key : ∀ (xs : List Rc) (m : Nat), (∀ r ∈ xs, lenR r ≤ 67) → m ≤ 67 → xs.foldl (fun m r => max m (lenR r)) m ≤ 67 := by
    intro xs
    induction xs with
    | nil => exact fun m _ h => h
    | cons x xs ih =>
      intro m hx hm
      have := hx x (by simp)
      exact ih (max m (lenR x)) (fun r hr => hx r (by simp [hr])) (by omega)
  refine key rs 0 (fun r hr => ?_) (by omega)
  rw [lenR_fit z r (h r hr)]
  have := fit_size z hz r (h r hr)
  omega

set_option maxRecDepth 100000 in
set_option maxHeartbeats 2000000 in
theorem longest_any (z : Nat) (sv : Value) (rs : List Rc) (Bs : Nat) (w : World) (hR : Recs w.heap.size w sv rs) (hBs : w.cell? ⟨Bs, 0, none⟩ = some sv) (hBl : Bs < w.heap.size) (h9 : (z : Int) ≤ 64) (hn : rs.length ≤ 100) (ho : ∀ r ∈ rs, RecFit z r) :
    Calls Try.prog 66 #[.func (.func 93) #[] #[.pointer (some ⟨Bs, 0, none⟩)]] w fun e w' => e = .returned (.int .i64 (mostR rs : Nat)) ∧ Below w.heap.size w w' := by
  obtain ⟨a, c, rfl⟩ := hR.slice
  refine (callsIn_wide (n := 9)).1 ?_
  refine callsIn_of_wp_marks Try.func66 rfl trivial ?_ rfl
  simp only [Try.ntmps66, List.size_toArray, List.length_cons, List.length_nil, Nat.reduceAdd, Nat.reduceSub, Array.replicate_succ, Array.replicate_zero, List.push_toArray, List.append_toArray, List.nil_append, List.cons_append]
  gi_wp2_with fail
  have hB3 : Below w.heap.size w (w.alloc (.cells #[.int .i64 0] 3)) := (Below.refl _ _).alloc (Nat.le_refl _) _
  have hO3 : (w.alloc (.cells #[.int .i64 0] 3)).heap[w.heap.size]? = some (.cells #[.int .i64 0] 3 (0, 0)) := World.alloc_heap_new _ _
  have hs3 : (w.alloc (.cells #[.int .i64 0] 3)).heap.size = w.heap.size + 1 := by simp
  generalize w.alloc (.cells #[.int .i64 0] 3) = W3 at *
  have hKW : ∀ k, (rs ≠ [] ∧ ∃ off, a = some ⟨k, off, none⟩) → k < w.heap.size := fun k ⟨hne, off, e⟩ => hR.block_lt hne e
  refine range_law (n := 9) rfl (by decide) (gf := 93) (lb := #[.pointer (some ⟨Bs, 0, none⟩)]) rfl trivial (enters_of Try.func93 (by kernel_rfl) rfl)
    (values_seq 8 (by decide) Bs (.slice a rs.length c) rs (by omega) W3 (by omega) ((hB3.cell (p := ⟨Bs, 0, none⟩) hBl).trans hBs) (hR.moved hB3) (fun k => rs ≠ [] ∧ ∃ off, a = some ⟨k, off, none⟩) (fun k hk => by have := hKW k hk; omega) (fun hne b off l cap e => by simp only [Value.slice.injEq] at e; exact ⟨hne, off, e.1⟩))
    (Below.refl _ _) (fun k hk => by have := hKW k hk; omega) (fun b e => by cases e) (fun _ => rfl)
    (fun pre W => W.heap[w.heap.size]? = some (.cells #[.int .i64 (mostR pre : Nat)] 3 (0, 0)) ∧ Below w.heap.size w W)
    (fun _ _ _ => False)
    (OwnIt.and (ownIt_block _ _ (fun pre => .cells #[.int .i64 (mostR pre : Nat)] 3 (0, 0)) (fun _ => rfl)) (ownIt_below (Nat.le_refl _) (by omega)))
    (fun cd => OwnIt.pure _ _ _)
    ⟨hO3, hB3⟩
    (fun (x : Rc) (a' : Act) (W : World) => ∃ Bx : Nat, W.heap[Bx]? = some (.cells #[.bool x.free, .int .i64 x.block, .string x.data] 34 (0, 0)) ∧ a' = { tmps := #[.func (.func 93) #[] #[.pointer (some ⟨Bs, 0, none⟩)], undef, .int .i64 0, .pointer (some ⟨w.heap.size, 0, none⟩), .pointer (some ⟨Bx, 0, none⟩), .func (.func 93) #[] #[.pointer (some ⟨Bs, 0, none⟩)], .agg #[.bool x.free, .int .i64 x.block, .string x.data], undef, undef, undef, undef, undef], defers := [] })
    (fun x a' => ownIt_some _ fun Bx => OwnIt.and (ownIt_block _ _ (fun _ => _) (fun _ => rfl)) (OwnIt.pure _ _ _))
    ?assign ?body ?done ?stop ?panic
  case assign =>
    rintro l pre x W K ⟨h1, h5⟩ hK
    have lt := fun {k : Nat} {o : Obj} (e : W.heap[k]? = some o) => (Array.getElem?_eq_some_iff.1 e).1
    gi_wp2
    refine hK _ _ ((KeepsOthers.alloc _ _).from _) ?_ ⟨(Below.heap_alloc _ _ _ (lt h1)).trans h1, h5.alloc h5.size _⟩ ⟨W.heap.size, World.alloc_heap_new _ _, rfl⟩
    exact (KeptOn.refl _ _).alloc (fun k hk => by have := hKW k hk; have := h5.size; omega) _
  case body =>
    rintro l pre x a' W ⟨h1, h5⟩ ⟨Bx, hx, rfl⟩ hG
    have lt := fun {k : Nat} {o : Obj} (e : W.heap[k]? = some o) => (Array.getElem?_eq_some_iff.1 e).1
    have hfx := ho x (hG.subset (by simp))
    have hpf := mostR_fit z h9 pre (fun r hr => ho r (hG.subset (by simp [hr])))
    have hlx := lenR_fit z x hfx
    have hsx := fit_size z h9 x hfx
    have HM : Hid (mostR (pre ++ [x]) = max (mostR pre) (3 + x.data.size)) := by
      show _ = _
      rw [mostR_snoc, hlx]
    have r0 := boxed_cell (i := 0) hx rfl
    have r1 := boxed_cell (i := 1) hx rfl
    have r2 := boxed_cell (i := 2) hx rfl
    have o0 := boxed_cell (i := 0) h1 rfl
    generalize mostR pre = mp at *
    have hm : Try.prog.follows .mixedOrders = true := by kernel_rfl
    have HW1 : Hid (∀ W1, Below W.drew.heap.size W.drew W1 → W1.heap[w.heap.size]? = some (.cells #[.int .i64 (mp : Nat)] 3 (0, 0)) ∧ KeepsFrom W3.heap.size W W1 ∧ Below w.heap.size w W1 ∧ Below w.heap.size W W1) := fun W1 hb0 => by
      have hb : Below W.heap.size W W1 := (Below.refl _ _).drew.trans hb0
      exact ⟨(hb.block _ (lt h1)).trans h1, ⟨hb.size, fun k o _ hk _ => (hb.block k (lt hk)).trans hk⟩, h5.trans (hb.mono h5.size), hb.mono h5.size⟩
    have hlt := lt h1
    have zf := boxed_frozen (i := 0) h1
    clear h1 hx lt
    gi_wp2_with fail
    gi_region_with_o (refine ⟨trivial, (CallsIn.inRound l (callsIn_wide.2 (recordBytes_any x _ (by omega)))).mono ?_⟩; rintro e W1 ⟨rfl, hb1⟩; obtain ⟨g1, g2, g3, g4⟩ := HW1.out W1 hb1; have o1 := boxed_cell (i := 0) g1 rfl; have z1 := boxed_frozen (i := 0) g1)
    all_goals
      refine ⟨g2.trans ((KeepsOthers.setCell _ _ _).from _), KeptOn.of_below (g4.setCell (p := ⟨w.heap.size, 0, none⟩) (by simp) _) hKW, ?_, g3.setCell (p := ⟨w.heap.size, 0, none⟩) (by simp) _⟩
      first
        | (rw [show ((mostR (pre ++ [x]) : Nat) : Int) = (if (mp : Int) < 3 + (x.data.size : Int) then 3 + (x.data.size : Int) else (mp : Int)) from by rw [HM.out]; split <;> omega]
           exact block_set (i := 0) g1 _)
        | (rw [show ((mostR (pre ++ [x]) : Nat) : Int) = max (mp : Int) (3 + (x.data.size : Int)) from by rw [HM.out]; omega]
           exact block_set (i := 0) g1 _)
  case done =>
    rintro D ys W hD rfl ⟨h1, h5⟩ hK
    have o0 := boxed_cell (i := 0) h1 rfl
    gi_wp2
    refine ⟨by simp, .inl ⟨_, _, rfl, run_takeDeferred hK, ?_⟩⟩
    exact ⟨_, results_tmp rfl _ _ _, rfl, h5.trans (belowK_b (w := w) (Nat.le_refl _) _ D _ _ (by omega) hK rfl rfl)⟩
  case stop =>
    rintro D cd pre W _ _ h
    exact h.elim
  case panic =>
    rintro D ch xs W _ hp
    exact hp.elim
end Go.Proofs.Ytdjmhagclcfnfaa
