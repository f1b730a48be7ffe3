/- KTurned, KInts, KTurned2 -/
import Derived.Test.YtdjmhagclcfnfaaKText
import Derived.Test.YtdjmhagclcfnfaaTurnM
import Derived.Test.YtdjmhagclcfnfaaPFace
import Derived.Test.YtdjmhagclcfnfaaKPick
import Derived.Test.YtdjmhagclcfnfaaLWrites3
import Derived.ChangeSlices
import Derived.Test.YtdjmhagclcfnfaaLExact2
/- The walk of Turned. -/
namespace Go.Proofs.Ytdjmhagclcfnfaa
open Go.RowKit Go.Shelf

theorem conv_cells (W : World) (g cap : Nat) (l : List UInt8) (h : ∀ j (hj : j < l.length), W.cell? ⟨g, j, none⟩ = some (.int .u8 (l[j].toNat : Int))) :
    (convert 72 9 (.slice (some ⟨g, 0, none⟩) l.length cap)).run Try.prog W = .ok (.string ⟨l.toArray⟩) W := by
  refine run_convert_bytes_back (P := Try.prog) W 72 9 5 ⟨g, 0, none⟩ cap l Try.underlying72 Try.underlying5 Try.underlying9 ?_
  intro j hj
  have := h j hj
  rw [Addr.add_lit, Nat.zero_add]
  exact this
theorem conv_bytes2 (W : World) (bs : List UInt8) : ∃ c W2 cs, (convert 9 72 (.string ⟨bs.toArray⟩)).run Try.prog W = .ok (.slice (some ⟨W.heap.size, 0, none⟩) bs.length c) W2 ∧ W.grownBy W2 none ∧
    W2.heap[W.heap.size]? = some (.cells cs 5 (cs.size, cs.size + 1)) ∧ bs.length ≤ cs.size ∧ ∀ j (h : j < bs.length), cs[j]? = some (.int .u8 (bs[j].toNat : Int)) := by
  refine ⟨_, _, _, run_bytes_of_string W 9 72 5 ⟨bs.toArray⟩ Try.underlying9 Try.underlying72 Try.underlying5, ?_, World.alloc_heap_new W.drew _, ?_, ?_⟩
  · exact ⟨rfl, rfl, rfl, by simp, fun j hj _ => Below.heap_alloc W.drew _ j hj⟩
  · unfold bytesRow
    rw [Array.size_append]
    simp [ByteArray.size]
  · intro j hj
    unfold bytesRow
    rw [Array.getElem?_append_left (by simpa using hj)]
    simp [hj]
theorem u8_xor_nat (a b : Nat) (ha : a < 256) (hb : b < 256) : bits .xor .u8 (a : Int) (b : Int) = ((a ^^^ b : Nat) : Int) := by
  have hx : a ^^^ b < 2 ^ 8 := Nat.xor_lt_two_pow (by omega) (by omega)
  have h1 : (BitVec.ofInt 8 (a : Int)).toNat = a := by
    rw [BitVec.ofInt_natCast, BitVec.toNat_ofNat]; exact Nat.mod_eq_of_lt (by omega)
  have h2 : (BitVec.ofInt 8 (b : Int)).toNat = b := by
    rw [BitVec.ofInt_natCast, BitVec.toNat_ofNat]; exact Nat.mod_eq_of_lt (by omega)
  show IntKind.u8.wrap ((BitVec.ofInt 8 (a : Int) ^^^ BitVec.ofInt 8 (b : Int)).toNat : Int) = _
  rw [BitVec.toNat_xor, h1, h2, IntKind.wrap_u8]
  omega

set_option maxRecDepth 100000 in
set_option maxHeartbeats 2000000 in
theorem turned_walk (x y at' by' : Int) (v : Value) (xs : List Int) (w : World) (hx : I64 x) (hy : I64 y) (ha : I64 at') (hb : I64 by') (hv : Ints w.heap.size w v xs) (hxs : ∀ c ∈ xs, I64 c) (hxl : xs.length ≤ 9223372036854775807) :
    Calls Try.prog 12 #[.int .i64 x, .int .i64 y, v, .int .i64 at', .int .i64 by'] w fun e w' => e = .returned (.bool true) ∧ w.grownBy w' none := by
  obtain ⟨a, cap, rfl⟩ := hv.slice
  have HV : Hid _ := hv
  have hn : pickN x 100 + 1 ≤ 100 := pickN_lt x 100 (by omega)
  have hz : pickN y 64 + 1 ≤ 64 := pickN_lt y 64 (by omega)
  have HM : Hid (∀ u : Unit, _) := fun _ => made_any 1 2 (pickN x 100 + 1) (pickN y 64 + 1) (.slice a xs.length cap) xs false w HV.out hxs hxl (by omega) (by omega)
  have HS : Hid (∀ W, _) := fun W => shape_any x y W hx hy
  have hwh : wellHead 1 2 ((pickN x 100 + 1 : Nat) : Int) ((pickN y 64 + 1 : Nat) : Int) = true := decide_eq_true ⟨by omega, by omega, by omega, by omega, by omega, by omega, by omega, by omega, by omega⟩
  generalize pickN x 100 + 1 = n at *
  generalize pickN y 64 + 1 = z at *
  clear hv hx hy hxs hxl
  go_enter Try.func12, Try.ntmps12
  go_wp2_with fail
  refine (HS.out _).mono ?_
  rintro e w1 ⟨rfl, rfl⟩
  go_wp2_with fail
  refine (HM.out ()).mono ?_
  rintro e w2 ⟨sv, rs, rfl, hok, -, hown, hg2⟩
  have HT : Hid (∀ u : Unit, _) := fun _ => text_good 1 2 n z sv rs w2 hown.recs hwh hok
  have hsm := serB_small 1 2 n z rs (by omega) (by omega) hok
  have HPB : Hid _ := parse_back 1 2 n z rs hwh hok
  have HTU : Hid (∀ i q, _) := turned_none 1 2 n z rs
  have G2 : Hid _ := hg2
  clear hg2 hok hown
  generalize serB 1 2 n z rs = L at *
  go_wp2_with fail
  refine (HT.out ()).mono ?_
  rintro e w3 ⟨rfl, hg3⟩
  have G3 : Hid _ := hg3
  clear hg3 HT HM HS HV
  have hL0 : (L == []) = false := by
    cases L with
    | nil => simp at hsm
    | cons _ _ => rfl
  obtain ⟨cb, W4, cs, hcv, hg4, hblk, hcl, hcs⟩ := conv_bytes2 w3 L
  have G4 : Hid _ := hg4
  have C4 : Hid (∀ j (h : j < L.length), W4.cell? ⟨w3.heap.size, j, none⟩ = some (.int .u8 (L[j].toNat : Int))) := fun j h => cell_marked hblk (hcs j h)
  have F4 : Hid (∀ j, j < L.length → W4.frozen? ⟨w3.heap.size, j, none⟩ = false) := fun j h => by
    simp only [World.frozen?, hblk]
    simp
    omega
  clear hg4 hcs hblk hcl
  go_wp2_with fail
  refine (pick_any at' L.length _ ha (by omega) (by omega)).mono ?_
  rintro e w4 ⟨rfl, rfl⟩
  have hi := pickN_lt at' L.length (by omega)
  generalize pickN at' L.length = i at *
  have HP : Hid (∀ W, _) := fun W => pick_at by' 255 255 W hb rfl (by omega) (by omega)
  have hd := pickN_lt by' 255 (by omega)
  generalize pickN by' 255 = d at *
  have c4 := C4.out i hi
  have f4 := F4.out i hi
  obtain ⟨q, hq⟩ : ∃ q : UInt8, q = UInt8.ofNat (L[i].toNat ^^^ (1 + d)) := ⟨_, rfl⟩
  have hxl : L[i].toNat ^^^ (1 + d) < 2 ^ 8 := Nat.xor_lt_two_pow (by have := L[i].toNat_lt; omega) (by omega)
  have hqn : q.toNat = L[i].toNat ^^^ (1 + d) := by
    rw [hq, UInt8.toNat_ofNat']
    omega
  have hne : q ≠ L[i] := by
    rintro rfl
    have h0 : L[i].toNat ^^^ (1 + d) = L[i].toNat ^^^ 0 := by rw [← hqn, Nat.xor_zero]
    have := xor_cancel_left h0
    omega
  have ex : bits .xor .u8 (L[i].toNat : Int) (IntKind.u8.wrap (IntKind.i64.wrap (1 + (d : Int)))) = (q.toNat : Int) := by
    rw [show IntKind.u8.wrap (IntKind.i64.wrap (1 + (d : Int))) = ((1 + d : Nat) : Int) from by rw [IntKind.wrap_i64, IntKind.wrap_u8]; omega, u8_xor_nat _ _ L[i].toNat_lt (by omega), hqn]
  obtain ⟨kt, hkt⟩ := HTU.out i q hi hne
  have HKT : Hid _ := hkt
  have hke := parse_err _ kt hkt
  have e1 : (kt != 0) = true := by simp; omega
  have HCV : Hid (∀ W, (w4.setCell ⟨w3.heap.size, i, none⟩ (.int .u8 (q.toNat : Int))).drew.grownBy W none → (convert 72 9 (.slice (some ⟨w3.heap.size, 0, none⟩) L.length cb)).run Try.prog W = .ok (.string ⟨(L.set i q).toArray⟩) W) := by
    intro W hW
    have h := conv_cells W w3.heap.size cb (L.set i q) ?_
    · rw [List.length_set] at h
      exact h
    · intro j hj
      rw [List.length_set] at hj
      have hlt4 : w3.heap.size < w4.heap.size := World.block_lt_of_cell? w4 _ c4
      have hblk := hW.block w3.heap.size (by simpa [World.drew] using hlt4) (by simp)
      rw [World.cell?_of_block (w := (w4.setCell ⟨w3.heap.size, i, none⟩ (.int .u8 (q.toNat : Int))).drew) (w' := W) hblk]
      show (w4.setCell ⟨w3.heap.size, i, none⟩ (.int .u8 (q.toNat : Int))).cell? _ = _
      by_cases hji : j = i
      · subst hji
        rw [World.cell?_setCell_same (h := c4), List.getElem_set_self]
      · rw [World.cell?_setCell_other (h := fun e => hji (by simp only [Addr.mk.injEq] at e; omega)), List.getElem_set_ne (by omega)]
        exact C4.out j hj
  have HG5 : Hid (w1.grownBy (w4.setCell ⟨w3.heap.size, i, none⟩ (.int .u8 (q.toNat : Int))).drew none) := by
    have h := gtrans G2.out G3.out
    exact gtrans (gfresh (k := w3.heap.size) (gtrans h G4.out) h.size) (drew_grown _ 1 none)
  have HPA : Hid (∀ W, _) := fun W => pparse L W (by omega)
  have HPS : Hid (∀ W, _) := fun W => pparse (L.set i q) W (by rw [List.length_set]; omega)
  clear hq hxl hqn hne hkt hke HTU C4 F4 hcv
  go_wp2_with fail
  go_region_with (go_at_call 40; refine (HP.out _).mono ?_; rintro e w5 ⟨rfl, rfl⟩)
  all_goals
    generalize (w4.setCell ⟨w3.heap.size, i, none⟩ (.int .u8 (q.toNat : Int))).drew = W5 at *
    go_wp2_with fail
    refine (HPA.out _).mono ?_
    rintro e w6 ⟨hg6, (⟨k6, hk, rfl⟩ | ⟨f6, t6, b6, z6, rs6, v6, hk, rfl, hown⟩)⟩
    · rw [HPB.out] at hk
      cases hk
    obtain ⟨a6, l6, c6, rfl⟩ := hown.slice
    have hcv6 := HCV.out (w6.alloc (.cells #[.int .i64 (f6 : Nat), .int .i64 (t6 : Nat), .int .i64 (b6 : Nat), .int .i64 (z6 : Nat), .slice a6 l6 c6] 24)) (gallocR hg6 _)
    have G6 : Hid _ := hg6
    clear hg6 hk hown
    go_wp2_with fail
    refine (HPS.out _).mono ?_
    rintro e w7 ⟨hg7, (⟨k7, hk, rfl⟩ | ⟨f7, t7, b7, z7, rs7, v7, hk, rfl, hown⟩)⟩
    · rw [HKT.out] at hk
      cases hk
      have G7 : Hid _ := hg7
      clear hg7
      go_wp2
      go_ret
      exact ⟨rfl, gallocR (gtrans HG5.out (gtrans (gallocR G6.out _) G7.out)) _⟩
    · rw [HKT.out] at hk
      cases hk
end Go.Proofs.Ytdjmhagclcfnfaa
/- Lists of ints and ints, opened. -/
namespace Go.Proofs.Ytdjmhagclcfnfaa
open Go.ChangeShapes Go.WideShapes Go.ChangeAt Go.RowKit

theorem wf_i64 {n : Int} (h : (Lit.int .i64 n).wf = true) : I64 n := by
  simp only [Lit.wf, Bool.and_eq_true, decide_eq_true_eq] at h
  exact ⟨h.1, h.2⟩
theorem getD_at (zs : List Int) (j : Nat) (h : j < zs.length) : zs.getD j 0 = zs[j] := by
  rw [List.getD_eq_getElem?_getD, List.getElem?_eq_getElem h, Option.getD_some]
set_option maxRecDepth 100000 in
theorem open_nums {H : Type} {enc : TypeId × Value → H} {W : World} {base : Nat} {v : Value} {d : DataW H} {p : List MemPlace} (hv : Value.okWide Try.prog W .any base 64 v) (h : DataW.Trod enc Try.prog W 0 (fun _ => true) true 64 v d p) :
    ∃ xs : List Int, Ints W.heap.size W v xs ∧ (∀ x ∈ xs, I64 x) ∧ xs.length ≤ 9223372036854775807 := by
  obtain ⟨a, len, cap, rfl⟩ := okWide_slice Try.underlying64 hv
  obtain ⟨fuel, hf⟩ := h
  rcases open_ints Try.underlying64 Try.underlying3 Try.cellsInt hf with ⟨e, _⟩ | ⟨a', len', cap', zs, e, _, hl, hm, hzl, _, hc, hwf⟩
  · simp [Value.cells] at e
    obtain ⟨rfl, rfl, rfl⟩ := e
    exact ⟨[], .inl ⟨rfl, none, 0, rfl⟩, (fun x hx => by cases hx), by simp⟩
  · simp [Value.cells] at e
    obtain ⟨rfl, rfl, rfl⟩ := e
    simp only [if_true] at hzl
    have hl2 : (zs.take len).length = len := by rw [List.length_take]; omega
    have hm' : cap ≤ 9223372036854775807 := hm
    refine ⟨zs.take len, ?_, fun x hx => wf_i64 (hwf x (List.mem_of_mem_take hx)), by omega⟩
    by_cases h0 : len = 0
    · subst h0
      exact .inl ⟨by simp, some a', cap, rfl⟩
    · have c0 := hc 0 (by omega)
      obtain ⟨b, o, sp⟩ := a'
      obtain rfl : sp = none := by
        have := World.cell?_spot c0
        simpa [Addr.add] using this
      refine .inr ⟨b, o, cap, by rw [hl2], World.block_lt_of_cell? W _ c0, fun j hj => ?_⟩
      rw [hl2] at hj
      have := hc j (by omega)
      rw [Addr.add_lit, getD_at zs j (by omega)] at this
      rw [List.getElem_take]
      exact this
end Go.Proofs.Ytdjmhagclcfnfaa
/- The statement on Turned. -/
namespace Go.Proofs.Ytdjmhagclcfnfaa
open Go.ChangeShapes Go.WideShapes Go.ChangeAt Go.RowKit

set_option maxRecDepth 100000 in
theorem turned_lifted (os : Os) (started : os.Started) (H : Type) (enc : TypeId × Value → H) :
    ReturnsInHanded {} Try.checked os 12 .any (Rows.turnedSpec.pre6 enc Try.prog Try.f12 Rows.turnedRow.domain false) (Rows.turnedSpec.post enc Try.prog Try.f12 false true false false) := by
  refine returnsInHanded_of_change_sized (C := Try.checked) Try.own started (by kernel_rfl) Try.func12
    (ChangeSpec.witness6 (enc := enc) (C := Try.checked) false ⟨#[], #[.int .i64 0, .int .i64 0, .slice none 0 0, .int .i64 0, .int .i64 0], []⟩ 8 (by kernel_rfl) (by kernel_rfl) (by kernel_rfl) (by kernel_rfl)) ?_
  intro W base args ds gs before hval0 hW _ _ _
  have hval : ∀ (j : Nat) t v, Try.f12.params[j]? = some t → args[j]? = some v → Value.okWide Try.prog W .any base t v := hval0
  have hW' := hW
  obtain ⟨p, q, hA0, hV, rfl, _, _⟩ := hW
  have hA : DataW.TrodAll enc Try.prog W 0 (fun _ => true) true Try.f12.params.toList args.toList ds p := hA0
  rw [Try.params12] at hA hval
  obtain ⟨v0, vs0, d0, ds0, p0, q0, hargs, rfl, rfl, h0, r0⟩ := trodAll_cons hA
  obtain ⟨v1, vs1, d1, ds1, p1, q1, rfl, rfl, rfl, h1, r1⟩ := trodAll_cons r0
  obtain ⟨v2, vs2, d2, ds2, p2, q2, rfl, rfl, rfl, h2, r2⟩ := trodAll_cons r1
  obtain ⟨v3, vs3, d3, ds3, p3, q3, rfl, rfl, rfl, h3, r3⟩ := trodAll_cons r2
  obtain ⟨v4, vs4, d4, ds4, p4, q4, rfl, rfl, rfl, h4, r4⟩ := trodAll_cons r3
  obtain ⟨rfl, rfl, rfl⟩ := trodAll_nil r4
  obtain rfl : args = #[v0, v1, v2, v3, v4] := by cases args; simp_all
  obtain ⟨rfl, rfl⟩ := trodVars_none hV
  obtain ⟨a0, rfl, rfl, rfl, w0⟩ := open_int Try.underlying3 (hval 0 3 v0 rfl rfl) h0
  obtain ⟨a1, rfl, rfl, rfl, w1⟩ := open_int Try.underlying3 (hval 1 3 v1 rfl rfl) h1
  obtain ⟨a3, rfl, rfl, rfl, w3⟩ := open_int Try.underlying3 (hval 3 3 v3 rfl rfl) h3
  obtain ⟨a4, rfl, rfl, rfl, w4⟩ := open_int Try.underlying3 (hval 4 3 v4 rfl rfl) h4
  obtain ⟨xs, hi, hx, hl⟩ := open_nums (hval 2 64 v2 rfl rfl) h2
  clear hA0 hval0
  simp only [List.append_nil] at hW'
  have hlt : ∀ x ∈ p2, x.block < W.heap.size := fun x hx => by simpa using hW'.lt x (by simp [hx])
  refine (turned_walk a0 a1 a3 a4 v2 xs W (wf_i64 w0) (wf_i64 w1) (wf_i64 w3) (wf_i64 w4) hi hx hl).mono fun e W' ⟨he, hg⟩ => ?_
  subst he
  have hb := below_of_grown hg
  refine ⟨_, rfl, _, _, _, [], [] ++ ([] ++ (p2 ++ ([] ++ ([] ++ [])))), [], hW', ?_, ?_, rfl, hb.frame _, fun h => by cases h⟩
  · exact trodAll_cons_mk (shut_bool Try.underlying4 _) trodAll_mk0
  · exact trodAll_cons_mk (shut_int Try.underlying3 w0) (trodAll_cons_mk (shut_int Try.underlying3 w1) (trodAll_cons_mk (Below.trod Try.laidOut (by kernel_rfl) (of_decide_eq_true (by kernel_rfl)) h2 hb hlt) (trodAll_cons_mk (shut_int Try.underlying3 w3) (trodAll_cons_mk (shut_int Try.underlying3 w4) trodAll_mk0))))

theorem turned_holds : Rows.TurnedSaid :=
  OpenClaim.holds_of_wide 12 Try.f12 rfl rfl rfl rfl rfl rfl rfl ⟨rfl, rfl, rfl, rfl, rfl⟩ rfl rfl rfl rfl rfl (by kernel_rfl) Try.func12 (by kernel_rfl)
    (of_decide_eq_true (by kernel_rfl)) (by unfold Func.isWrapper; first | (rw [if_pos (by decide +kernel)]; kernel_rfl) | (rw [if_neg (by decide +kernel)]; exact ⟨rfl, rfl⟩))
    (fun os started H enc _ => turned_lifted os started H enc)
end Go.Proofs.Ytdjmhagclcfnfaa
