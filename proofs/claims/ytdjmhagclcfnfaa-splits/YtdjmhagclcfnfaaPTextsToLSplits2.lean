/- PTexts, PSplit, Sw, SwOwn, LSplits, LSplits2 -/
import Derived.Test.YtdjmhagclcfnfaaPChunkWToRSplit
import Derived.Test.YtdjmhagclcfnfaaLWrites3ToPSplit1
import Derived.Test.YtdjmhagclcfnfaaLOwn2
import Derived.OpenShut
import Derived.ShutString
/- The program's chunkTexts. -/
namespace Go.Proofs.Ytdjmhagclcfnfaa
open Go.RowKit Go.Shelf

theorem Own1.set {e : TypeId} {B : Nat} {W : World} {g l cp : Nat} {xs : List Value} (h : Own1 e B W (.slice (some ⟨g, 0, none⟩) l cp) xs) (k : Nat) (x : Value) : Own1 e B (W.setCell ⟨g, k, none⟩ x) (.slice (some ⟨g, 0, none⟩) l cp) (xs.set k x) := by
  have h1 := h.1
  rcases h.2 with ⟨e0, h0⟩ | ⟨g', cap, cur, e0, hb, hg, hc, hm, hs, ht⟩
  · cases e0
  · have e1 := e0
    simp only [Value.slice.injEq, Option.some.injEq, Addr.mk.injEq] at e1
    obtain ⟨⟨rfl, -, -⟩, -, -⟩ := e1
    refine ⟨by simp, .inr ⟨g, cap, cur.setIfInBounds k x, by simpa using e0, hb, block_set (i := k) hg x, by simpa using hc, hm, by simpa using hs, ?_⟩⟩
    rw [Array.toList_setIfInBounds, List.length_set, List.take_set, ht]

/-- The texts of the first k pieces, the others still empty. -/
def texK (F : Nat → Value) (n k : Nat) : List Value := (List.range k).map F ++ List.replicate (n - k) (.string ⟨#[]⟩)
theorem texK_set (F : Nat → Value) (n k : Nat) (h : k < n) : (texK F n k).set k (F k) = texK F n (k + 1) := by
  unfold texK
  rw [List.set_append_right _ _ (by simp), List.length_map, List.length_range, Nat.sub_self, show n - k = (n - (k + 1)) + 1 from by omega, List.replicate_succ, List.set_cons_zero, List.range_succ, List.map_append, List.append_assoc]
  rfl
theorem texK_length (F : Nat → Value) (n k : Nat) (h : k ≤ n) : (texK F n k).length = n := by
  simp [texK]
  omega
theorem made_texts (n : Nat) : (madeCells #[.string ⟨#[]⟩] n).toList = List.replicate n (.string ⟨#[]⟩) := by
  apply List.ext_getElem?
  intro i
  rw [Array.getElem?_toList]
  by_cases hi : i < n
  · rw [List.getElem?_replicate, if_pos hi]
    simp [madeCells, hi, Nat.mod_one]
  · rw [List.getElem?_eq_none (by simp; omega), Array.getElem?_eq_none (by simp [size_madeCells]; omega)]

set_option maxRecDepth 100000 in
set_option maxHeartbeats 4000000 in
theorem chunkTexts_any (f t b z all : Nat) (v : Value) (qs : List (Value × List Rc)) (B : Nat) (w : World) (hv : Own1 22 B w v (qs.map Prod.fst)) (hq : ∀ q ∈ qs, Recs w.heap.size w q.1 q.2) (hf : f < 4294967296) (ht : t < 4294967296) (hb : b < 4294967296) (h9 : (z : Int) ≤ 64) (hall : all < 4294967296) (hn : qs.length ≤ 200) (hn1 : ∀ q ∈ qs, q.2.length ≤ 100) (ho : ∀ q ∈ qs, ∀ r ∈ q.2, RecFit z r) :
    Calls Try.prog 67 #[.agg #[.int .i64 f, .int .i64 t, .int .i64 b, .int .i64 z, .int .i64 all], v] w fun e w' => ∃ v', e = .returned v' ∧ Own1 9 w.heap.size w' v' ((List.range qs.length).map fun i => texV (chunkB f t b z all i qs.length ((qs[i]?.map Prod.snd).getD []))) ∧ Below w.heap.size w w' := by
  obtain ⟨i0, hi, hz0, hz1, hz2⟩ := info_parts Try.infoStr
  obtain ⟨va, vc, rfl⟩ := hv.slice
  rw [List.length_map] at hv
  rw [List.length_map]
  have hmk : ∀ W : World, (Instr.makeSlice 52 (.int .i64 qs.length) (.int .i64 qs.length)).run Try.prog W = .ok (.slice (some ⟨W.heap.size, 0, none⟩) qs.length qs.length) (W.alloc (.cells (madeCells (Value.string ⟨#[]⟩).cells (qs.length * 1)) 9)) := by
    intro W
    have := run_make (P := Try.prog) W 52 9 i0 _ Try.underlying52 hi hz0 .i64 .i64 (qs.length : Int) (qs.length : Int) (by omega) (Int.le_refl _) (by rw [hz2]; omega) (by omega)
    rw [hz1, show ((qs.length : Int)).toNat = qs.length from by omega] at this
    exact this
  go_enter Try.func67, Try.ntmps67
  go_wp2
  obtain ⟨M, hM⟩ : ∃ M, M = madeCells #[.string ⟨#[]⟩] qs.length := ⟨_, rfl⟩
  obtain ⟨W1, hW1⟩ : ∃ W1, W1 = (w.alloc (.cells #[.int .i64 f, .int .i64 t, .int .i64 b, .int .i64 z, .int .i64 all] 101)).alloc (.cells (madeCells #[.string ⟨#[]⟩] qs.length) 9) := ⟨_, rfl⟩
  have hs1 : W1.heap.size = w.heap.size + 2 := by rw [hW1]; simp
  have hB1 : Below w.heap.size w W1 := by rw [hW1]; exact ((Below.refl _ _).alloc (Nat.le_refl _) _).alloc (by simp) _
  have hh1 : W1.heap[w.heap.size]? = some (.cells #[.int .i64 f, .int .i64 t, .int .i64 b, .int .i64 z, .int .i64 all] 101 (0, 0)) := by rw [hW1]; exact (Below.heap_alloc _ _ _ (by simp)).trans (World.alloc_heap_new _ _)
  obtain ⟨F, hF⟩ : ∃ F : Nat → Value, F = fun i => texV (chunkB f t b z all i qs.length ((qs[i]?.map Prod.snd).getD [])) := ⟨_, rfl⟩
  have hO1 : Own1 9 (w.heap.size + 1) W1 (.slice (some ⟨w.heap.size + 1, 0, none⟩) qs.length qs.length) (texK F qs.length 0) := by
    have hl : (texK F qs.length 0).length = qs.length := texK_length F _ _ (Nat.zero_le _)
    refine ⟨by rw [Nat.mul_one], .inr ⟨w.heap.size + 1, qs.length, M, by rw [hl], Nat.le_refl _, ?_, by rw [hl]; exact Nat.le_refl _, ?_, ?_, ?_⟩⟩
    · rw [hW1, hM]
      have h := World.alloc_heap_new (w.alloc (.cells #[.int .i64 f, .int .i64 t, .int .i64 b, .int .i64 z, .int .i64 all] 101)) (.cells (madeCells #[.string ⟨#[]⟩] qs.length) 9)
      rwa [World.size_alloc] at h
    · exact Nat.le_trans hn (by decide)
    · rw [hM, size_madeCells, Nat.mul_one]
    · rw [hM, made_texts, hl, Nat.mul_one, List.take_of_length_le (by simp)]
      simp [texK]
  rw [← hW1]
  have HV : Hid (Own1 22 B w (.slice va qs.length vc) (qs.map Prod.fst)) := hv
  have HQ : Hid _ := hq
  have HO : Hid _ := ho
  have HN1 : Hid _ := hn1
  have HF : Hid _ := hF
  clear hW1 hM hmk hz0 hz1 hz2 hi hv hq ho hn1 hF
  go_loopw [13] (fun i wr => ∃ k : Nat, k ≤ qs.length ∧ i = .int .i64 k ∧ Own1 9 (w.heap.size + 1) wr (.slice (some ⟨w.heap.size + 1, 0, none⟩) qs.length qs.length) (texK F qs.length k) ∧ wr.heap[w.heap.size]? = some (.cells #[.int .i64 f, .int .i64 t, .int .i64 b, .int .i64 z, .int .i64 all] 101 (0, 0)) ∧ Below w.heap.size w wr) (fun i _ => qs.length - (intOf i).toNat)
  case atStart => exact ⟨0, Nat.zero_le _, rfl, hO1, hh1, hB1⟩
  case round =>
    obtain ⟨k, hk, rfl, hO, hh, hB⟩ := hrel
    have H_O : Hid (Own1 9 (w.heap.size + 1) wr (.slice (some ⟨w.heap.size + 1, 0, none⟩) qs.length qs.length) (texK F qs.length k)) := hO
    have H_H : Hid _ := hh
    have H_B : Hid (Below w.heap.size w wr) := hB
    have d0 := boxed_cell (i := 0) (v := .int .i64 f) hh rfl
    have d1 := boxed_cell (i := 1) (v := .int .i64 t) hh rfl
    have d2 := boxed_cell (i := 2) (v := .int .i64 b) hh rfl
    have d3 := boxed_cell (i := 3) (v := .int .i64 z) hh rfl
    have d4 := boxed_cell (i := 4) (v := .int .i64 all) hh rfl
    have hwl : w.heap.size < wr.heap.size := (Array.getElem?_eq_some_iff.1 hh).1
    clear hO hh hB hO1 hh1 hB1
    by_cases hlt : k < qs.length
    · obtain ⟨g, rfl, hgB, hc, -⟩ := Own1.at HV.out (k := k) (by rw [List.length_map]; exact hlt)
      have hgl : g < w.heap.size := World.block_lt_of_cell? _ _ hc
      have hc' : wr.cell? ⟨g, k, none⟩ = some qs[k].1 := by
        rw [H_B.out.cell (p := ⟨g, k, none⟩) hgl, hc]
        simp
      have hmem : qs[k] ∈ qs := List.getElem_mem hlt
      have hR : Recs wr.heap.size wr qs[k].1 qs[k].2 := (HQ.out _ hmem).moved H_B.out
      have HW : Hid (∀ u : Unit, _) := fun _ => writeChunk_any f t b z all k qs.length qs[k].1 qs[k].2 wr hR hf ht hb h9 hall (by omega) (by omega) (HN1.out _ hmem) (HO.out _ hmem)
      have HFK : Hid (F k = .string ⟨(chunkB f t b z all k qs.length qs[k].2).toArray⟩) := by
        show _ = _
        rw [HF.out]
        simp [texV, hlt]
      obtain ⟨qa, qc, hqv⟩ := hR.slice
      have hql := HN1.out _ hmem
      clear hR hmem hc
      generalize qs[k].2 = qr at *
      rw [hqv] at hc' HW
      clear hqv
      generalize qr.length = qn at *
      go_wp2_with fail
      refine (HW.out ()).mono ?_
      rintro e w2 ⟨rfl, hb2⟩
      have o2 := H_O.out.kept (gbelow hb2)
      have O2 : Hid (Own1 9 (w.heap.size + 1) w2 (.slice (some ⟨w.heap.size + 1, 0, none⟩) qs.length qs.length) (texK F qs.length k)) := o2
      obtain ⟨g2, hg2, -, hc2, hz2⟩ := Own1.at o2 (k := k) (by rw [texK_length F _ _ hk]; exact hlt)
      simp only [Option.some.injEq, Addr.mk.injEq] at hg2
      obtain ⟨rfl, -, -⟩ := hg2
      have H2 : Hid _ := (hb2.block _ hwl).trans H_H.out
      have B2 : Hid (Below w.heap.size w w2) := H_B.out.trans (hb2.mono H_B.out.size)
      have hset := texK_set F qs.length k hlt
      rw [HFK.out] at hset
      have HSET : Hid _ := hset
      clear o2 hb2 d0 d1 d2 d3 d4 HW hset hc'
      go_wp2
      go_roundw
      case rel =>
        have o3 := Own1.set O2.out k (.string ⟨(chunkB f t b z all k qs.length qr).toArray⟩)
        rw [HSET.out] at o3
        exact ⟨k + 1, by omega, by go_num, o3, (Below.heap_setCell _ _ _ _ (by show w.heap.size ≠ w.heap.size + 1; omega)).trans H2.out, B2.out.setCell (p := ⟨w.heap.size + 1, k, none⟩) (by simp) _⟩
      case measure => simp [intOf]; omega
    · obtain rfl : k = qs.length := by omega
      have hfin : texK F qs.length qs.length = (List.range qs.length).map F := by simp [texK]
      have o3 := H_O.out
      rw [hfin, HF.out] at o3
      have O3 : Hid (Own1 9 (w.heap.size + 1) wr (.slice (some ⟨w.heap.size + 1, 0, none⟩) qs.length qs.length) ((List.range qs.length).map fun i => texV (chunkB f t b z all i qs.length ((qs[i]?.map Prod.snd).getD [])))) := o3
      clear hfin o3 d0 d1 d2 d3 d4
      go_wp2
      go_ret
      exact ⟨_, rfl, O3.out.base (by omega), H_B.out⟩
end Go.Proofs.Ytdjmhagclcfnfaa
/- The program's Split. -/
namespace Go.Proofs.Ytdjmhagclcfnfaa
open Go.RowKit Go.Shelf

theorem splitR_cut (f t b z : Nat) (rs : List Rc) (limit : Int) (qs : List (Value × List Rc)) (hq : qs.map Prod.snd = (cutS limit rs).1 ++ [(cutS limit rs).2.1]) :
    ((List.range qs.length).map fun i => texV (chunkB f t b z rs.length i qs.length ((qs[i]?.map Prod.snd).getD []))) = (chunksR f t b z rs (startsR limit rs)).map texV := by
  have hp := cut_parts limit rs
  rw [← hq] at hp
  have hl : qs.length = (startsR limit rs).length := by
    have := congrArg List.length hp
    simpa using this
  unfold chunksR
  rw [List.map_map, hl]
  refine List.map_congr_left fun i hi => ?_
  rw [List.mem_range] at hi
  have h2 : (qs.map Prod.snd)[i]? = some (partR (startsR limit rs) rs i) := by
    rw [hp]
    simp [hi]
  rw [List.getElem?_map] at h2
  simp only [Function.comp_apply]
  rw [h2]
  rfl

theorem pieces_ok (z : Int) (rs : List Rc) (limit : Int) (qs : List (Value × List Rc)) (hq : qs.map Prod.snd = (cutS limit rs).1 ++ [(cutS limit rs).2.1]) (ho : ∀ r ∈ rs, RecFit z r) :
    qs.length ≤ rs.length + 1 ∧ (∀ q ∈ qs, q.2.length ≤ rs.length) ∧ ∀ q ∈ qs, ∀ r ∈ q.2, RecFit z r := by
  have hp := cut_parts limit rs
  rw [← hq] at hp
  have hl := cut_len limit rs
  have h1 := congrArg List.length hq
  simp only [List.length_map, List.length_append, List.length_cons, List.length_nil] at h1
  have key : ∀ q ∈ qs, ∃ i, q.2 = partR (startsR limit rs) rs i := fun q hqm => by
    have : q.2 ∈ qs.map Prod.snd := List.mem_map_of_mem hqm
    rw [hp, List.mem_map] at this
    obtain ⟨i, -, e⟩ := this
    exact ⟨i, e.symm⟩
  refine ⟨by omega, fun q hqm => ?_, fun q hqm r hr => ?_⟩
  · obtain ⟨i, e⟩ := key q hqm
    rw [e, partR, List.length_drop, List.length_take]
    omega
  · obtain ⟨i, e⟩ := key q hqm
    rw [e, partR] at hr
    exact ho r (List.mem_of_mem_take (List.mem_of_mem_drop hr))

set_option maxRecDepth 100000 in
set_option maxHeartbeats 4000000 in
theorem psplit (l : List UInt8) (limit : Int) (w : World) (hl : l.length ≤ 4611686018427387904) (hlo : -9223372036854775808 ≤ limit) (hhi : limit ≤ 9223372036854775807) :
    Calls Try.prog 29 #[.string ⟨l.toArray⟩, .int .i64 limit] w (ToldP l limit w) := by
  have HP : Hid (∀ W, _) := fun W => pparse l W hl
  go_enter Try.func29, Try.ntmps29
  go_wp2_with fail
  refine (HP.out _).mono ?_
  rintro e w1 ⟨hg1, (⟨k, hk, rfl⟩ | ⟨f, t, b, z, rs, v, hk, rfl, hown⟩)⟩
  · have hke := parse_err l k hk
    have e1 : (k != 0) = true := by simp; omega
    have HA : Hid (splitR l limit = .inl k) := by
      show _ = _
      unfold splitR
      rw [hk]
    have G1 : Hid _ := hg1
    clear hk hg1 hke
    go_wp2
    refine bodyPost_ret (results_tmp2 rfl _ _ _) rfl ?_
    exact ⟨gallocR G1.out _, .inl ⟨k, HA.out, rfl⟩⟩
  obtain ⟨-, hw, ho⟩ := parse_exact l f t b z rs hk
  obtain ⟨h1, h2, h3, h4, h5, h6, h7, h8, h9⟩ : (0 : Int) ≤ f ∧ (f : Int) ≤ 2147483647 ∧ (1 : Int) ≤ t ∧ (t : Int) ≤ 2147483647 ∧ (f : Int) ≠ t ∧ (1 : Int) ≤ b ∧ (b : Int) ≤ 100 ∧ (1 : Int) ≤ z ∧ (z : Int) ≤ 64 := of_decide_eq_true hw
  have hn : rs.length ≤ 100 := by have := recsOk_length b z rs ho (by omega); omega
  have hfit := recsOk_fit b z (-1) rs h7 (by omega) ho
  obtain ⟨av, lv, cv, rfl⟩ := hown.slice
  have hlv : lv = rs.length := by
    obtain ⟨a', c', e⟩ := (OwnsR.recs hown).slice
    cases e
    rfl
  subst hlv
  obtain ⟨W1, hW1⟩ : ∃ W1, W1 = w1.alloc (.cells #[.int .i64 f, .int .i64 t, .int .i64 b, .int .i64 z, .slice av rs.length cv] 24) := ⟨_, rfl⟩
  have s1 : Hid (W1.heap[w1.heap.size]? = some (.cells #[.int .i64 f, .int .i64 t, .int .i64 b, .int .i64 z, .slice av rs.length cv] 24 (0, 0))) := by rw [hW1]; exact World.alloc_heap_new _ _
  have g1 : Hid (w.grownBy W1 none) := by rw [hW1]; exact gallocR hg1 _
  have R1 : Hid (Recs W1.heap.size W1 (.slice av rs.length cv) rs) := by rw [hW1]; exact (OwnsR.alloc hown _).recs
  have HK : Hid _ := hk
  have hz1 : w1.heap.size < W1.heap.size := by rw [hW1]; simp
  clear hg1 hown hk hw h1 h3 h5 h6 h8 ho
  go_wp2_with fail
  rw [← hW1]
  clear hW1
  refine (values_any av rs.length cv W1).mono ?_
  rintro e W2 ⟨rfl, hW2⟩
  have b2 : Below W1.heap.size W1 W2 := by rw [hW2]; exact (Below.refl _ _).alloc (Nat.le_refl _) _
  have c2 : W2.cell? ⟨W1.heap.size, 0, none⟩ = some (.slice av rs.length cv) := by rw [hW2]; simp [go_sem]
  have z2 : W1.heap.size < W2.heap.size := by rw [hW2]; simp
  have HL : Hid (∀ u : Unit, _) := fun _ => longest_any z (.slice av rs.length cv) rs W1.heap.size W2 (R1.out.moved b2) c2 z2 h9 hn hfit
  have B2 : Hid (Below W1.heap.size W1 W2) := b2
  clear hW2 b2 c2 z2
  go_wp2_with fail
  refine (HL.out ()).mono ?_
  rintro e W3 ⟨rfl, hb3⟩
  have B3 : Hid (Below W1.heap.size W1 W3) := B2.out.trans (hb3.mono B2.out.size)
  have hmost := mostR_fit z h9 rs hfit
  obtain ⟨c0, c1, c2, c3, c4, -⟩ := box5_cells ((B3.out.block _ hz1).trans s1.out)
  have hz3 : w1.heap.size < W3.heap.size := Nat.lt_of_lt_of_le hz1 B3.out.size
  have HSP : Hid (splitR l limit = if limit < ((28 + mostR rs : Nat) : Int) then .inl 12 else .inr (chunksR f t b z rs (startsR limit rs))) := by
    show _ = _
    unfold splitR
    rw [HK.out]
  clear hb3 HL
  generalize mostR rs = mo at *
  by_cases hc : limit < ((28 + mo : Nat) : Int)
  · have e1 : decide (limit < 28 + (mo : Int)) = true := by simp; omega
    have HA : Hid (splitR l limit = .inl 12) := by
      show _ = _
      rw [HSP.out, if_pos hc]
    go_wp2
    refine bodyPost_ret (results_tmp2 rfl _ _ _) rfl ?_
    exact ⟨gtrans g1.out (gbelow B3.out), .inl ⟨12, HA.out, rfl⟩⟩
  · have e1 : decide (limit < 28 + (mo : Int)) = false := by simp; omega
    have HA : Hid (splitR l limit = .inr (chunksR f t b z rs (startsR limit rs))) := by
      show _ = _
      rw [HSP.out, if_neg hc]
    go_wp2_with fail
    have hS3 : W3.heap[w1.heap.size]? = some (.cells #[.int .i64 f, .int .i64 t, .int .i64 b, .int .i64 z, .slice av rs.length cv] 24 (0, 0)) := (B3.out.block _ hz1).trans s1.out
    have HS4 : Hid (∀ w4 : World, Below W3.drew.heap.size W3.drew w4 → w4.heap[w1.heap.size]? = some (.cells #[.int .i64 f, .int .i64 t, .int .i64 b, .int .i64 z, .slice av rs.length cv] 24 (0, 0)) ∧ Below W1.heap.size W1 w4) := fun w4 h => by
      have hb : Below W3.heap.size W3 w4 := (Below.refl _ _).drew.trans h
      exact ⟨(hb.block _ hz3).trans hS3, B3.out.trans (hb.mono B3.out.size)⟩
    have HS5 : Hid (∀ w4 : World, w4.heap[w1.heap.size]? = some (.cells #[.int .i64 f, .int .i64 t, .int .i64 b, .int .i64 z, .slice av rs.length cv] 24 (0, 0)) → (w4.alloc (.cells #[.slice av rs.length cv] 22)).heap[w1.heap.size]? = some (.cells #[.int .i64 f, .int .i64 t, .int .i64 b, .int .i64 z, .slice av rs.length cv] 24 (0, 0))) := fun w4 h => (Below.heap_alloc _ _ _ (Array.getElem?_eq_some_iff.1 h).1).trans h
    have HS6 : Hid (∀ w5 w6 : World, w5.heap[w1.heap.size]? = some (.cells #[.int .i64 f, .int .i64 t, .int .i64 b, .int .i64 z, .slice av rs.length cv] 24 (0, 0)) → Below w5.heap.size w5 w6 → w6.heap[w1.heap.size]? = some (.cells #[.int .i64 f, .int .i64 t, .int .i64 b, .int .i64 z, .slice av rs.length cv] 24 (0, 0))) := fun w5 w6 h hb => (hb.block _ (Array.getElem?_eq_some_iff.1 h).1).trans h
    have HPC : Hid (∀ w4 : World, Below W1.heap.size W1 w4 → _) := fun w4 h => pieces_any z limit (.slice av rs.length cv) rs w4.heap.size (w4.alloc (.cells #[.slice av rs.length cv] 22)) ((R1.out.moved h).moved ((Below.refl _ _).alloc (Nat.le_refl _) _)) (by simp [go_sem]) (by simp) h9 hn hfit hlo hhi
    have HCT : Hid (∀ (w6 : World) (vp : Value) (qs : List (Value × List Rc)) (B : Nat), Own1 22 B w6 vp (qs.map Prod.fst) → qs.map Prod.snd = (cutS limit rs).1 ++ [(cutS limit rs).2.1] → (∀ q ∈ qs, Recs w6.heap.size w6 q.1 q.2) → Calls Try.prog 67 #[.agg #[.int .i64 f, .int .i64 t, .int .i64 b, .int .i64 z, .int .i64 rs.length], vp] w6 fun e w' => ∃ a c, e = .returned (.slice a ((chunksR f t b z rs (startsR limit rs)).map texV).length c) ∧ Own1 9 w6.heap.size w' (.slice a ((chunksR f t b z rs (startsR limit rs)).map texV).length c) ((chunksR f t b z rs (startsR limit rs)).map texV) ∧ Below w6.heap.size w6 w') := fun w6 vp qs B h1 h2 h3 => by
      obtain ⟨k1, k2, k3⟩ := pieces_ok z rs limit qs h2 hfit
      refine (chunkTexts_any f t b z rs.length vp qs B w6 h1 h3 (by omega) (by omega) (by omega) h9 (by omega) (by omega) (fun q hq => Nat.le_trans (k2 q hq) hn) k3).mono ?_
      rintro e w' ⟨v', rfl, o, hb⟩
      rw [splitR_cut f t b z rs limit qs h2] at o
      obtain ⟨a, c, rfl⟩ := o.slice
      exact ⟨a, c, rfl, o, hb⟩
    generalize hN : ((chunksR f t b z rs (startsR limit rs)).map texV).length = nT at HCT
    go_region_held3 (fun w' => w'.cell? ⟨w1.heap.size, 0, none⟩ = some (.int .i64 f) ∧ w'.cell? ⟨w1.heap.size, 1, none⟩ = some (.int .i64 t) ∧ w'.cell? ⟨w1.heap.size, 2, none⟩ = some (.int .i64 b) ∧ w'.cell? ⟨w1.heap.size, 3, none⟩ = some (.int .i64 z) ∧ w'.cell? ⟨w1.heap.size, 4, none⟩ = some (.slice av rs.length cv) ∧ w'.heap[w1.heap.size]? = some (.cells #[.int .i64 f, .int .i64 t, .int .i64 b, .int .i64 z, .slice av rs.length cv] 24 (0, 0)))
      (first | with_reducible exact box5_cells hS7 | with_reducible exact box5_cells hS6 | with_reducible exact box5_cells hS5 | with_reducible exact box5_cells hS4 | exact box5_cells hS3)
      (first | (go_at_call 68; refine (headOf_any _ _ _ _ _ _ _ _).mono ?_; rintro e w4 ⟨rfl, hb4⟩; obtain ⟨hS4, hB4⟩ := HS4.out w4 hb4) | (go_at_call 61; refine (values_any _ _ _ _).mono ?_; rintro e w5 ⟨rfl, rfl⟩; have hS5 := HS5.out w4 hS4) | (go_at_call 69; refine (HPC.out w4 hB4).mono ?_; rintro e w6 ⟨vp, qs, rfl, hown6, hqs, hrec6, hb6⟩; have hS6 := HS6.out _ w6 hS5 hb6) | (go_at_call 67; refine (HCT.out w6 vp qs _ hown6 hqs hrec6).mono ?_; rintro e w7 ⟨ta, tc, rfl, o7, hb7⟩; have hS7 := HS6.out w6 w7 hS6 hb7))
    have B6 : Below W1.heap.size W1 w6 := hB4.trans (((Below.refl w4.heap.size w4).alloc (Nat.le_refl _) _).mono hB4.size |>.trans (hb6.mono (by have := hB4.size; simp; omega)))
    have B7 : Below W1.heap.size W1 w7 := B6.trans (hb7.mono B6.size)
    have O7 : Hid (Own1 9 w6.heap.size w7 (.slice ta nT tc) ((chunksR f t b z rs (startsR limit rs)).map texV)) := o7
    have G7 : Hid (w.grownBy w7 none) := gtrans g1.out (gbelow B7)
    have hz6 : w.heap.size ≤ w6.heap.size := Nat.le_trans g1.out.size B6.size
    clear o7 hb7 hown6 hqs hrec6 hb6 B6 B7 hS4 hS5 hS6 hS7
    go_wp2
    refine bodyPost_ret (results_tmp2 rfl _ _ _) rfl ?_
    exact ⟨G7.out, .inr ⟨_, _, HA.out, rfl, O7.out.base hz6⟩⟩
end Go.Proofs.Ytdjmhagclcfnfaa
/- Lists of texts that are owned, written into and looked at again. -/
namespace Go.Proofs.Ytdjmhagclcfnfaa
open Go.RowKit Go.Shelf

theorem Try.infoStrs : (Try.prog.info? 52).map (fun i => (i.zero, i.size, i.bytes)) = some (some (.slice none 0 0), 1, 24) := by kernel_rfl

/-- The slice value sv holds the texts cs, in a block below B; or there are none. -/
def Tss (B : Nat) (W : World) (sv : Value) (cs : List ByteArray) : Prop :=
  (cs = [] ∧ ∃ a cap, sv = .slice a 0 cap) ∨ ∃ b off cap, sv = .slice (some ⟨b, off, none⟩) cs.length cap ∧ b < B ∧
    ∀ j (h : j < cs.length), W.cell? ⟨b, off + j, none⟩ = some (.string cs[j])
theorem Tss.moved {W W' : World} {sv : Value} {cs : List ByteArray} (h : Tss W.heap.size W sv cs) (hb : Below W.heap.size W W') : Tss W'.heap.size W' sv cs := by
  rcases h with h | ⟨b, off, cap, e, hlt, hc⟩
  · exact .inl h
  · exact .inr ⟨b, off, cap, e, Nat.lt_of_lt_of_le hlt hb.size, fun j hj => (hb.cell (p := ⟨b, _, none⟩) hlt).trans (hc j hj)⟩
theorem Tss.slice {B : Nat} {W : World} {sv : Value} {cs : List ByteArray} (h : Tss B W sv cs) : ∃ a cap, sv = .slice a cs.length cap := by
  rcases h with ⟨rfl, a, cap, e⟩ | ⟨b, off, cap, e, _⟩
  · exact ⟨a, cap, e⟩
  · exact ⟨_, cap, e⟩
theorem Tss.at {B : Nat} {W : World} {a : Option Addr} {l cap : Nat} {cs : List ByteArray} (h : Tss B W (.slice a l cap) cs) {k : Nat} (hk : k < cs.length) :
    ∃ b off, a = some ⟨b, off, none⟩ ∧ b < B ∧ W.cell? ⟨b, off + k, none⟩ = some (.string cs[k]) := by
  rcases h with ⟨rfl, _⟩ | ⟨b, off, cap', e, hlt, hc⟩
  · simp at hk
  · simp only [Value.slice.injEq] at e
    exact ⟨b, off, e.1, hlt, hc k hk⟩

def strVals (cs : List ByteArray) : List Value := cs.map Value.string
theorem strVals_snoc (cs : List ByteArray) (r : ByteArray) : strVals (cs ++ [r]) = strVals cs ++ [.string r] := by simp [strVals]
theorem strVals_length (cs : List ByteArray) : (strVals cs).length = cs.length * 1 := by simp [strVals]
theorem strVals_at (cs : List ByteArray) (j : Nat) (h : j < cs.length) : (strVals cs)[j]? = some (.string cs[j]) := by simp [strVals, h]
theorem strVals_set (cs : List ByteArray) (k : Nat) (r : ByteArray) : strVals (cs.set k r) = (strVals cs).set k (.string r) := by simp [strVals, List.map_set]

/-- v owns the texts cs, in a block from B on. -/
def OwnsS (B : Nat) (w : World) (v : Value) (cs : List ByteArray) : Prop := w.ownsRow B 9 1 v cs.length (strVals cs)
theorem ownsS_snoc {B : Nat} {W : World} {v : Value} {pre : List ByteArray} {x : ByteArray} (h : W.ownsRow B 9 1 v (pre.length + 1) (strVals pre ++ [.string x])) : OwnsS B W v (pre ++ [x]) := by
  unfold OwnsS
  rw [strVals_snoc, List.length_append]
  exact h
theorem OwnsS.slice {B : Nat} {W : World} {v : Value} {cs : List ByteArray} (h : OwnsS B W v cs) : ∃ a cp, v = .slice a cs.length cp := by
  rcases h.2 with ⟨rfl, h0⟩ | ⟨g, cap, cur, rfl, _⟩
  · exact ⟨none, 0, by rw [h0]⟩
  · exact ⟨_, _, rfl⟩
theorem OwnsS.own_ge {B : Nat} {W : World} {v : Value} {cs : List ByteArray} (h : OwnsS B W v cs) : ∀ g, v.ownBlock = some g → B ≤ g := by
  intro g e
  rcases h.2 with ⟨rfl, _⟩ | ⟨g', cap, cur, rfl, hb, _⟩
  · simp [Value.ownBlock] at e
  · obtain rfl : g' = g := by simpa [Value.ownBlock] using e
    exact hb
theorem OwnsS.kept {B : Nat} {W W' : World} {v : Value} {cs : List ByteArray} (h : OwnsS B W v cs) (hg : W.grownBy W' none) : OwnsS B W' v cs := by
  refine World.ownsRow.kept h hg ?_
  rcases h.2 with ⟨rfl, _⟩ | ⟨g, cap, cur, rfl, _⟩
  · exact .inl rfl
  · exact .inr (by simp [Value.ownBlock])
theorem OwnsS.alloc {B : Nat} {W : World} {v : Value} {cs : List ByteArray} (h : OwnsS B W v cs) (o : Obj) : OwnsS B (W.alloc o) v cs := World.ownsRow.alloc h o
theorem OwnsS.base {B B' : Nat} {W : World} {v : Value} {cs : List ByteArray} (h : OwnsS B W v cs) (hb : B' ≤ B) : OwnsS B' W v cs := by
  refine ⟨h.1, ?_⟩
  rcases h.2 with hn | ⟨g, cap, cur, hv, hbg, rest⟩
  · exact .inl hn
  · exact .inr ⟨g, cap, cur, hv, Nat.le_trans hb hbg, rest⟩
theorem OwnsS.row {B : Nat} {W : World} {g n cap : Nat} {cs : List ByteArray} (h : OwnsS B W (.slice (some ⟨g, 0, none⟩) n cap) cs) (j : Nat) (hj : j < cs.length) :
    W.cell? ⟨g, j, none⟩ = some (.string cs[j]) := by
  have h0 : W.ownsRow B 9 1 (.slice (some ⟨g, 0, none⟩) n cap) cs.length (strVals cs) := h
  have e0 := strVals_at cs j hj
  obtain ⟨rfl⟩ : n = cs.length := by
    rcases h0.2 with ⟨e, _⟩ | ⟨g', cap', cur, e, _⟩
    · cases e
    · cases e; rfl
  have c0 := h0.cells (g := g) rfl _ _ e0
  simp only [Addr.add_lit, Nat.zero_add] at c0 ⊢
  exact c0
theorem OwnsS.store {B : Nat} {W : World} {g n cap : Nat} {cs : List ByteArray} (h : OwnsS B W (.slice (some ⟨g, 0, none⟩) n cap) cs) (k : Nat) (r : ByteArray) :
    OwnsS B (W.setCell ⟨g, k, none⟩ (.string r)) (.slice (some ⟨g, 0, none⟩) n cap) (cs.set k r) := by
  have h0 : W.ownsRow B 9 1 (.slice (some ⟨g, 0, none⟩) n cap) cs.length (strVals cs) := h
  rcases h0.2 with ⟨e, _⟩ | ⟨g', cap', cur, e, hb, hg, h1, h2, h3, h4⟩
  · cases e
  cases e
  have b1 := block_set (i := k) hg (.string r)
  have hlen : (strVals (cs.set k r)).length = (cs.set k r).length * 1 := strVals_length _
  refine ⟨hlen, .inr ⟨g, cap, _, by rw [List.length_set], hb, b1, by rw [List.length_set]; exact h1, h2, by simpa using h3, ?_⟩⟩
  rw [List.length_set, strVals_set, ← h4]
  simp only [Array.toList_setIfInBounds, List.take_set]

/-- A list that lies from the front of a block below N. -/
def OldS (N : Nat) (W : World) (s : Value) (xs : List ByteArray) : Prop :=
  (xs = [] ∧ ∃ a cap, s = .slice a 0 cap) ∨ ∃ b cap, s = .slice (some ⟨b, 0, none⟩) xs.length cap ∧ b < N ∧
    ∀ j (h : j < xs.length), W.cell? ⟨b, j, none⟩ = some (.string xs[j])
theorem OwnsS.old {B : Nat} {W : World} {v : Value} {cs : List ByteArray} (h : OwnsS B W v cs) : OldS W.heap.size W v cs := by
  rcases h.2 with ⟨rfl, hn⟩ | ⟨g, cap, cur, rfl, _, hg, _⟩
  · exact .inl ⟨List.eq_nil_of_length_eq_zero hn, none, 0, rfl⟩
  · exact .inr ⟨g, cap, rfl, (Array.getElem?_eq_some_iff.1 hg).1, h.row⟩
theorem OldS.tss {N : Nat} {W : World} {v : Value} {cs : List ByteArray} (h : OldS N W v cs) : Tss N W v cs := by
  rcases h with h | ⟨b, cap, e, hb, hc⟩
  · exact .inl h
  · refine .inr ⟨b, 0, cap, e, hb, fun j hj => ?_⟩
    have := hc j hj
    simpa only [Nat.zero_add] using this
theorem OwnsS.tss {B : Nat} {W : World} {v : Value} {cs : List ByteArray} (h : OwnsS B W v cs) : Tss W.heap.size W v cs := h.old.tss
theorem OldS.mono {N N' : Nat} {W : World} {v : Value} {cs : List ByteArray} (h : OldS N W v cs) (hN : N ≤ N') : OldS N' W v cs := by
  rcases h with h | ⟨b, cap, e, hb, hc⟩
  · exact .inl h
  · exact .inr ⟨b, cap, e, Nat.lt_of_lt_of_le hb hN, hc⟩
theorem OldS.below {N : Nat} {W W' : World} {v : Value} {cs : List ByteArray} (h : OldS N W v cs) (hb : ∀ k, k < N → W'.heap[k]? = W.heap[k]?) : OldS N W' v cs := by
  rcases h with h | ⟨b, cap, e, hlt, hc⟩
  · exact .inl h
  · exact .inr ⟨b, cap, e, hlt, fun j hj => (World.cell?_of_block (hb b hlt)).trans (hc j hj)⟩
theorem OldS.room {B N : Nat} {W W' : World} {s : Value} {xs cs : List ByteArray} {r : ByteArray} {g n n' cap cap' : Nat} (h : OldS N W s xs) (ho : OwnsS B W (.slice (some ⟨g, 0, none⟩) n cap) cs) (ho' : OwnsS B W' (.slice (some ⟨g, 0, none⟩) n' cap') (cs ++ [r])) (hg : W.grownBy W' (some g)) (hN : N ≤ W.heap.size) (hl : xs.length ≤ cs.length) : OldS N W' s xs := by
  rcases h with h | ⟨b, c, e, hlt, hc⟩
  · exact .inl h
  · refine .inr ⟨b, c, e, hlt, fun j hj => ?_⟩
    have h0 := hc j hj
    by_cases hbg : b = g
    · subst hbg
      have o0 := ho.row j (by omega)
      have p0 := ho'.row j (by rw [List.length_append]; omega)
      rw [List.getElem_append_left (by omega)] at p0
      rw [h0] at o0
      exact p0.trans o0.symm
    · exact (World.cell?_of_block (hg.block b (Nat.lt_of_lt_of_le hlt hN) (by simpa using hbg))).trans h0
theorem OldS.other {N : Nat} {W W' : World} {s : Value} {xs : List ByteArray} {go : Nat} {a : Option Addr} {l c : Nat} (h : OldS N W s xs) (hg : W.grownBy W' (some go)) (hN : N ≤ W.heap.size) (hc : W.cell? ⟨go, 0, none⟩ = some (.slice a l c)) : OldS N W' s xs := by
  rcases h with h | ⟨b, cap, e, hlt, hcs⟩
  · exact .inl h
  · refine .inr ⟨b, cap, e, hlt, fun j hj => ?_⟩
    have h0 := hcs j hj
    have hne : b ≠ go := by
      rintro rfl
      have := hcs 0 (by omega)
      rw [hc] at this
      cases this
    exact (World.cell?_of_block (hg.block b (Nat.lt_of_lt_of_le hlt hN) (by simpa using hne))).trans h0
theorem OldS.alloc {N : Nat} {W : World} {s : Value} {xs : List ByteArray} (h : OldS N W s xs) (hN : N ≤ W.heap.size) (o : Obj) : OldS N (W.alloc o) s xs := h.below fun k hk => Below.heap_alloc W o k (by omega)
theorem OldS.slice {N : Nat} {W : World} {s : Value} {xs : List ByteArray} (h : OldS N W s xs) : ∃ a cap, s = .slice a xs.length cap := h.tss.slice

/-- **'g = append(g, r)': the lists ahead stay.** -/
theorem wpList_append_sw (w : World) {ops : Array Oper} {rest : List Oper} {o : Oper} {a : Act} {Q : Exit → Act → World → Prop} (hgd : o.guard = none) (s x : Operand)
    (ho : o.op = .call { callee := .builtin .append, args := #[s, x], argTypes := #[52, 52] })
    (B : Nat) (v : Value) (cs : List ByteArray) (hs : a.eval s = v) (hown : OwnsS B w v cs) (ad : Addr) (r : ByteArray) (hx : a.eval x = .slice (some ad) 1 1)
    (hnews : ∀ j u, [Value.string r][j]? = some u → w.cell? (ad.add j) = some u) (hl : cs.length ≤ 2000) (hB : B ≤ w.heap.size)
    (h : ∀ v' w', OwnsS B w' v' (cs ++ [r]) → w.grownBy w' v.ownBlock → (∀ N sv xs, N ≤ w.heap.size → xs.length ≤ cs.length → OldS N w sv xs → OldS N w' sv xs) → (v'.ownBlock = v.ownBlock ∨ ∀ g, v'.ownBlock = some g → w.heap.size ≤ g) → wpList Try.prog ops Q rest (a.put o.dst v') w') : wpList Try.prog ops Q (o :: rest) a w := by
  obtain ⟨i0, hi, hz0, hz1, hz2⟩ := info_parts Try.infoStr
  have hml : cs.length + 1 ≤ maxLen := Nat.le_trans (show cs.length + 1 ≤ 2001 by omega) (by decide)
  have h0 : w.ownsRow B 9 1 v cs.length (strVals cs) := hown
  have h1c : ∀ u ∈ [Value.string r], u.oneCell' = true := by simp [Value.oneCell']
  rcases h0.2 with ⟨rfl, hn⟩ | ⟨g, cap, cur, rfl, _⟩
  · obtain rfl : cs = [] := List.eq_nil_of_length_eq_zero hn
    refine wpList_append_own w hgd s x 52 ho w.heap.size 9 i0 _ 1 16 Try.underlying52 hi hz0 hz1 hz2 rfl (by decide) _ _ _ hs (World.ownsRow_nil _ _ _ _) ad 1 1 _ hx rfl hnews h1c hml (by omega) (Nat.le_refl _) ?_
    intro v' w' ho' hg' _
    have hO : OwnsS w.heap.size w' v' ([] ++ [r]) := ownsS_snoc (pre := []) ho'
    exact h v' w' (hO.base hB) hg' (fun N sv xs hN _ hold => hold.below (fun k hk => hg'.block k (by omega) (by simp [Value.ownBlock]))) (.inr hO.own_ge)
  · by_cases hroom : cs.length + 1 ≤ cap
    · refine wpList_append_own_spare w hgd s x 52 ho B 9 i0 1 Try.underlying52 hi hz1 g cs.length cap _ hs h0 ad 1 1 _ hx rfl hnews h1c hroom ?_
      intro w' ho' hg'
      exact h _ w' (ownsS_snoc ho') hg' (fun N sv xs hN hxl hold => hold.room hown (ownsS_snoc ho') hg' hN hxl) (.inl rfl)
    · refine wpList_append_grows w hgd s x 52 ho 9 i0 _ 1 16 Try.underlying52 hi hz0 hz1 hz2 rfl (by decide) (some ⟨g, 0, none⟩) cs.length cap (strVals cs) hs (fun e => by cases e) h0.1 (fun b e j u hj => by cases e; exact h0.cells (g := g) rfl j u hj) ad 1 1 _ hx rfl hnews h1c (by omega) hml (by omega) ?_
      intro v' w' ho' hg'
      have hO : OwnsS w.heap.size w' v' (cs ++ [r]) := ownsS_snoc ho'
      refine h v' w' (hO.base hB) ?_ (fun N sv xs hN _ hold => hold.below (fun k hk => hg'.block k (by omega) (by simp))) (.inr hO.own_ge)
      exact ⟨hg'.os, hg'.tape, hg'.output, hg'.size, fun j hj _ => hg'.block j hj (by simp)⟩

/-- Four lists, each as its owner left it. -/
def MarkedS (N : Nat) (W : World) (vo : Value) (m : ByteArray) (n : Nat) : Prop :=
  ∃ (g cap : Nat) (ss : List Value), vo = .slice (some ⟨g, 0, none⟩) 4 cap ∧ g < N ∧ ss.length = 4 ∧ ∀ j (h : j < ss.length), W.cell? ⟨g, j, none⟩ = some ss[j] ∧ OldS N W ss[j] (List.replicate (n + j) m)
theorem MarkedS.below {N : Nat} {W W' : World} {vo : Value} {m : ByteArray} {n : Nat} (h : MarkedS N W vo m n) (hb : Below N W W') : MarkedS N W' vo m n := by
  obtain ⟨g, cap, ss, e, hg, hl, hc⟩ := h
  exact ⟨g, cap, ss, e, hg, hl, fun j hj => ⟨(hb.cell (p := ⟨g, j, none⟩) hg).trans (hc j hj).1, (hc j hj).2.below hb.block⟩⟩
theorem rows_neS {B B' : Nat} {W : World} {v vo : Value} {cs : List ByteArray} {k : Nat} {ss : List Value} (h : OwnsS B W v cs) (ho : W.ownsRow B' 52 1 vo k ss) : (vo.ownBlock = none ∨ vo.ownBlock ≠ v.ownBlock) ∧ (v.ownBlock = none ∨ v.ownBlock ≠ vo.ownBlock) := by
  rcases h.2 with ⟨rfl, _⟩ | ⟨g, cap, cur, rfl, _, hgb, _⟩
  · refine ⟨?_, .inl rfl⟩
    rcases ho.2 with ⟨rfl, _⟩ | ⟨g', cap', cur', rfl, _⟩
    · exact .inl rfl
    · exact .inr (by simp [Value.ownBlock])
  · rcases ho.2 with ⟨rfl, _⟩ | ⟨g', cap', cur', rfl, _, hgb', _⟩
    · exact ⟨.inl rfl, .inr (by simp [Value.ownBlock])⟩
    · have hne : g ≠ g' := by
        rintro rfl
        rw [hgb] at hgb'
        simp only [Option.some.injEq, Obj.cells.injEq] at hgb'
        exact absurd hgb'.2.1 (by decide)
      exact ⟨.inr (by simpa [Value.ownBlock] using fun e => hne e.symm), .inr (by simpa [Value.ownBlock] using hne)⟩
theorem mark_setS (cs : List ByteArray) (k : Nat) (r : ByteArray) (h : k < cs.length) : (List.replicate k r ++ cs.drop k).set k r = List.replicate (k + 1) r ++ cs.drop (k + 1) := by
  rw [List.set_append_right _ _ (by simp)]
  simp only [List.length_replicate, Nat.sub_self]
  rw [List.drop_eq_getElem_cons h, List.set_cons_zero, List.replicate_succ']
  simp
end Go.Proofs.Ytdjmhagclcfnfaa
/- strandlaw's ownTexts, sameTexts and keptTexts. -/
namespace Go.Proofs.Ytdjmhagclcfnfaa
open Go.RowKit Go.Shelf

theorem OwnsS.slice3 {B : Nat} {W : World} {v : Value} {cs : List ByteArray} (h : OwnsS B W v cs) : ∃ a ln cp, v = .slice a ln cp := by
  obtain ⟨a, cp, e⟩ := h.slice
  exact ⟨a, _, cp, e⟩
theorem row_throughS {B B' : Nat} {W W' : World} {v vo : Value} {rs : List ByteArray} {k : Nat} {ss : List Value} {o : Obj} (h : OwnsS B W v rs) (ho : W.ownsRow B' 52 1 vo k ss) (hg : (W.alloc o).grownBy W' v.ownBlock) : W'.ownsRow B' 52 1 vo k ss :=
  World.ownsRow.kept (World.ownsRow.alloc ho o) hg (rows_neS (h.alloc o) (World.ownsRow.alloc ho o)).1

/-- A round of ownRecords' second loop. -/
theorem own_roundS {w wr w3 w5 : World} {B n k : Nat} {m : ByteArray} {vg v' out : Value} {r : Option Nat} {ss : List Value} {t1 t2 : Obj}
    (hsl : ss.length = k + 1) (HR : wr.ownsRow w.heap.size 52 1 out (k + 1) ss) (H0 : ∃ a0 l0 c0, ss[0]? = some (.slice a0 l0 c0)) (HO : OwnsS B wr vg (List.replicate (n + k) m))
    (HL : ∀ j (h : j < ss.length), OldS wr.heap.size wr ss[j] (List.replicate (n + j) m)) (HG : w.grownBy wr r) (HA : vg.ownBlock = r ∨ ∀ x, vg.ownBlock = some x → w.heap.size ≤ x)
    (O3 : OwnsS B w3 v' (List.replicate (n + k) m ++ [m])) (G3 : (wr.alloc t1).grownBy w3 vg.ownBlock)
    (L3 : ∀ N sv xs, N ≤ (wr.alloc t1).heap.size → xs.length ≤ (List.replicate (n + k) m).length → OldS N (wr.alloc t1) sv xs → OldS N w3 sv xs)
    (A3 : v'.ownBlock = vg.ownBlock ∨ ∀ g, v'.ownBlock = some g → (wr.alloc t1).heap.size ≤ g)
    (hg5 : (w3.alloc t2).grownBy w5 out.ownBlock) :
    (ss ++ [v']).length = k + 1 + 1 ∧ (∃ a0 l0 c0, (ss ++ [v'])[0]? = some (.slice a0 l0 c0)) ∧ OwnsS B w5 v' (List.replicate (n + (k + 1)) m) ∧
      (∀ j (h : j < (ss ++ [v']).length), OldS w5.heap.size w5 (ss ++ [v'])[j] (List.replicate (n + j) m)) ∧ w.grownBy w5 r ∧ (v'.ownBlock = r ∨ ∀ x, v'.ownBlock = some x → w.heap.size ≤ x) := by
  have R3 := row_throughS HO HR G3
  have erep : List.replicate (n + k) m ++ [m] = List.replicate (n + (k + 1)) m := by
    rw [← Nat.add_assoc, List.replicate_succ']
  have hs3 : wr.heap.size + 1 ≤ w3.heap.size := by have := G3.size; simpa using this
  have hs5 : w3.heap.size + 1 ≤ w5.heap.size := by have := hg5.size; simpa using this
  obtain ⟨a0, l0, c0, h00⟩ := H0
  obtain ⟨go, hgo, hc0, hge⟩ : ∃ go, out.ownBlock = some go ∧ (w3.alloc t2).cell? ⟨go, 0, none⟩ = some (.slice a0 l0 c0) ∧ w.heap.size ≤ go := by
    have R3a := World.ownsRow.alloc R3 t2
    rcases R3a.2 with ⟨_, h⟩ | ⟨go, cap, cur, e, hbg, _⟩
    · omega
    · have hgo : out.ownBlock = some go := by rw [e]; rfl
      have := R3a.cells hgo 0 _ h00
      rw [Addr.add_lit] at this
      exact ⟨go, hgo, this, hbg⟩
  refine ⟨by rw [List.length_append, hsl]; rfl, ⟨a0, l0, c0, by rw [List.getElem?_append_left (by omega)]; exact h00⟩, ?_, ?_, ?_, ?_⟩
  · rw [← erep]
    exact World.ownsRow.kept (OwnsS.alloc O3 t2) hg5 (rows_neS (OwnsS.alloc O3 t2) (World.ownsRow.alloc R3 t2)).2
  · intro j hj
    rw [List.length_append, hsl] at hj
    simp only [List.length_cons, List.length_nil, Nat.zero_add] at hj
    rw [hgo] at hg5
    by_cases hjk : j < k + 1
    · rw [List.getElem_append_left (by omega)]
      have h1 := (HL j (by omega)).alloc (Nat.le_refl _) t1
      have h2 := L3 wr.heap.size _ _ (by simp) (by simp; omega) h1
      have h3 := h2.alloc (by omega) t2
      exact (h3.other hg5 (by simp; omega) hc0).mono (by omega)
    · obtain rfl : j = k + 1 := by omega
      rw [List.getElem_append_right (by omega)]
      have h2 := O3.old
      rw [erep] at h2
      have h3 := h2.alloc (Nat.le_refl _) t2
      have h4 := (h3.other hg5 (by simp) hc0).mono (show w3.heap.size ≤ w5.heap.size by omega)
      simpa [hsl] using h4
  · have g1 := grow_own (gallocR HG t1) G3 HA
    exact grow_own (gallocR g1 t2) hg5 (.inr fun x e => by rw [hgo] at e; cases e; exact hge)
  · rcases A3 with e | h
    · rw [e]
      exact HA
    · refine .inr fun x e => ?_
      have := h x e
      have := HG.size
      simp at *
      omega

set_option maxRecDepth 100000 in
set_option maxHeartbeats 1000000 in
theorem ownTexts_any (v : Value) (rs : List ByteArray) (m : ByteArray) (B : Nat) (w : World) (ho : OwnsS B w v rs) (hl : rs.length ≤ 1000) (hB : B ≤ w.heap.size) :
    Calls Try.prog 31 #[v, .string m] w fun e w' => ∃ vo, e = .returned vo ∧ MarkedS w'.heap.size w' vo m rs.length ∧ w.grownBy w' v.ownBlock := by
  obtain ⟨a, c, rfl⟩ := ho.slice
  go_enter Try.func31, Try.ntmps31
  go_wp2
  go_loopw [5] (fun i wr => ∃ k : Nat, k ≤ rs.length ∧ i = .int .i64 k ∧ OwnsS B wr (.slice a rs.length c) (List.replicate k m ++ rs.drop k) ∧ w.grownBy wr (Value.slice a rs.length c).ownBlock) (fun i _ => rs.length - (intOf i).toNat)
  case atStart => exact ⟨0, Nat.zero_le _, rfl, ho, drew_grown w 0 _⟩
  case round =>
    obtain ⟨k, hk, rfl, hown, hgw⟩ := hrel
    have HO : Hid _ := hown
    have HG : Hid _ := hgw
    by_cases hlt : k < rs.length
    · obtain ⟨g, rfl⟩ : ∃ g, a = some ⟨g, 0, none⟩ := by
        rcases hown.2 with ⟨e, _⟩ | ⟨g, cap, cur, e, _⟩
        · simp only [Value.slice.injEq] at e
          omega
        · simp only [Value.slice.injEq] at e
          exact ⟨g, e.1⟩
      have q0 := hown.row k (by simp; omega)
      have hfz : ∀ o, wr.frozen? ⟨g, o, none⟩ = false := by
        rcases hown.2 with ⟨e, _⟩ | ⟨g', cap, cur, e, _, hgb, _⟩
        · cases e
        · simp only [Value.slice.injEq, Option.some.injEq, Addr.mk.injEq] at e
          obtain ⟨⟨rfl, _⟩, _⟩ := e
          exact fun o => boxed_frozen hgb
      have z0 := hfz k
      clear hfz hown hgw ho
      go_wp2
      refine ⟨⟨k + 1, by omega, by go_num, ?_, ?_⟩, by simp [intOf]; omega⟩
      · have h := OwnsS.store HO.out k m
        rw [mark_setS rs k _ hlt] at h
        exact h
      · exact gtrans HG.out (gset _ _ _ _)
    · obtain rfl : k = rs.length := by omega
      rw [List.drop_length, List.append_nil] at hown
      have hb0 : ∀ g, (Value.slice a rs.length c).ownBlock = some g → B ≤ g := hown.own_ge
      clear HO HG ho
      go_wp2
      have O1 := OwnsS.alloc hown (.cells #[.slice a rs.length c] 52)
      have G1 : w.grownBy (wr.alloc (.cells #[.slice a rs.length c] 52)) (Value.slice a rs.length c).ownBlock := gallocR hgw _
      have R1 : (wr.alloc (.cells #[.slice a rs.length c] 52)).ownsRow w.heap.size 52 1 (.slice (some ⟨wr.heap.size, 0, none⟩) 1 1) 1 [.slice a rs.length c] := ⟨rfl, .inr ⟨wr.heap.size, 1, _, rfl, hgw.size, World.alloc_heap_new _ _, Nat.le_refl _, by decide, rfl, rfl⟩⟩
      generalize wr.alloc (.cells #[.slice a rs.length c] 52) = W1 at *
      go_loopw [6, 7, 8] (fun out g i wq => ∃ (k : Nat) (ss : List Value), k ≤ 3 ∧ i = .int .i64 k ∧ ss.length = k + 1 ∧ wq.ownsRow w.heap.size 52 1 out (k + 1) ss ∧ (∃ a0 l0 c0, ss[0]? = some (.slice a0 l0 c0)) ∧ OwnsS B wq g (List.replicate (rs.length + k) m) ∧ (∀ j (h : j < ss.length), OldS wq.heap.size wq ss[j] (List.replicate (rs.length + j) m)) ∧ w.grownBy wq (Value.slice a rs.length c).ownBlock ∧ (g.ownBlock = (Value.slice a rs.length c).ownBlock ∨ ∀ x, g.ownBlock = some x → w.heap.size ≤ x)) (fun _ _ i _ => 3 - (intOf i).toNat)
      case atStart =>
        refine ⟨0, _, by omega, rfl, rfl, R1, ⟨_, _, _, rfl⟩, O1, ?_, G1, .inl rfl⟩
        intro j hj
        obtain rfl : j = 0 := by simpa using hj
        exact O1.old
      case round =>
        obtain ⟨k, ss, hk3, rfl, hsl, hrow, hs0, hO, hold, hG, hat⟩ := hrel
        by_cases hlt : k < 3
        · have HR : Hid _ := hrow
          have H0 : Hid _ := hs0
          have HO : Hid _ := hO
          have HL : Hid _ := hold
          have HG : Hid _ := hG
          have HA : Hid _ := hat
          clear hrow hs0 hO hold hG hat hown hgw O1 G1 R1
          have hBw : B ≤ wr.heap.size := Nat.le_trans hB HG.out.size
          have hkk : (List.replicate (rs.length + k) m).length ≤ 2000 := by simp; omega
          have hml : k + 1 + 1 ≤ maxLen := Nat.le_trans (show k + 1 + 1 ≤ 5 by omega) (by decide)
          obtain ⟨i1, hi1, hy0, hy1, hy2⟩ := info_parts Try.infoStrs
          go_wp2_with (at_builtin; first
            | (refine wpList_append_sw _ rfl _ _ rfl B _ (List.replicate (rs.length + k) m) rfl (OwnsS.alloc HO.out _) ⟨_, 0, none⟩ m rfl (cells_new2 _ _ _ _ (by simp)) hkk (by simp; omega) ?_; intro v' w3 hO3 hg3 hold3 hat3; obtain ⟨a3, l3, c3, rfl⟩ := OwnsS.slice3 hO3; have O3 : Hid _ := hO3; have G3 : Hid _ := hg3; have L3 : Hid _ := hold3; have A3 : Hid _ := hat3; have R3 := row_throughS HO.out HR.out hg3; clear hO3 hg3 hold3 hat3)
            | (refine wpList_append_own _ rfl _ _ 56 rfl w.heap.size 52 i1 _ 1 24 Try.underlying56 hi1 hy0 hy1 hy2 rfl (by decide) _ _ _ rfl (World.ownsRow.alloc R3 _) ⟨_, 0, none⟩ 1 1 [_] rfl rfl (cells_new2 _ _ _ _ (by simp)) (by simp [Value.oneCell']) hml (by omega) (by have := G3.out.size; have := HG.out.size; simp at *; omega) ?_; intro vo w5 hrow5 hg5 hn5))
          obtain ⟨p1, p2, p3, p4, p5, p6⟩ := own_roundS hsl HR.out H0.out HO.out HL.out HG.out HA.out O3.out G3.out L3.out A3.out hg5
          exact ⟨⟨k + 1, _, by omega, by go_num, p1, hrow5, p2, p3, p4, p5, p6⟩, by simp [intOf]; omega⟩
        · obtain rfl : k = 3 := by omega
          go_wp2
          go_ret
          refine ⟨_, rfl, ?_, hG⟩
          rcases hrow.2 with ⟨_, h0⟩ | ⟨g, cap, cur, hv, hbg, hgb, _⟩
          · omega
          refine ⟨g, cap, ss, hv, (Array.getElem?_eq_some_iff.1 hgb).1, by omega, fun j hj => ⟨?_, hold j hj⟩⟩
          have := World.ownsRow.cells hrow (g := g) (by rw [hv]; rfl) j ss[j] (List.getElem?_eq_getElem hj)
          rw [Addr.add_lit, Nat.zero_add] at this
          exact this

set_option maxRecDepth 100000 in
set_option maxHeartbeats 1000000 in
/-- sameCells of two lists that hold the same. -/
theorem sameT_any (sv sv' : Value) (rs : List ByteArray) (w : World) (hR : Tss w.heap.size w sv rs) (hR' : Tss w.heap.size w sv' rs) (hlen : rs.length ≤ 4611686018427387904) :
    Calls Try.prog 30 #[sv, sv'] w fun e w' => e = .returned (.bool true) ∧ ∃ n, w' = w.drewN n := by
  obtain ⟨a, c, rfl⟩ := hR.slice
  obtain ⟨a', c', rfl⟩ := hR'.slice
  go_enter Try.func30, Try.ntmps30
  go_wp2
  go_loopw [5] (fun i wr => ∃ k : Nat, k ≤ rs.length ∧ i = .int .i64 k ∧ ∃ n, wr = w.drewN n) (fun i _ => rs.length - (intOf i).toNat)
  case atStart => exact ⟨0, Nat.zero_le _, rfl, 0, rfl⟩
  case round =>
    obtain ⟨k, hk, rfl, n, rfl⟩ := hrel
    by_cases hlt : k < rs.length
    · obtain ⟨b, off, ha, hb, q0⟩ := hR.at hlt
      obtain ⟨b', off', ha', hb', q0'⟩ := hR'.at hlt
      subst ha
      subst ha'
      generalize rs[k] = r at *
      go_wp2
      go_quiet (fail)
      go_wp2
      go_roundw
      case rel => exact ⟨k + 1, by omega, by go_num, _, rfl⟩
      case measure => simp [intOf]; omega
    · go_wp2
      go_ret
      exact ⟨rfl, n, rfl⟩

set_option maxRecDepth 100000 in
set_option maxHeartbeats 1000000 in
theorem keptTexts_any (vo : Value) (m : ByteArray) (n N : Nat) (w : World) (h : MarkedS N w vo m n) (hn : n ≤ 1000) :
    Calls Try.prog 32 #[vo, .string m] w fun e w' => e = .returned (.bool true) ∧ w.grownBy w' none := by
  obtain ⟨g, cap, ss, rfl, hg, hl, hc⟩ := h
  have HC : Hid _ := hc
  clear hc
  go_enter Try.func32, Try.ntmps32
  go_wp2
  go_loop [5] (fun i => ∃ k : Nat, k ≤ 4 ∧ i = .int .i64 k) (fun i => 4 - (intOf i).toNat)
  case atStart => exact ⟨0, by omega, rfl⟩
  case round =>
    obtain ⟨k, hk, rfl⟩ := hrel
    by_cases hlt : k < 4
    · obtain ⟨q, hold⟩ := HC.out k (by omega)
      obtain ⟨a, c, hs⟩ := hold.slice
      rw [List.length_replicate] at hs
      rw [hs] at q hold
      have HO : Hid _ := hold
      clear hold hs
      go_wp2
      go_loop [6] (fun i => ∃ j : Nat, j ≤ n + k ∧ i = .int .i64 j) (fun i => n + k - (intOf i).toNat)
      case atStart => exact ⟨0, by omega, rfl⟩
      case round =>
        obtain ⟨j, hj, rfl⟩ := hrel
        by_cases hjt : j < n + k
        · obtain ⟨b, rfl, o0⟩ : ∃ b, a = some ⟨b, 0, none⟩ ∧ w.cell? ⟨b, j, none⟩ = some (.string m) := by
            rcases HO.out with ⟨h0, _⟩ | ⟨b, cap', e, _, hcs⟩
            · have := congrArg List.length h0
              simp at this
              omega
            · simp only [Value.slice.injEq] at e
              have h0 := hcs j (by simpa using hjt)
              simp only [List.getElem_replicate] at h0
              exact ⟨b, e.1, h0⟩
          go_wp2
          go_round
          case rel => exact ⟨j + 1, by omega, by go_num⟩
          case measure => simp [intOf]; omega
        · go_wp2
          go_round
          case rel => exact ⟨k + 1, by omega, by go_num⟩
          case measure => simp [intOf]; omega
    · go_wp2
      go_ret
      exact ⟨rfl, drew_grown w 0 none⟩
end Go.Proofs.Ytdjmhagclcfnfaa
/- The walk of Splits. -/
namespace Go.Proofs.Ytdjmhagclcfnfaa
open Go.RowKit Go.Shelf

def mkB (q : List UInt8) : ByteArray := ⟨q.toArray⟩
theorem own1_strs {B : Nat} {W : World} {v : Value} {ts : List (List UInt8)} (h : Own1 9 B W v (ts.map texV)) : OwnsS B W v (ts.map mkB) := by
  have e : strVals (ts.map mkB) = ts.map texV := by
    unfold strVals
    rw [List.map_map]
    rfl
  unfold OwnsS
  rw [e, List.length_map]
  have h0 : W.ownsRow B 9 1 v (ts.map texV).length (ts.map texV) := h
  rwa [List.length_map] at h0
theorem splitR_len (l : List UInt8) (limit : Int) (ts : List (List UInt8)) (h : splitR l limit = .inr ts) : ts.length ≤ 200 := by
  unfold splitR at h
  split at h
  · cases h
  · rename_i f t b z rs hp
    split at h
    · cases h
    · simp only [Sum.inr.injEq] at h
      rw [← h]
      obtain ⟨-, hw, hok⟩ := parse_exact l f t b z rs hp
      obtain ⟨h1, h2, h3, h4, h5, h6, h7, h8, h9⟩ : (0 : Int) ≤ f ∧ (f : Int) ≤ 2147483647 ∧ (1 : Int) ≤ t ∧ (t : Int) ≤ 2147483647 ∧ (f : Int) ≠ t ∧ (1 : Int) ≤ b ∧ (b : Int) ≤ 100 ∧ (1 : Int) ≤ z ∧ (z : Int) ≤ 64 := of_decide_eq_true hw
      have hl := recsOk_length b z rs hok (by omega)
      have hu := (stK_up limit rs rs.length (Nat.le_refl _)).2.2.1
      simp only [chunksR, List.length_map, List.length_range]
      show (stK limit rs rs.length).1.length ≤ 200
      omega
theorem splitR_err (l : List UInt8) (limit : Int) (k : Int) (h : splitR l limit = .inl k) : 2 ≤ k ∧ k ≤ 12 := by
  unfold splitR at h
  split at h
  · rename_i k' hp
    simp only [Sum.inl.injEq] at h
    have := parse_err l k' hp
    omega
  · split at h
    · simp only [Sum.inl.injEq] at h
      omega
    · cases h

/-- Both answer the same. -/
theorem told_split (l : List UInt8) (limit : Int) : ∃ (ts : List ByteArray) (k : Int), ts.length ≤ 200 ∧ ∀ w e w', ToldP l limit w e w' → ∃ a c, e = .returned (.tuple #[.slice a ts.length c, .int .i64 k]) ∧ OwnsS w.heap.size w' (.slice a ts.length c) ts ∧ w.grownBy w' none := by
  cases hs : splitR l limit with
  | inl k =>
    refine ⟨[], k, by simp, ?_⟩
    rintro w e w' ⟨hg, (⟨k', hk, rfl⟩ | ⟨ts, v, hk, rfl, ho⟩)⟩
    · rw [hs] at hk; cases hk
      exact ⟨none, 0, rfl, World.ownsRow_nil _ _ _ _, hg⟩
    · rw [hs] at hk; cases hk
  | inr ts =>
    refine ⟨ts.map mkB, 0, by rw [List.length_map]; exact splitR_len l limit ts hs, ?_⟩
    rintro w e w' ⟨hg, (⟨k', hk, rfl⟩ | ⟨ts', v, hk, rfl, ho⟩)⟩
    · rw [hs] at hk; cases hk
    · rw [hs] at hk; cases hk
      have ho2 := own1_strs ho
      obtain ⟨a, c, rfl⟩ := ho2.slice
      exact ⟨a, c, rfl, ho2, hg⟩

set_option maxRecDepth 100000 in
set_option maxHeartbeats 2000000 in
theorem splits_walk (l : List UInt8) (limit : Int) (w : World) (hl : l.length ≤ 4611686018427387904) (hlo : -9223372036854775808 ≤ limit) (hhi : limit ≤ 9223372036854775807) :
    Calls Try.prog 7 #[.string ⟨l.toArray⟩, .int .i64 limit] w fun e w' => e = .returned (.bool true) ∧ w.grownBy w' none := by
  obtain ⟨ts, k, HN, hb⟩ := told_split l limit
  have HR : Hid (∀ W, _) := fun W => (rsplit l limit W hl hlo hhi).mono (hb W)
  have HP : Hid (∀ W, _) := fun W => (psplit l limit W hl hlo hhi).mono (hb W)
  clear hb hlo hhi
  go_enter Try.func7, Try.ntmps7
  go_wp2_with fail
  refine (HR.out _).mono ?_
  rintro e w1 ⟨aw, cw, rfl, ow, g1⟩
  have RW : Hid (∀ W, Below w1.heap.size w1 W → Tss W.heap.size W (.slice aw ts.length cw) ts) := fun W h => ow.tss.moved h
  have G1 : Hid _ := g1
  clear ow g1
  go_wp2_with fail
  refine (HP.out _).mono ?_
  rintro e w2 ⟨ax, cx, rfl, ox, g2⟩
  have B2 : Hid (Below w1.heap.size w1 w2) := below_of_grown g2
  have z2 : w1.heap.size ≤ w2.heap.size := g2.size
  have OX : Hid (OwnsS w1.heap.size w2 (.slice ax ts.length cx) ts) := ox
  clear ox g2
  go_wp2_with fail
  refine (sameT_any _ _ ts w2 (OwnsS.tss OX.out) (RW.out _ B2.out) (by omega)).mono ?_
  rintro e w3 ⟨rfl, n3, h3⟩
  have O3 : Hid (OwnsS w1.heap.size w3 (.slice ax ts.length cx) ts) := by rw [h3]; exact OX.out
  have B3 : Hid (Below w1.heap.size w1 w3) := by rw [h3]; exact ⟨B2.out.os, B2.out.tape, B2.out.output, B2.out.size, B2.out.block⟩
  have z3 : w1.heap.size ≤ w3.heap.size := B3.out.size
  clear h3 OX B2
  go_wp2_with fail
  refine (ownTexts_any _ ts _ w1.heap.size w3 O3.out (by omega) (by omega)).mono ?_
  rintro e w4 ⟨one, rfl, m4, g4⟩
  have M4 : Hid _ := m4
  have B4 : Hid (Below w1.heap.size w1 w4) := B3.out.grown g4 (by omega) (OwnsS.own_ge O3.out)
  have z4 : w3.heap.size ≤ w4.heap.size := g4.size
  clear m4 g4 O3
  go_wp2_with fail
  refine (HP.out _).mono ?_
  rintro e w5 ⟨ay, cy, rfl, oy, g5⟩
  have B5 : Hid (Below w4.heap.size w4 w5) := below_of_grown g5
  have z5 : w4.heap.size ≤ w5.heap.size := g5.size
  have OY : Hid (OwnsS w4.heap.size w5 (.slice ay ts.length cy) ts) := oy
  clear oy g5
  go_wp2_with fail
  refine (sameT_any _ _ ts w5 (OwnsS.tss OY.out) (RW.out _ (B4.out.trans (B5.out.mono (by omega)))) (by omega)).mono ?_
  rintro e w6 ⟨rfl, n6, h6⟩
  have O6 : Hid (OwnsS w4.heap.size w6 (.slice ay ts.length cy) ts) := by rw [h6]; exact OY.out
  have B6 : Hid (Below w4.heap.size w4 w6) := by rw [h6]; exact ⟨B5.out.os, B5.out.tape, B5.out.output, B5.out.size, B5.out.block⟩
  have z6 : w4.heap.size ≤ w6.heap.size := B6.out.size
  clear h6 OY B5
  go_wp2_with fail
  refine (ownTexts_any _ ts _ w4.heap.size w6 O6.out (by omega) (by omega)).mono ?_
  rintro e w7 ⟨two, rfl, m7, g7⟩
  have M7 : Hid _ := m7
  have B7 : Hid (Below w4.heap.size w4 w7) := B6.out.grown g7 (by omega) (OwnsS.own_ge O6.out)
  have z7 : w6.heap.size ≤ w7.heap.size := g7.size
  clear m7 g7 O6
  go_wp2_with fail
  refine (keptTexts_any one _ ts.length w4.heap.size w7 (MarkedS.below M4.out B7.out) (by omega)).mono ?_
  rintro e w8 ⟨rfl, g8⟩
  have G8 : Hid _ := g8
  have z8 : w7.heap.size ≤ w8.heap.size := g8.size
  clear g8
  go_wp2_with fail
  refine (keptTexts_any two _ ts.length w7.heap.size w8 (MarkedS.below M7.out (below_of_grown G8.out)) (by omega)).mono ?_
  rintro e w9 ⟨rfl, g9⟩
  have G9 : Hid _ := g9
  clear g9
  go_wp2
  go_ret
  refine ⟨rfl, gtrans G1.out (gbelow ?_)⟩
  exact (B4.out.trans (B7.out.mono (by omega))).grown (gtrans G8.out G9.out) (by omega) (by simp)
end Go.Proofs.Ytdjmhagclcfnfaa
/- The statement on Splits. -/
namespace Go.Proofs.Ytdjmhagclcfnfaa
open Go.ChangeShapes Go.WideShapes Go.ChangeAt Go.RowKit
open Go.ChangeMaps (open_string shut_string)

set_option maxRecDepth 100000 in
theorem splits_lifted (os : Os) (started : os.Started) (H : Type) (enc : TypeId × Value → H) :
    ReturnsInHanded {} Try.checked os 7 .any (Rows.splitsSpec.pre6 enc Try.prog Try.f7 Rows.splitsRow.domain false) (Rows.splitsSpec.post enc Try.prog Try.f7 false true false false) := by
  refine returnsInHanded_of_change_sized (C := Try.checked) Try.own started (by kernel_rfl) Try.func7
    (ChangeSpec.witness6 (enc := enc) (C := Try.checked) false ⟨#[], #[.string ByteArray.empty, .int .i64 0], []⟩ 8 (by kernel_rfl) (by kernel_rfl) (by kernel_rfl) (by kernel_rfl)) ?_
  intro W base args ds gs before hval0 hW _ hsz0 _
  have hsz : (DataW.weightsEach Try.prog (Try.f7.params.toList ++ Rows.splitsSpec.plain.varTypes Try.prog) (ds ++ gs)).all (· ≤ reachBytes) = true := hsz0
  clear hsz0
  have hval : ∀ (j : Nat) t v, Try.f7.params[j]? = some t → args[j]? = some v → Value.okWide Try.prog W .any base t v := hval0
  have hW' := hW
  obtain ⟨p, q, hA0, hV, rfl, _, _⟩ := hW
  have hA : DataW.TrodAll enc Try.prog W 0 (fun _ => true) true Try.f7.params.toList args.toList ds p := hA0
  rw [Try.params7] at hA hval hsz
  obtain ⟨v0, vs0, d0, ds0, p0, q0, hargs, rfl, rfl, h0, r0⟩ := trodAll_cons hA
  obtain ⟨v1, vs1, d1, ds1, p1, q1, rfl, rfl, rfl, h1, r1⟩ := trodAll_cons r0
  obtain ⟨rfl, rfl, rfl⟩ := trodAll_nil r1
  obtain rfl : args = #[v0, v1] := by cases args; simp_all
  obtain ⟨rfl, rfl⟩ := trodVars_none hV
  obtain ⟨a0, rfl, rfl, rfl, w0⟩ := open_string Try.underlying9 (hval 0 9 v0 rfl rfl) h0
  obtain ⟨a1, rfl, rfl, rfl, w1⟩ := open_int Try.underlying3 (hval 1 3 v1 rfl rfl) h1
  clear hA0 hval0
  simp only [List.append_nil] at hW'
  have hlen : a0.data.toList.length ≤ 4611686018427387904 := by
    have h4 := DataW.weights_mem_each (H := H) (P := Try.prog) (j := 0) (ts := [9, 3] ++ Rows.splitsSpec.plain.varTypes Try.prog) (ds := [.lit (.string a0.data.toList), .lit (.int .i64 a1)] ++ []) rfl rfl a0.data.toList.length (by simp [DataW.weights])
    have h5 := of_decide_eq_true (List.all_eq_true.1 hsz _ h4)
    simp only [reachBytes] at h5
    omega
  have hwalk := splits_walk a0.data.toList a1 W hlen (wf_i64 w1).1 (wf_i64 w1).2
  rw [show (⟨a0.data.toList.toArray⟩ : ByteArray) = a0 from rfl] at hwalk
  refine hwalk.mono fun e W' ⟨he, hg⟩ => ?_
  subst he
  have hb := below_of_grown hg
  refine ⟨_, rfl, _, _, _, [], [] ++ ([] ++ []), [], hW', ?_, ?_, rfl, hb.frame _, fun h => by cases h⟩
  · exact trodAll_cons_mk (shut_bool Try.underlying4 _) trodAll_mk0
  · exact trodAll_cons_mk (shut_string Try.underlying9 w0) (trodAll_cons_mk (shut_int Try.underlying3 w1) trodAll_mk0)

theorem splits_holds : Rows.SplitsSaid :=
  OpenClaim.holds_of_wide 7 Try.f7 rfl rfl rfl rfl rfl rfl rfl ⟨rfl, rfl, rfl, rfl, rfl⟩ rfl rfl rfl rfl rfl (by kernel_rfl) Try.func7 (by kernel_rfl)
    (of_decide_eq_true (by kernel_rfl)) (by unfold Func.isWrapper; first | (rw [if_pos (by decide +kernel)]; kernel_rfl) | (rw [if_neg (by decide +kernel)]; exact ⟨rfl, rfl⟩))
    (fun os started H enc _ => splits_lifted os started H enc)
end Go.Proofs.Ytdjmhagclcfnfaa
