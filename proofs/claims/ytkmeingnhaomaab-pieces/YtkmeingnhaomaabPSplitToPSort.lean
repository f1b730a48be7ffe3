/- PSplit, PChunkR, PChunkR2, PRow8, PAll, PAll2, PSort -/
import Derived.Test.YtkmeingnhaomaabPSplit1ToPTexts
import Derived.Test.YtkmeingnhaomaabPFace
import Derived.Test.YtkmeingnhaomaabRChunkToKMade2
import Derived.Test.YtkmeingnhaomaabPParse
import Derived.Shelf.SlSortCmp.WholeK
import Derived.Shelf.SlicesG.Cmp
import Derived.Shelf.Small.Bits
/- The program's Split. -/
namespace Go.Proofs.Ytkmeingnhaomaab
open Go.RowKit Go.Shelf

theorem splitR_cut (f t b z : Nat) (rs : List Rc) (limit : Int) (qs : List (Value × List Rc)) (hq : qs.map Prod.snd = (cutS limit rs).1 ++ [(cutS limit rs).2.1]) :
    ((List.range qs.length).map fun i => texV (chunkB f t b z rs.length i qs.length ((qs[i]?.map Prod.snd).getD []))) = (chunksR f t b z rs (startsR limit rs)).map texV := by
  have hp := cut_parts limit rs
  rw [← hq] at hp
  have hl : qs.length = (startsR limit rs).length := by
    have := congrArg List.length hp
    simpa using this
  unfold chunksR
  rw [List.map_map, hl]
  refine List.map_congr_left fun i hi => ?_
  rw [List.mem_range] at hi
  have h2 : (qs.map Prod.snd)[i]? = some (partR (startsR limit rs) rs i) := by
    rw [hp]
    simp [hi]
  rw [List.getElem?_map] at h2
  simp only [Function.comp_apply]
  rw [h2]
  rfl

theorem pieces_ok (z : Int) (rs : List Rc) (limit : Int) (qs : List (Value × List Rc)) (hq : qs.map Prod.snd = (cutS limit rs).1 ++ [(cutS limit rs).2.1]) (ho : ∀ r ∈ rs, RecFit z r) :
    qs.length ≤ rs.length + 1 ∧ (∀ q ∈ qs, q.2.length ≤ rs.length) ∧ ∀ q ∈ qs, ∀ r ∈ q.2, RecFit z r := by
  have hp := cut_parts limit rs
  rw [← hq] at hp
  have hl := cut_len limit rs
  have h1 := congrArg List.length hq
  simp only [List.length_map, List.length_append, List.length_cons, List.length_nil] at h1
  have key : ∀ q ∈ qs, ∃ i, q.2 = partR (startsR limit rs) rs i := fun q hqm => by
    have : q.2 ∈ qs.map Prod.snd := List.mem_map_of_mem hqm
    rw [hp, List.mem_map] at this
    obtain ⟨i, -, e⟩ := this
    exact ⟨i, e.symm⟩
  refine ⟨by omega, fun q hqm => ?_, fun q hqm r hr => ?_⟩
  · obtain ⟨i, e⟩ := key q hqm
    rw [e, partR, List.length_drop, List.length_take]
    omega
  · obtain ⟨i, e⟩ := key q hqm
    rw [e, partR] at hr
    exact ho r (List.mem_of_mem_take (List.mem_of_mem_drop hr))

set_option maxRecDepth 100000 in
set_option maxHeartbeats 4000000 in
theorem psplit (l : List UInt8) (limit : Int) (w : World) (hl : l.length ≤ 4611686018427387904) (hlo : -9223372036854775808 ≤ limit) (hhi : limit ≤ 9223372036854775807) :
    Calls Try.prog 10 #[.string ⟨l.toArray⟩, .int .i64 limit] w (ToldP l limit w) := by
  have HP : Hid (∀ W, _) := fun W => pparse l W hl
  go_enter Try.func10, Try.ntmps10
  go_wp2_with fail
  refine (HP.out _).mono ?_
  rintro e w1 ⟨hg1, (⟨k, hk, rfl⟩ | ⟨f, t, b, z, rs, v, hk, rfl, hown⟩)⟩
  · have hke := parse_err l k hk
    have e1 : (k != 0) = true := by simp; omega
    have HA : Hid (splitR l limit = .inl k) := by
      show _ = _
      unfold splitR
      rw [hk]
    have G1 : Hid _ := hg1
    clear hk hg1 hke
    go_wp2
    refine bodyPost_ret (results_tmp2 rfl _ _ _) rfl ?_
    exact ⟨gallocR G1.out _, .inl ⟨k, HA.out, rfl⟩⟩
  obtain ⟨-, hw, ho⟩ := parse_exact l f t b z rs hk
  obtain ⟨h1, h2, h3, h4, h5, h6, h7, h8, h9⟩ : (0 : Int) ≤ f ∧ (f : Int) ≤ 2147483647 ∧ (1 : Int) ≤ t ∧ (t : Int) ≤ 2147483647 ∧ (f : Int) ≠ t ∧ (1 : Int) ≤ b ∧ (b : Int) ≤ 100 ∧ (1 : Int) ≤ z ∧ (z : Int) ≤ 64 := of_decide_eq_true hw
  have hn : rs.length ≤ 100 := by have := recsOk_length b z rs ho (by omega); omega
  have hfit := recsOk_fit b z (-1) rs h7 (by omega) ho
  obtain ⟨av, lv, cv, rfl⟩ := hown.slice
  have hlv : lv = rs.length := by
    obtain ⟨a', c', e⟩ := (OwnsR.recs hown).slice
    cases e
    rfl
  subst hlv
  obtain ⟨W1, hW1⟩ : ∃ W1, W1 = w1.alloc (.cells #[.int .i64 f, .int .i64 t, .int .i64 b, .int .i64 z, .slice av rs.length cv] 27) := ⟨_, rfl⟩
  have s1 : Hid (W1.heap[w1.heap.size]? = some (.cells #[.int .i64 f, .int .i64 t, .int .i64 b, .int .i64 z, .slice av rs.length cv] 27 (0, 0))) := by rw [hW1]; exact World.alloc_heap_new _ _
  have g1 : Hid (w.grownBy W1 none) := by rw [hW1]; exact gallocR hg1 _
  have R1 : Hid (Recs W1.heap.size W1 (.slice av rs.length cv) rs) := by rw [hW1]; exact (OwnsR.alloc hown _).recs
  have HK : Hid _ := hk
  have hz1 : w1.heap.size < W1.heap.size := by rw [hW1]; simp
  clear hg1 hown hk hw h1 h3 h5 h6 h8 ho
  go_wp2_with fail
  rw [← hW1]
  clear hW1
  refine (values_any av rs.length cv W1).mono ?_
  rintro e W2 ⟨rfl, hW2⟩
  have b2 : Below W1.heap.size W1 W2 := by rw [hW2]; exact (Below.refl _ _).alloc (Nat.le_refl _) _
  have c2 : W2.cell? ⟨W1.heap.size, 0, none⟩ = some (.slice av rs.length cv) := by rw [hW2]; simp [go_sem]
  have z2 : W1.heap.size < W2.heap.size := by rw [hW2]; simp
  have HL : Hid (∀ u : Unit, _) := fun _ => longest_any z (.slice av rs.length cv) rs W1.heap.size W2 (R1.out.moved b2) c2 z2 h9 hn hfit
  have B2 : Hid (Below W1.heap.size W1 W2) := b2
  clear hW2 b2 c2 z2
  go_wp2_with fail
  refine (HL.out ()).mono ?_
  rintro e W3 ⟨rfl, hb3⟩
  have B3 : Hid (Below W1.heap.size W1 W3) := B2.out.trans (hb3.mono B2.out.size)
  have hmost := mostR_fit z h9 rs hfit
  obtain ⟨c0, c1, c2, c3, c4, -⟩ := box5_cells ((B3.out.block _ hz1).trans s1.out)
  have hz3 : w1.heap.size < W3.heap.size := Nat.lt_of_lt_of_le hz1 B3.out.size
  have HSP : Hid (splitR l limit = if limit < ((28 + mostR rs : Nat) : Int) then .inl 12 else .inr (chunksR f t b z rs (startsR limit rs))) := by
    show _ = _
    unfold splitR
    rw [HK.out]
  clear hb3 HL
  generalize mostR rs = mo at *
  by_cases hc : limit < ((28 + mo : Nat) : Int)
  · have e1 : decide (limit < 28 + (mo : Int)) = true := by simp; omega
    have HA : Hid (splitR l limit = .inl 12) := by
      show _ = _
      rw [HSP.out, if_pos hc]
    go_wp2
    refine bodyPost_ret (results_tmp2 rfl _ _ _) rfl ?_
    exact ⟨gtrans g1.out (gbelow B3.out), .inl ⟨12, HA.out, rfl⟩⟩
  · have e1 : decide (limit < 28 + (mo : Int)) = false := by simp; omega
    have HA : Hid (splitR l limit = .inr (chunksR f t b z rs (startsR limit rs))) := by
      show _ = _
      rw [HSP.out, if_neg hc]
    go_wp2_with fail
    have hS3 : W3.heap[w1.heap.size]? = some (.cells #[.int .i64 f, .int .i64 t, .int .i64 b, .int .i64 z, .slice av rs.length cv] 27 (0, 0)) := (B3.out.block _ hz1).trans s1.out
    have HS4 : Hid (∀ w4 : World, Below W3.drew.heap.size W3.drew w4 → w4.heap[w1.heap.size]? = some (.cells #[.int .i64 f, .int .i64 t, .int .i64 b, .int .i64 z, .slice av rs.length cv] 27 (0, 0)) ∧ Below W1.heap.size W1 w4) := fun w4 h => by
      have hb : Below W3.heap.size W3 w4 := (Below.refl _ _).drew.trans h
      exact ⟨(hb.block _ hz3).trans hS3, B3.out.trans (hb.mono B3.out.size)⟩
    have HS5 : Hid (∀ w4 : World, w4.heap[w1.heap.size]? = some (.cells #[.int .i64 f, .int .i64 t, .int .i64 b, .int .i64 z, .slice av rs.length cv] 27 (0, 0)) → (w4.alloc (.cells #[.slice av rs.length cv] 25)).heap[w1.heap.size]? = some (.cells #[.int .i64 f, .int .i64 t, .int .i64 b, .int .i64 z, .slice av rs.length cv] 27 (0, 0))) := fun w4 h => (Below.heap_alloc _ _ _ (Array.getElem?_eq_some_iff.1 h).1).trans h
    have HS6 : Hid (∀ w5 w6 : World, w5.heap[w1.heap.size]? = some (.cells #[.int .i64 f, .int .i64 t, .int .i64 b, .int .i64 z, .slice av rs.length cv] 27 (0, 0)) → Below w5.heap.size w5 w6 → w6.heap[w1.heap.size]? = some (.cells #[.int .i64 f, .int .i64 t, .int .i64 b, .int .i64 z, .slice av rs.length cv] 27 (0, 0))) := fun w5 w6 h hb => (hb.block _ (Array.getElem?_eq_some_iff.1 h).1).trans h
    have HPC : Hid (∀ w4 : World, Below W1.heap.size W1 w4 → _) := fun w4 h => pieces_any z limit (.slice av rs.length cv) rs w4.heap.size (w4.alloc (.cells #[.slice av rs.length cv] 25)) ((R1.out.moved h).moved ((Below.refl _ _).alloc (Nat.le_refl _) _)) (by simp [go_sem]) (by simp) h9 hn hfit hlo hhi
    have HCT : Hid (∀ (w6 : World) (vp : Value) (qs : List (Value × List Rc)) (B : Nat), Own1 25 B w6 vp (qs.map Prod.fst) → qs.map Prod.snd = (cutS limit rs).1 ++ [(cutS limit rs).2.1] → (∀ q ∈ qs, Recs w6.heap.size w6 q.1 q.2) → Calls Try.prog 21 #[.agg #[.int .i64 f, .int .i64 t, .int .i64 b, .int .i64 z, .int .i64 rs.length], vp] w6 fun e w' => ∃ a c, e = .returned (.slice a ((chunksR f t b z rs (startsR limit rs)).map texV).length c) ∧ Own1 9 w6.heap.size w' (.slice a ((chunksR f t b z rs (startsR limit rs)).map texV).length c) ((chunksR f t b z rs (startsR limit rs)).map texV) ∧ Below w6.heap.size w6 w') := fun w6 vp qs B h1 h2 h3 => by
      obtain ⟨k1, k2, k3⟩ := pieces_ok z rs limit qs h2 hfit
      refine (chunkTexts_any f t b z rs.length vp qs B w6 h1 h3 (by omega) (by omega) (by omega) h9 (by omega) (by omega) (fun q hq => Nat.le_trans (k2 q hq) hn) k3).mono ?_
      rintro e w' ⟨v', rfl, o, hb⟩
      rw [splitR_cut f t b z rs limit qs h2] at o
      obtain ⟨a, c, rfl⟩ := o.slice
      exact ⟨a, c, rfl, o, hb⟩
    generalize hN : ((chunksR f t b z rs (startsR limit rs)).map texV).length = nT at HCT
    go_region_held3 (fun w' => w'.cell? ⟨w1.heap.size, 0, none⟩ = some (.int .i64 f) ∧ w'.cell? ⟨w1.heap.size, 1, none⟩ = some (.int .i64 t) ∧ w'.cell? ⟨w1.heap.size, 2, none⟩ = some (.int .i64 b) ∧ w'.cell? ⟨w1.heap.size, 3, none⟩ = some (.int .i64 z) ∧ w'.cell? ⟨w1.heap.size, 4, none⟩ = some (.slice av rs.length cv) ∧ w'.heap[w1.heap.size]? = some (.cells #[.int .i64 f, .int .i64 t, .int .i64 b, .int .i64 z, .slice av rs.length cv] 27 (0, 0)))
      (first | with_reducible exact box5_cells hS7 | with_reducible exact box5_cells hS6 | with_reducible exact box5_cells hS5 | with_reducible exact box5_cells hS4 | exact box5_cells hS3)
      (first | (go_at_call 22; refine (headOf_any _ _ _ _ _ _ _ _).mono ?_; rintro e w4 ⟨rfl, hb4⟩; obtain ⟨hS4, hB4⟩ := HS4.out w4 hb4) | (go_at_call 20; refine (values_any _ _ _ _).mono ?_; rintro e w5 ⟨rfl, rfl⟩; have hS5 := HS5.out w4 hS4) | (go_at_call 23; refine (HPC.out w4 hB4).mono ?_; rintro e w6 ⟨vp, qs, rfl, hown6, hqs, hrec6, hb6⟩; have hS6 := HS6.out _ w6 hS5 hb6) | (go_at_call 21; refine (HCT.out w6 vp qs _ hown6 hqs hrec6).mono ?_; rintro e w7 ⟨ta, tc, rfl, o7, hb7⟩; have hS7 := HS6.out w6 w7 hS6 hb7))
    have B6 : Below W1.heap.size W1 w6 := hB4.trans (((Below.refl w4.heap.size w4).alloc (Nat.le_refl _) _).mono hB4.size |>.trans (hb6.mono (by have := hB4.size; simp; omega)))
    have B7 : Below W1.heap.size W1 w7 := B6.trans (hb7.mono B6.size)
    have O7 : Hid (Own1 9 w6.heap.size w7 (.slice ta nT tc) ((chunksR f t b z rs (startsR limit rs)).map texV)) := o7
    have G7 : Hid (w.grownBy w7 none) := gtrans g1.out (gbelow B7)
    have hz6 : w.heap.size ≤ w6.heap.size := Nat.le_trans g1.out.size B6.size
    clear o7 hb7 hown6 hqs hrec6 hb6 B6 B7 hS4 hS5 hS6 hS7
    go_wp2
    refine bodyPost_ret (results_tmp2 rfl _ _ _) rfl ?_
    exact ⟨G7.out, .inr ⟨_, _, HA.out, rfl, O7.out.base hz6⟩⟩
end Go.Proofs.Ytkmeingnhaomaab
/- The program's chunkHead. -/
namespace Go.Proofs.Ytkmeingnhaomaab
open Go.RowKit Go.Shelf

/-- What a chunk's first bytes tell: the error, or its numbers. -/
def chunkO (l : List UInt8) : Int ⊕ (Nat × Nat × Nat × Nat × Nat) :=
  match openG [83, 84, 82, 67] 24 0 l with
  | .inl k => .inl k
  | .inr (f, t, b, z, all) => if num ((l.drop 20).take 2) ≤ num ((l.drop 18).take 2) ∨ all < num ((l.drop 22).take 2) then .inl 4 else .inr (f, t, b, z, all)

set_option maxRecDepth 100000 in
set_option maxHeartbeats 4000000 in
theorem chunkHead_any (R : Nat) (l : List UInt8) (w : World) (hr : Rd w R l 0) (hl : l.length ≤ 4611686018427387904) :
    Calls Try.prog 45 #[.pointer (some ⟨R, 0, none⟩)] w fun e w' => w.grownBy w' (some R) ∧
      ((∃ k, chunkO l = .inl k ∧ e = .panicked (gave k)) ∨
       (∃ f t b z all : Nat, chunkO l = .inr (f, t, b, z, all) ∧ 24 ≤ l.length ∧ headOk f t b z all = true ∧ num ((l.drop 22).take 2) ≤ all ∧ e = .returned (.tuple #[.agg #[.int .i64 f, .int .i64 t, .int .i64 b, .int .i64 z, .int .i64 all, .int .i64 (num ((l.drop 18).take 2) : Nat), .int .i64 (num ((l.drop 20).take 2) : Nat), .slice none 0 0], .int .i64 (num ((l.drop 22).take 2) : Nat)]) ∧ Rd w' R l 24)) := by
  have hlt := hr.lt
  have HB : Hid (∀ o : Obj, _) := fun o => pbegin R l [83, 84, 82, 67] rfl 24 (w.alloc o) (Rd.alloc hr o) hl (by omega)
  clear hr
  go_enter Try.func45, Try.ntmps45
  go_wp2_with fail
  refine (HB.out _).mono ?_
  rintro e w1 ⟨hg1, (⟨h1, rfl⟩ | ⟨h1, h2, rfl⟩ | ⟨h1, h2, f, t, b, z, all, hh, rfl, hr1⟩)⟩
  · exact ⟨rfl, gtrans (galloc _ _ _) hg1, .inl ⟨2, by unfold chunkO openG; rw [if_pos h1], rfl⟩⟩
  · exact ⟨rfl, gtrans (galloc _ _ _) hg1, .inl ⟨3, by unfold chunkO openG; rw [if_neg (by omega), if_pos h2], rfl⟩⟩
  have HO2 : Hid (chunkO l = if headOk f t b z all = true then (if num ((l.drop 20).take 2) ≤ num ((l.drop 18).take 2) ∨ all < num ((l.drop 22).take 2) then .inl 4 else .inr (f, t, b, z, all)) else .inl 4) := by
    show _ = _
    unfold chunkO openG
    rw [if_neg (by omega), if_neg (by simpa using h2), hh]
    simp only [if_true]
    unfold headOk
    cases hk : (wellHead f t b z && decide (all ≤ b)) with
    | true =>
      have : (wellHead (f : Int) t b z && decide ((all : Int) ≤ b)) = true := by simpa using hk
      rw [this]
      rfl
    | false =>
      have : (wellHead (f : Int) t b z && decide ((all : Int) ≤ b)) = false := by
        rw [← hk]
        simp
      rw [this]
      rfl
  obtain ⟨hb1, hlb1⟩ := resBox hlt hg1 (⟨rfl, rfl, rfl, Nat.le_refl _, fun _ _ _ => rfl⟩ : w1.grownBy w1 (some R))
  have c0 := boxed_cell (i := 0) hb1 rfl
  have f0 := boxed_frozen (i := 0) hb1
  have c1 := boxed_cell (i := 1) hb1 rfl
  have f1 := boxed_frozen (i := 1) hb1
  have c2 := boxed_cell (i := 2) hb1 rfl
  have f2 := boxed_frozen (i := 2) hb1
  have c3 := boxed_cell (i := 3) hb1 rfl
  have f3 := boxed_frozen (i := 3) hb1
  have c4 := boxed_cell (i := 4) hb1 rfl
  have f4 := boxed_frozen (i := 4) hb1
  have G1 : Hid (w.grownBy w1 (some R)) := gtrans (galloc _ _ _) hg1
  have R1 : Hid (Rd w1 R l 18) := hr1
  have B1 : Hid _ := hb1
  have n1 := num2_lt l 18
  have n2 := num2_lt l 20
  have n3 := num2_lt l 22
  have H1 : Hid (∀ W, Rd W R l 18 → _) := fun W h => number_ok R l 18 2 W h hl (by omega) (by omega)
  have H2 : Hid (∀ W, Rd W R l 20 → _) := fun W h => number_ok R l 20 2 W h hl (by omega) (by omega)
  have H3 : Hid (∀ W, Rd W R l 22 → _) := fun W h => number_ok R l 22 2 W h hl (by omega) (by omega)
  clear hg1 hr1 hb1 HB hh h2
  obtain ⟨nu, hnu⟩ : ∃ x, x = num ((l.drop 18).take 2) := ⟨_, rfl⟩
  obtain ⟨many, hmany⟩ : ∃ x, x = num ((l.drop 20).take 2) := ⟨_, rfl⟩
  obtain ⟨here, hhere⟩ : ∃ x, x = num ((l.drop 22).take 2) := ⟨_, rfl⟩
  rw [← hnu] at H1 n1 HO2
  rw [← hmany] at H2 n2 HO2
  rw [← hhere] at H3 n3 HO2
  have HNU : Hid _ := hnu
  have HMA : Hid _ := hmany
  have HHE : Hid _ := hhere
  clear hnu hmany hhere
  go_wp2_with fail
  obtain ⟨X1, hX1⟩ : ∃ X1, X1 = ((((w1.setCell ⟨w.heap.size, 0, none⟩ (.int .i64 f)).setCell ⟨w.heap.size, 1, none⟩ (.int .i64 t)).setCell ⟨w.heap.size, 2, none⟩ (.int .i64 b)).setCell ⟨w.heap.size, 3, none⟩ (.int .i64 z)).setCell ⟨w.heap.size, 4, none⟩ (.int .i64 all) := ⟨_, rfl⟩
  have x1 : Hid (X1.heap[w.heap.size]? = some (.cells #[.int .i64 f, .int .i64 t, .int .i64 b, .int .i64 z, .int .i64 all, .int .i64 0, .int .i64 0, .slice none 0 0] 65 (0, 0))) := by
    rw [hX1]
    exact block_set (i := 4) (block_set (i := 3) (block_set (i := 2) (block_set (i := 1) (block_set (i := 0) B1.out _) _) _) _) _
  have xr : Rd X1 R l 18 := by rw [hX1]; exact Rd.set (Rd.set (Rd.set (Rd.set (Rd.set R1.out (by omega)) (by omega)) (by omega)) (by omega)) (by omega)
  have xg : w.grownBy X1 (some R) := by rw [hX1]; exact gfresh (gfresh (gfresh (gfresh (gfresh G1.out (Nat.le_refl _)) (Nat.le_refl _)) (Nat.le_refl _)) (Nat.le_refl _)) (Nat.le_refl _)
  rw [← hX1]
  have XG : Hid _ := xg
  clear c0 c1 c2 c3 c4 f0 f1 f2 f3 f4 hX1 B1 R1 G1 xg
  refine (H1.out _ xr).mono ?_
  rintro e w2 ⟨rfl, hr2, hg2⟩
  have R2 : Hid (Rd w2 R l 20) := hr2
  have G2 : Hid (w.grownBy w2 (some R)) := gtrans XG.out hg2
  have B2 : Hid _ := box5_grown x1.out hg2 (by simp; omega)
  have c5 := boxed_cell (i := 5) B2.out rfl
  have f5 := boxed_frozen (i := 5) B2.out
  clear hr2 hg2 xr
  go_wp2_with fail
  obtain ⟨X2, hX2⟩ : ∃ X2, X2 = w2.setCell ⟨w.heap.size, 5, none⟩ (.int .i64 nu) := ⟨_, rfl⟩
  have x2 : Hid (X2.heap[w.heap.size]? = some (.cells #[.int .i64 f, .int .i64 t, .int .i64 b, .int .i64 z, .int .i64 all, .int .i64 nu, .int .i64 0, .slice none 0 0] 65 (0, 0))) := by
    rw [hX2]
    exact block_set (i := 5) B2.out _
  have xr : Rd X2 R l 20 := by rw [hX2]; exact Rd.set R2.out (by omega)
  have xg : w.grownBy X2 (some R) := by rw [hX2]; exact gfresh G2.out (Nat.le_refl _)
  rw [← hX2]
  have XG2 : Hid _ := xg
  clear c5 f5 hX2 B2 R2 G2 xg
  refine (H2.out _ xr).mono ?_
  rintro e w3 ⟨rfl, hr3, hg3⟩
  have R3 : Hid (Rd w3 R l 22) := hr3
  have G3 : Hid (w.grownBy w3 (some R)) := gtrans XG2.out hg3
  have B3 : Hid _ := box5_grown x2.out hg3 (by simp; omega)
  have c6 := boxed_cell (i := 6) B3.out rfl
  have f6 := boxed_frozen (i := 6) B3.out
  clear hr3 hg3 xr
  go_wp2_with fail
  obtain ⟨X3, hX3⟩ : ∃ X3, X3 = w3.setCell ⟨w.heap.size, 6, none⟩ (.int .i64 many) := ⟨_, rfl⟩
  have x3 : Hid (X3.heap[w.heap.size]? = some (.cells #[.int .i64 f, .int .i64 t, .int .i64 b, .int .i64 z, .int .i64 all, .int .i64 nu, .int .i64 many, .slice none 0 0] 65 (0, 0))) := by
    rw [hX3]
    exact block_set (i := 6) B3.out _
  have xr : Rd X3 R l 22 := by rw [hX3]; exact Rd.set R3.out (by omega)
  have xg : w.grownBy X3 (some R) := by rw [hX3]; exact gfresh G3.out (Nat.le_refl _)
  rw [← hX3]
  have XG3 : Hid _ := xg
  clear c6 f6 hX3 B3 R3 G3 xg
  refine (H3.out _ xr).mono ?_
  rintro e w4 ⟨rfl, hr4, hg4⟩
  have R4 : Hid (Rd w4 R l 24) := hr4
  have G4 : Hid (w.grownBy w4 (some R)) := gtrans XG3.out hg4
  have B4 : Hid (w4.heap[w.heap.size]? = some (.cells #[.int .i64 f, .int .i64 t, .int .i64 b, .int .i64 z, .int .i64 all, .int .i64 nu, .int .i64 many, .slice none 0 0] 65 (0, 0))) := box5_grown x3.out hg4 (by simp; omega)
  have c0 := boxed_cell (i := 0) B4.out rfl
  have c1 := boxed_cell (i := 1) B4.out rfl
  have c2 := boxed_cell (i := 2) B4.out rfl
  have c3 := boxed_cell (i := 3) B4.out rfl
  have c4 := boxed_cell (i := 4) B4.out rfl
  clear hr4 hg4 xr
  go_wp2_with fail
  refine (hwell_any f t b z all _).mono ?_
  rintro e w5 ⟨rfl, hb5⟩
  have G5 : Hid (w.grownBy w5 (some R)) := gtrans G4.out (gbelow hb5)
  have R5 : Hid (Rd w5 R l 24) := (hb5.block R R4.out.lt).trans R4.out
  have b5 := (hb5.block _ (Array.getElem?_eq_some_iff.1 B4.out).1).trans B4.out
  clear c0 c1 c2 c3 c4 hb5
  have c0 := boxed_cell (i := 0) (v := .int .i64 f) b5 rfl
  have c1 := boxed_cell (i := 1) (v := .int .i64 t) b5 rfl
  have c2 := boxed_cell (i := 2) (v := .int .i64 b) b5 rfl
  have c3 := boxed_cell (i := 3) (v := .int .i64 z) b5 rfl
  have c4 := boxed_cell (i := 4) (v := .int .i64 all) b5 rfl
  have c5 := boxed_cell (i := 5) (v := .int .i64 nu) b5 rfl
  have c6 := boxed_cell (i := 6) (v := .int .i64 many) b5 rfl
  have c7 := boxed_cell (i := 7) (v := .slice none 0 0) b5 rfl
  have y0 := boxed_frozen (i := 0) b5
  have y1 := boxed_frozen (i := 1) b5
  have y2 := boxed_frozen (i := 2) b5
  have y3 := boxed_frozen (i := 3) b5
  have y4 := boxed_frozen (i := 4) b5
  have y5 := boxed_frozen (i := 5) b5
  have y6 := boxed_frozen (i := 6) b5
  have y7 := boxed_frozen (i := 7) b5
  have B5 : Hid _ := b5
  clear b5
  cases hok : headOk f t b z all with
  | false =>
    have HX : Hid (chunkO l = .inl 4) := by show _ = _; rw [HO2.out, hok]; rfl
    clear hok
    go_wp2
    exact ⟨rfl, G5.out, .inl ⟨4, HX.out, rfl⟩⟩
  | true =>
    have HK : Hid (headOk f t b z all = true) := hok
    by_cases hm : many ≤ nu
    · have e1 : decide ((many : Int) ≤ nu) = true := by simp; omega
      have HX : Hid (chunkO l = .inl 4) := by show _ = _; rw [HO2.out, hok, if_pos rfl, if_pos (.inl hm)]
      clear hok
      go_wp2
      exact ⟨rfl, G5.out, .inl ⟨4, HX.out, rfl⟩⟩
    · have e1 : decide ((many : Int) ≤ nu) = false := by simp; omega
      by_cases hq : all < here
      · have e2 : decide ((all : Int) < here) = true := by simp; omega
        have HX : Hid (chunkO l = .inl 4) := by show _ = _; rw [HO2.out, hok, if_pos rfl, if_pos (.inr hq)]
        clear hok
        go_wp2
        exact ⟨rfl, G5.out, .inl ⟨4, HX.out, rfl⟩⟩
      · have e2 : decide ((all : Int) < here) = false := by simp; omega
        have HX : Hid (chunkO l = .inr (f, t, b, z, all)) := by show _ = _; rw [HO2.out, hok, if_pos rfl, if_neg (by omega)]
        clear hok
        go_wp2
        refine bodyPost_ret (v := .tuple #[.agg #[.int .i64 f, .int .i64 t, .int .i64 b, .int .i64 z, .int .i64 all, .int .i64 nu, .int .i64 many, .slice none 0 0], .int .i64 here]) (by simp [results, Try.results45, go_sem, c0, c1, c2, c3, c4, c5, c6, c7]) rfl ?_
        exact ⟨gfresh (gfresh (gfresh (gfresh (gfresh (gfresh (gfresh (gfresh (G5.out) (Nat.le_refl _)) (Nat.le_refl _)) (Nat.le_refl _)) (Nat.le_refl _)) (Nat.le_refl _)) (Nat.le_refl _)) (Nat.le_refl _)) (Nat.le_refl _), .inr ⟨f, t, b, z, all, HX.out, h1, HK.out, by rw [← HHE.out]; omega, by rw [← HHE.out, ← HMA.out, ← HNU.out], Rd.set (Rd.set (Rd.set (Rd.set (Rd.set (Rd.set (Rd.set (Rd.set (R5.out) (by omega)) (by omega)) (by omega)) (by omega)) (by omega)) (by omega)) (by omega)) (by omega)⟩⟩
end Go.Proofs.Ytkmeingnhaomaab
/- The program's readChunk. -/
namespace Go.Proofs.Ytkmeingnhaomaab
open Go.RowKit Go.Shelf

theorem chunkR_recs (l : List UInt8) : chunkR l = match chunkO l with
    | .inl k => .inl k
    | .inr (f, t, b, z, all) => match recsR b z (num ((l.drop 22).take 2)) 24 l with
      | .inl k => .inl k
      | .inr rs => .inr ⟨f, t, b, z, all, num ((l.drop 18).take 2), num ((l.drop 20).take 2), rs⟩ := by
  unfold chunkR chunkO recsR
  rcases openG [83, 84, 82, 67] 24 0 l with k | ⟨f, t, b, z, all⟩
  · rfl
  · simp only []
    by_cases h : num ((l.drop 20).take 2) ≤ num ((l.drop 18).take 2) ∨ all < num ((l.drop 22).take 2)
    · rw [if_pos h, if_pos h]
    · rw [if_neg h, if_neg h]
      simp only []
      rcases walkR b z (num ((l.drop 22).take 2)) (-1) (l.drop 24) with ⟨rs, (k | q)⟩
      · rfl
      · simp only []
        cases endR l (l.length - q.length) with
        | none => rfl
        | some k => rfl

set_option maxRecDepth 100000 in
set_option maxHeartbeats 4000000 in
theorem readChunk_any (l : List UInt8) (w : World) (hl : l.length ≤ 4611686018427387904) :
    Calls Try.prog 25 #[.string ⟨l.toArray⟩] w fun e w' => w.grownBy w' none ∧
      ((∃ k, chunkR l = .inl k ∧ e = .panicked (gave k)) ∨ (∃ c v, chunkR l = .inr c ∧ e = .returned (.agg #[.int .i64 c.f, .int .i64 c.t, .int .i64 c.b, .int .i64 c.z, .int .i64 c.all, .int .i64 c.nu, .int .i64 c.many, v]) ∧ OwnsR w.heap.size w' v c.rs)) := by
  go_enter Try.func25, Try.ntmps25
  go_wp2_with fail
  obtain ⟨W1, hW1⟩ : ∃ W1, W1 = (w.alloc (.cells #[.int .i64 0, .int .i64 0, .int .i64 0, .int .i64 0, .int .i64 0, .int .i64 0, .int .i64 0, .slice none 0 0] 65)).alloc (.cells #[.string ⟨l.toArray⟩, .int .i64 0] 74) := ⟨_, rfl⟩
  have hs1 : W1.heap.size = w.heap.size + 2 := by rw [hW1]; simp
  have hb1 : W1.heap[w.heap.size]? = some (.cells #[.int .i64 0, .int .i64 0, .int .i64 0, .int .i64 0, .int .i64 0, .int .i64 0, .int .i64 0, .slice none 0 0] 65 (0, 0)) := by rw [hW1]; exact (Below.heap_alloc _ _ _ (by simp)).trans (World.alloc_heap_new _ _)
  have hr1 : Rd W1 (w.heap.size + 1) l 0 := by
    rw [hW1]
    have h := World.alloc_heap_new (w.alloc (.cells #[.int .i64 0, .int .i64 0, .int .i64 0, .int .i64 0, .int .i64 0, .int .i64 0, .int .i64 0, .slice none 0 0] 65)) (.cells #[.string ⟨l.toArray⟩, .int .i64 0] 74)
    rw [World.size_alloc] at h
    exact h
  have hg1 : w.grownBy W1 none := by rw [hW1]; exact gallocR (galloc _ _ _) _
  rw [← hW1]
  clear hW1
  refine (chunkHead_any (w.heap.size + 1) l W1 hr1 hl).mono ?_
  clear hr1
  rintro e W2 ⟨hg2, (⟨k, hk, rfl⟩ | ⟨f, t, b, z, all, ho, h24, hok, hhe, rfl, hr2⟩)⟩
  · refine ⟨rfl, grown_fresh hg1 hg2 (by omega), .inl ⟨k, ?_, rfl⟩⟩
    rw [chunkR_recs, hk]
  have HCR : Hid (chunkR l = match recsR b z (num ((l.drop 22).take 2)) 24 l with
      | .inl k => .inl k
      | .inr rs => .inr ⟨f, t, b, z, all, num ((l.drop 18).take 2), num ((l.drop 20).take 2), rs⟩) := by
    show _ = _
    rw [chunkR_recs, ho]
  have HB2 : Hid (W2.heap[w.heap.size]? = _) := (hg2.block w.heap.size (by omega) (by simp)).trans hb1
  have HG2 : Hid (w.grownBy W2 none) := grown_fresh hg1 hg2 (by omega)
  have HR2 : Hid (Rd W2 (w.heap.size + 1) l 24) := hr2
  have hs2 : w.heap.size + 2 ≤ W2.heap.size := by have := hg2.size; omega
  have hhd := hok
  simp only [headOk, wellHead, Bool.and_eq_true, decide_eq_true_eq] at hhd
  obtain ⟨nu, hnu⟩ : ∃ x, x = num ((l.drop 18).take 2) := ⟨_, rfl⟩
  obtain ⟨many, hmany⟩ : ∃ x, x = num ((l.drop 20).take 2) := ⟨_, rfl⟩
  obtain ⟨here, hhere⟩ : ∃ x, x = num ((l.drop 22).take 2) := ⟨_, rfl⟩
  rw [← hnu, ← hmany, ← hhere] at HCR
  rw [← hhere] at hhe
  rw [← hnu, ← hmany, ← hhere]
  have hm100 : here ≤ 100 := by omega
  have hz64 : z ≤ 64 := by omega
  clear ho hg2 hg1 hr2 hb1 hok hhd hnu hmany hhere
  go_wp2_with fail
  obtain ⟨W3, hW3⟩ : ∃ W3, W3 = W2.alloc (.cells #[.int .i64 f, .int .i64 t, .int .i64 b, .int .i64 z, .int .i64 all, .int .i64 nu, .int .i64 many, .slice none 0 0] 65) := ⟨_, rfl⟩
  have hg3 : W2.grownBy W3 none := by rw [hW3]; exact galloc _ _ _
  have hc3 : W3.heap[W2.heap.size]? = some (.cells #[.int .i64 f, .int .i64 t, .int .i64 b, .int .i64 z, .int .i64 all, .int .i64 nu, .int .i64 many, .slice none 0 0] 65 (0, 0)) := by rw [hW3]; exact World.alloc_heap_new _ _
  have hs3 : W3.heap.size = W2.heap.size + 1 := by rw [hW3]; simp
  rw [← hW3]
  clear hW3
  refine (records_told (w.heap.size + 1) f t b z all here 24 l W3 (Rd.kept HR2.out hg3) h24 (by decide) hl hz64 hm100).mono ?_
  rintro e W4 ⟨fv, rfl, hg4, hC⟩
  have HC : Hid (∀ u : Unit, _) := fun _ => hC
  have G4 : Hid (w.grownBy W4 none) := gtrans HG2.out (gtrans hg3 hg4)
  have C4 : Hid (W4.heap[W2.heap.size]? = some (.cells #[.int .i64 f, .int .i64 t, .int .i64 b, .int .i64 z, .int .i64 all, .int .i64 nu, .int .i64 many, .slice none 0 0] 65 (0, 0))) := box5_grown hc3 hg4 (by simp)
  have B4 : Hid (W4.heap[w.heap.size]? = _) := box5_grown (box5_grown HB2.out hg3 (by simp)) hg4 (by simp)
  have hs4 : W2.heap.size < W4.heap.size := by have := hg4.size; omega
  clear hC hg4 hg3 hc3
  go_wp2_with fail
  refine (HC.out ()).mono ?_
  rintro e W5 ⟨hg5, (⟨k, hk, rfl⟩ | ⟨rs, v, hk, rfl, hown⟩)⟩
  · exact ⟨rfl, grown_fresh G4.out hg5 (by omega), .inl ⟨k, by rw [HCR.out, hk], rfl⟩⟩
  have HP : Hid (chunkR l = .inr ⟨f, t, b, z, all, nu, many, rs⟩) := by
    show _ = _
    rw [HCR.out, hk]
  obtain ⟨a, ln, cp, rfl⟩ : ∃ a ln cp, v = .slice a ln cp := by
    rcases hown.2 with ⟨rfl, _⟩ | ⟨g, cap, cur, rfl, _⟩
    · exact ⟨_, _, _, rfl⟩
    · exact ⟨_, _, _, rfl⟩
  have c5 := box5_grown C4.out hg5 (by simp; omega)
  have b5 := box5_grown B4.out hg5 (by simp)
  have HOW : Hid (OwnsR W4.heap.size W5 (.slice a ln cp) rs) := hown
  have G5 : Hid (w.grownBy W5 none) := grown_fresh G4.out hg5 (by omega)
  have hl5 : w.heap.size < W5.heap.size := by have := hg5.size; omega
  have d0 := boxed_cell (i := 0) c5 rfl
  have d1 := boxed_cell (i := 1) c5 rfl
  have d2 := boxed_cell (i := 2) c5 rfl
  have d3 := boxed_cell (i := 3) c5 rfl
  have d4 := boxed_cell (i := 4) c5 rfl
  have d5 := boxed_cell (i := 5) c5 rfl
  have d6 := boxed_cell (i := 6) c5 rfl
  have d7 := boxed_cell (i := 7) c5 rfl
  have df := boxed_frozen (i := 7) c5
  have r0 := boxed_cell (i := 0) b5 rfl
  have z0 := boxed_frozen (i := 0) b5
  have r1 := boxed_cell (i := 1) b5 rfl
  have z1 := boxed_frozen (i := 1) b5
  have r2 := boxed_cell (i := 2) b5 rfl
  have z2 := boxed_frozen (i := 2) b5
  have r3 := boxed_cell (i := 3) b5 rfl
  have z3 := boxed_frozen (i := 3) b5
  have r4 := boxed_cell (i := 4) b5 rfl
  have z4 := boxed_frozen (i := 4) b5
  have r5 := boxed_cell (i := 5) b5 rfl
  have z5 := boxed_frozen (i := 5) b5
  have r6 := boxed_cell (i := 6) b5 rfl
  have z6 := boxed_frozen (i := 6) b5
  have r7 := boxed_cell (i := 7) b5 rfl
  have z7 := boxed_frozen (i := 7) b5
  clear hown hg5 c5 b5 hk
  go_wp2
  refine bodyPost_ret (v := .agg #[.int .i64 f, .int .i64 t, .int .i64 b, .int .i64 z, .int .i64 all, .int .i64 nu, .int .i64 many, .slice a ln cp]) (by simp [results, Try.results25, go_sem, r0, r1, r2, r3, r4, r5, r6, r7]) rfl ?_
  have hs5 : w.heap.size < W4.heap.size := by omega
  exact ⟨gfresh (gfresh (gfresh (gfresh (gfresh (gfresh (gfresh (gfresh (gfresh G5.out (by omega)) (Nat.le_refl _)) (Nat.le_refl _)) (Nat.le_refl _)) (Nat.le_refl _)) (Nat.le_refl _)) (Nat.le_refl _)) (Nat.le_refl _)) (Nat.le_refl _), .inr ⟨⟨f, t, b, z, all, nu, many, rs⟩, _, HP.out, rfl, OwnsR.base (OwnsR.set (OwnsR.set (OwnsR.set (OwnsR.set (OwnsR.set (OwnsR.set (OwnsR.set (OwnsR.set (OwnsR.set HOW.out hs4) hs5) hs5) hs5) hs5) hs5) hs5) hs5) hs5) (by omega)⟩⟩
end Go.Proofs.Ytkmeingnhaomaab
/- Rows of chunks, eight cells each. -/
namespace Go.Proofs.Ytkmeingnhaomaab
open Go.RowKit Go.Shelf

/-- A chunk's cells, as the program lays them. -/
def pcCells (p : Ck × Value) : List Value := [.int .i64 p.1.f, .int .i64 p.1.t, .int .i64 p.1.b, .int .i64 p.1.z, .int .i64 p.1.all, .int .i64 p.1.nu, .int .i64 p.1.many, p.2]
def OwnsP (B : Nat) (w : World) (v : Value) (ps : List (Ck × Value)) : Prop := w.ownsRow B 65 8 v ps.length (ps.flatMap pcCells)
def pcZero : Ck × Value := (⟨0, 0, 0, 0, 0, 0, 0, []⟩, .slice none 0 0)
theorem Try.infoChunk : (Try.prog.info? 65).map (fun i => (i.zero, i.size, i.bytes)) = some (some (.agg #[.int .i64 0, .int .i64 0, .int .i64 0, .int .i64 0, .int .i64 0, .int .i64 0, .int .i64 0, .slice none 0 0]), 8, 80) := by kernel_rfl

theorem pcCells_length (ps : List (Ck × Value)) : (ps.flatMap pcCells).length = ps.length * 8 := by
  induction ps with
  | nil => rfl
  | cons p ps ih => rw [List.flatMap_cons, List.length_append, ih, List.length_cons]; simp [pcCells]; omega
theorem pcCells_at : ∀ (ps : List (Ck × Value)) (k : Nat) (h : k < ps.length) (j : Nat) (_ : j < 8), (ps.flatMap pcCells)[k * 8 + j]? = (pcCells ps[k])[j]?
  | p :: ps, 0, _, j, hj => by
    rw [List.flatMap_cons, List.getElem?_append_left (by simp [pcCells]; omega)]
    simp
  | p :: ps, k + 1, h, j, hj => by
    rw [List.flatMap_cons, List.getElem?_append_right (by simp [pcCells]; omega)]
    rw [show (k + 1) * 8 + j - (pcCells p).length = k * 8 + j from by simp [pcCells]; omega]
    rw [pcCells_at ps k (by simpa using h) j hj]
    rfl
/-- One after the other, from o on. -/
def seqSet (l : List Value) (o : Nat) : List Value → List Value
  | [] => l
  | y :: ys => seqSet (l.set o y) (o + 1) ys
theorem seqSet_eq : ∀ (ys l : List Value) (o : Nat), o + ys.length ≤ l.length → seqSet l o ys = l.take o ++ ys ++ l.drop (o + ys.length)
  | [], l, o, _ => by simp [seqSet]
  | y :: ys, l, o, h => by
    rw [List.length_cons] at h
    rw [seqSet, seqSet_eq ys (l.set o y) (o + 1) (by rw [List.length_set]; omega), List.take_set, List.drop_set_of_lt (by omega), List.length_cons]
    rw [List.take_succ_eq_append_getElem (by omega), List.set_append_right _ _ (by rw [List.length_take]; omega), List.length_take, Nat.min_eq_left (by omega), Nat.sub_self, List.set_cons_zero, show o + 1 + ys.length = o + (ys.length + 1) from by omega]
    simp
theorem pcCells_set (ps : List (Ck × Value)) (k : Nat) (h : k < ps.length) (p : Ck × Value) : seqSet (ps.flatMap pcCells) (k * 8) (pcCells p) = (ps.set k p).flatMap pcCells := by
  have hl := pcCells_length ps
  rw [seqSet_eq _ _ _ (by rw [hl]; show k * 8 + 8 ≤ _; omega)]
  have e1 : (ps.flatMap pcCells).take (k * 8) = (ps.take k).flatMap pcCells := by
    conv => lhs; rw [← List.take_append_drop k ps, List.flatMap_append]
    rw [List.take_append_of_le_length (by rw [pcCells_length, List.length_take]; omega), List.take_of_length_le (by rw [pcCells_length, List.length_take]; omega)]
  have e2 : (ps.flatMap pcCells).drop (k * 8 + (pcCells p).length) = (ps.drop (k + 1)).flatMap pcCells := by
    conv => lhs; rw [← List.take_append_drop (k + 1) ps, List.flatMap_append]
    have : ((ps.take (k + 1)).flatMap pcCells).length = k * 8 + (pcCells p).length := by
      rw [pcCells_length, List.length_take]
      show min (k + 1) ps.length * 8 = k * 8 + 8
      omega
    rw [← this, List.drop_left]
  rw [e1, e2, List.set_eq_take_append_cons_drop, if_pos h, List.flatMap_append, List.flatMap_cons, List.append_assoc]

theorem OwnsP.at {B : Nat} {W : World} {g l cp : Nat} {ps : List (Ck × Value)} (h : OwnsP B W (.slice (some ⟨g, 0, none⟩) l cp) ps) {k : Nat} (hk : k < ps.length) :
    ∃ cur, W.heap[g]? = some (.cells cur 65 (0, 0)) ∧ ∀ j v, (pcCells ps[k])[j]? = some v → j < 8 → cur[k * 8 + j]? = some v := by
  rcases h.2 with ⟨e0, h0⟩ | ⟨g', cap, cur, e0, hb, hg, hc, hm, hs, ht⟩
  · cases e0
  · have e1 := e0
    simp only [Value.slice.injEq, Option.some.injEq, Addr.mk.injEq] at e1
    obtain ⟨⟨rfl, -, -⟩, -, -⟩ := e1
    refine ⟨cur, hg, fun j v hv hj => ?_⟩
    have h2 : (cur.toList.take (ps.length * 8))[k * 8 + j]? = some v := by
      rw [ht, pcCells_at ps k hk j hj, hv]
    rw [List.getElem?_take_of_lt (by omega)] at h2
    simpa using h2
theorem OwnsP.set {B : Nat} {W : World} {g l cp : Nat} {ps : List (Ck × Value)} (h : OwnsP B W (.slice (some ⟨g, 0, none⟩) l cp) ps) (k : Nat) (hk : k < ps.length) (p : Ck × Value) :
    OwnsP B ((((((((W.setCell ⟨g, k * 8, none⟩ (.int .i64 p.1.f)).setCell ⟨g, k * 8 + 1, none⟩ (.int .i64 p.1.t)).setCell ⟨g, k * 8 + 2, none⟩ (.int .i64 p.1.b)).setCell ⟨g, k * 8 + 3, none⟩ (.int .i64 p.1.z)).setCell ⟨g, k * 8 + 4, none⟩ (.int .i64 p.1.all)).setCell ⟨g, k * 8 + 5, none⟩ (.int .i64 p.1.nu)).setCell ⟨g, k * 8 + 6, none⟩ (.int .i64 p.1.many)).setCell ⟨g, k * 8 + 7, none⟩ p.2) (.slice (some ⟨g, 0, none⟩) l cp) (ps.set k p) := by
  rcases h.2 with ⟨e0, h0⟩ | ⟨g', cap, cur, e0, hb, hg, hc, hm, hs, ht⟩
  · cases e0
  · have e1 := e0
    simp only [Value.slice.injEq, Option.some.injEq, Addr.mk.injEq] at e1
    obtain ⟨⟨rfl, -, -⟩, -, -⟩ := e1
    refine ⟨pcCells_length _, .inr ⟨g, cap, _, by simpa using e0, hb, block_set (block_set (block_set (block_set (block_set (block_set (block_set (block_set hg _) _) _) _) _) _) _) _, by simpa using hc, hm, by simpa using hs, ?_⟩⟩
    rw [List.length_set, ← pcCells_set ps k hk p, ← ht]
    simp only [Array.toList_setIfInBounds]
    show _ = seqSet _ _ [_, _, _, _, _, _, _, _]
    simp only [seqSet, ← List.take_set]
end Go.Proofs.Ytkmeingnhaomaab
/- The program's readAll of chunks: the inner function. -/
namespace Go.Proofs.Ytkmeingnhaomaab
open Go.RowKit Go.Shelf

theorem made_chunks (n : Nat) : (madeCells #[.int .i64 0, .int .i64 0, .int .i64 0, .int .i64 0, .int .i64 0, .int .i64 0, .int .i64 0, .slice none 0 0] (n * 8)).toList = (List.replicate n pcZero).flatMap pcCells := by
  apply List.ext_getElem?
  intro i
  by_cases hi : i < n * 8
  · have h1 : (madeCells #[.int .i64 0, .int .i64 0, .int .i64 0, .int .i64 0, .int .i64 0, .int .i64 0, .int .i64 0, .slice none 0 0] (n * 8)).toList[i]? = some (#[Value.int .i64 0, .int .i64 0, .int .i64 0, .int .i64 0, .int .i64 0, .int .i64 0, .int .i64 0, .slice none 0 0][i % 8]!) := by
      rw [Array.getElem?_toList]
      simp [madeCells, hi]
    rw [h1]
    have h2 := pcCells_at (List.replicate n pcZero) (i / 8) (by simp; omega) (i % 8) (by omega)
    rw [show i / 8 * 8 + i % 8 = i from by omega] at h2
    rw [h2, List.getElem_replicate]
    rcases (show i % 8 = 0 ∨ i % 8 = 1 ∨ i % 8 = 2 ∨ i % 8 = 3 ∨ i % 8 = 4 ∨ i % 8 = 5 ∨ i % 8 = 6 ∨ i % 8 = 7 by omega) with h | h | h | h | h | h | h | h <;> rw [h] <;> rfl
  · rw [List.getElem?_eq_none (by simp [size_madeCells]; omega), List.getElem?_eq_none (by rw [pcCells_length]; simp; omega)]

/-- The chunks that are read, and their records' lists. -/
def ReadCs (B : Nat) (W : World) (ps : List (Ck × Value)) : Prop := ∀ p ∈ ps, OwnsR B W p.2 p.1.rs

set_option maxRecDepth 100000 in
set_option maxHeartbeats 4000000 in
theorem readAll1_any (Bt Br : Nat) (sv : Value) (ts : List (List UInt8)) (w : World) (hT : Txs w.heap.size w sv ts) (hl : ∀ t ∈ ts, t.length ≤ 4611686018427387904) (hn : ts.length ≤ 100) (ht : w.cell? ⟨Bt, 0, none⟩ = some sv) (hr : w.cell? ⟨Br, 0, none⟩ = some (.func (.func 25) #[] #[])) :
    Calls Try.prog 44 #[.pointer (some ⟨Bt, 0, none⟩), .pointer (some ⟨Br, 0, none⟩)] w fun e w' => w.grownBy w' none ∧
      ((∃ k, chunksOf ts = .inl k ∧ e = .panicked (gave k)) ∨ (∃ ps g, chunksOf ts = .inr (ps.map Prod.fst) ∧ e = .returned (.slice (some ⟨g, 0, none⟩) ts.length ts.length) ∧ OwnsP w.heap.size w' (.slice (some ⟨g, 0, none⟩) ts.length ts.length) ps ∧ ReadCs w.heap.size w' ps)) := by
  obtain ⟨a, c, rfl⟩ := hT.slice
  obtain ⟨i0, hi, hz0, hz1, hz2⟩ := info_parts Try.infoChunk
  have hlt := World.block_lt_of_cell? _ _ ht
  have hlr := World.block_lt_of_cell? _ _ hr
  have hmk : ∀ W : World, (Instr.makeSlice 61 (.int .i64 ts.length) (.int .i64 ts.length)).run Try.prog W = .ok (.slice (some ⟨W.heap.size, 0, none⟩) ts.length ts.length) (W.alloc (.cells (madeCells (Value.agg #[.int .i64 0, .int .i64 0, .int .i64 0, .int .i64 0, .int .i64 0, .int .i64 0, .int .i64 0, .slice none 0 0]).cells (ts.length * 8)) 65)) := by
    intro W
    have := run_make (P := Try.prog) W 61 65 i0 _ Try.underlying61 hi hz0 .i64 .i64 (ts.length : Int) (ts.length : Int) (by omega) (Int.le_refl _) (by rw [hz2]; omega) (by omega)
    rw [hz1, show ((ts.length : Int)).toNat = ts.length from by omega] at this
    exact this
  go_enter Try.func44, Try.ntmps44
  go_wp2
  obtain ⟨M, hM⟩ : ∃ M, M = madeCells #[.int .i64 0, .int .i64 0, .int .i64 0, .int .i64 0, .int .i64 0, .int .i64 0, .int .i64 0, .slice none 0 0] (ts.length * 8) := ⟨_, rfl⟩
  rw [← hM]
  obtain ⟨W1, hW1⟩ : ∃ W1, W1 = w.alloc (.cells M 65) := ⟨_, rfl⟩
  have hg1 : w.grownBy W1 none := by rw [hW1]; exact galloc _ _ _
  have hO1 : OwnsP w.heap.size W1 (.slice (some ⟨w.heap.size, 0, none⟩) ts.length ts.length) ([] ++ List.replicate (ts.length - 0) pcZero) := by
    have hl0 : ([] ++ List.replicate (ts.length - 0) pcZero).length = ts.length := by simp
    refine ⟨pcCells_length _, .inr ⟨w.heap.size, ts.length, M, by rw [hl0], Nat.le_refl _, by rw [hW1]; exact World.alloc_heap_new _ _, by rw [hl0]; exact Nat.le_refl _, Nat.le_trans hn (by decide), by rw [hM, size_madeCells], ?_⟩⟩
    rw [hl0, hM, made_chunks, List.take_of_length_le (by rw [pcCells_length]; simp)]
    simp
  rw [← hW1]
  have HT : Hid (∀ W, w.grownBy W none → Txs W.heap.size W (.slice a ts.length c) ts) := fun W h => Txs.moved hT (below_of_grown h)
  have HTB : Hid (∀ k (_ : k < ts.length), ∃ b off, a = some ⟨b, off, none⟩ ∧ b < w.heap.size) := fun k hk => by
    obtain ⟨b, off, e, h1, _⟩ := Txs.at hT hk
    exact ⟨b, off, e, h1⟩
  have HL : Hid _ := hl
  have HRd : Hid (w.cell? ⟨Br, 0, none⟩ = some (.func (.func 25) #[] #[])) := hr
  clear hM hW1 hmk hz0 hz1 hz2 hi hT hl ht hr
  go_loopw [11] (fun i wr => ∃ (k : Nat) (ps : List (Ck × Value)), k ≤ ts.length ∧ ps.length = k ∧ i = .int .i64 k ∧ OwnsP w.heap.size wr (.slice (some ⟨w.heap.size, 0, none⟩) ts.length ts.length) (ps ++ List.replicate (ts.length - k) pcZero) ∧ chunksOf (ts.take k) = .inr (ps.map Prod.fst) ∧ ReadCs w.heap.size wr ps ∧ w.grownBy wr none) (fun i _ => ts.length - (intOf i).toNat)
  case atStart => exact ⟨0, [], Nat.zero_le _, rfl, rfl, hO1, rfl, (fun p hp => by cases hp), hg1⟩
  case round =>
    obtain ⟨k, ps, hk, hpk, rfl, hO, hcs, hrc, hg⟩ := hrel
    have H_O : Hid (OwnsP w.heap.size wr (.slice (some ⟨w.heap.size, 0, none⟩) ts.length ts.length) (ps ++ List.replicate (ts.length - k) pcZero)) := hO
    have H_C : Hid _ := hcs
    have H_R : Hid (ReadCs w.heap.size wr ps) := hrc
    have H_G : Hid (w.grownBy wr none) := hg
    clear hO hcs hrc hg hO1 hg1
    by_cases hlt2 : k < ts.length
    · obtain ⟨tb, toff, ha, htb, hc⟩ := Txs.at (HT.out wr H_G.out) hlt2
      subst ha
      have hrd : wr.cell? ⟨Br, 0, none⟩ = _ := (World.cell?_of_block (H_G.out.block Br hlr (by simp))).trans HRd.out
      have HRC : Hid (∀ u : Unit, _) := fun _ => readChunk_any ts[k] wr (HL.out _ (List.getElem_mem hlt2))
      have HCE : Hid (∀ e, chunkR ts[k] = .inl e → chunksOf ts = .inl e) := fun e he => by
        have := chunksOf_bad (ts.take k) _ ts[k] (ts.drop (k + 1)) e H_C.out he
        rwa [List.getElem_cons_drop, List.take_append_drop] at this
      have HCO : Hid (∀ cc, chunkR ts[k] = .inr cc → chunksOf (ts.take (k + 1)) = .inr (ps.map Prod.fst ++ [cc])) := fun cc he => by
        rw [List.take_succ_eq_append_getElem hlt2]
        exact chunksOf_ok (ts.take k) _ ts[k] cc H_C.out he
      generalize ts[k] = tk at *
      go_wp2_with fail
      refine (HRC.out ()).mono ?_
      rintro e w2 ⟨hg2, (⟨ke, hke, rfl⟩ | ⟨cc, v, hke, rfl, hown⟩)⟩
      · exact ⟨rfl, gtrans H_G.out hg2, .inl ⟨ke, HCE.out ke hke, rfl⟩⟩
      have hpl : (ps ++ List.replicate (ts.length - k) pcZero).length = ts.length := by simp; omega
      have hO2 : OwnsP w.heap.size w2 (.slice (some ⟨w.heap.size, 0, none⟩) ts.length ts.length) (ps ++ List.replicate (ts.length - k) pcZero) := World.ownsRow.kept H_O.out hg2 (.inr (by simp [Value.ownBlock]))
      obtain ⟨cur, hcur, hcat⟩ := OwnsP.at hO2 (k := k) (by omega)
      have hel : (ps ++ List.replicate (ts.length - k) pcZero)[k]'(by omega) = pcZero := by
        rw [List.getElem_append_right (by omega)]
        simp
      rw [hel] at hcat
      have x0 := boxed_cell (i := k * 8) hcur (hcat 0 _ rfl (by omega))
      have x1 := boxed_cell (i := k * 8 + 1) hcur (hcat 1 _ rfl (by omega))
      have x2 := boxed_cell (i := k * 8 + 2) hcur (hcat 2 _ rfl (by omega))
      have x3 := boxed_cell (i := k * 8 + 3) hcur (hcat 3 _ rfl (by omega))
      have x4 := boxed_cell (i := k * 8 + 4) hcur (hcat 4 _ rfl (by omega))
      have x5 := boxed_cell (i := k * 8 + 5) hcur (hcat 5 _ rfl (by omega))
      have x6 := boxed_cell (i := k * 8 + 6) hcur (hcat 6 _ rfl (by omega))
      have x7 := boxed_cell (i := k * 8 + 7) hcur (hcat 7 _ rfl (by omega))
      have y0 := boxed_frozen (i := k * 8) hcur
      have y1 := boxed_frozen (i := k * 8 + 1) hcur
      have y2 := boxed_frozen (i := k * 8 + 2) hcur
      have y3 := boxed_frozen (i := k * 8 + 3) hcur
      have y4 := boxed_frozen (i := k * 8 + 4) hcur
      have y5 := boxed_frozen (i := k * 8 + 5) hcur
      have y6 := boxed_frozen (i := k * 8 + 6) hcur
      have y7 := boxed_frozen (i := k * 8 + 7) hcur
      have O2 : Hid (OwnsP w.heap.size w2 (.slice (some ⟨w.heap.size, 0, none⟩) ts.length ts.length) (ps ++ List.replicate (ts.length - k) pcZero)) := hO2
      have HOW : Hid (OwnsR wr.heap.size w2 v cc.rs) := hown
      have G2 : Hid (w.grownBy w2 none) := gtrans H_G.out hg2
      have RC2 : Hid (ReadCs w.heap.size w2 ps) := fun p hp => OwnsR.keptN (H_R.out p hp) hg2
      have HCC : Hid _ := HCO.out cc hke
      have HCU : Hid _ := hcur
      obtain ⟨va, vn, vc, rfl⟩ : ∃ a ln cp, v = .slice a ln cp := by
        rcases hown.2 with ⟨rfl, _⟩ | ⟨g, cap, cur, rfl, _⟩
        · exact ⟨_, _, _, rfl⟩
        · exact ⟨_, _, _, rfl⟩
      clear hO2 hcur hcat hel hown hg2 hke HCE HCO
      have HGS : Hid (w2.grownBy ((((((((w2.setCell ⟨w.heap.size, k * 8, none⟩ (.int .i64 cc.f)).setCell ⟨w.heap.size, k * 8 + 1, none⟩ (.int .i64 cc.t)).setCell ⟨w.heap.size, k * 8 + 2, none⟩ (.int .i64 cc.b)).setCell ⟨w.heap.size, k * 8 + 3, none⟩ (.int .i64 cc.z)).setCell ⟨w.heap.size, k * 8 + 4, none⟩ (.int .i64 cc.all)).setCell ⟨w.heap.size, k * 8 + 5, none⟩ (.int .i64 cc.nu)).setCell ⟨w.heap.size, k * 8 + 6, none⟩ (.int .i64 cc.many)).setCell ⟨w.heap.size, k * 8 + 7, none⟩ (.slice va vn vc)) (some w.heap.size)) := gtrans (gtrans (gtrans (gtrans (gtrans (gtrans (gtrans (gset w2 w.heap.size (k * 8) (.int .i64 cc.f)) (gset _ w.heap.size _ _)) (gset _ w.heap.size _ _)) (gset _ w.heap.size _ _)) (gset _ w.heap.size _ _)) (gset _ w.heap.size _ _)) (gset _ w.heap.size _ _)) (gset _ w.heap.size _ _)
      have HKR : Hid (∀ (W' : World) (v : Value) (rs : List Rc), w2.grownBy W' (some w.heap.size) → OwnsR w.heap.size w2 v rs → OwnsR w.heap.size W' v rs) := fun W' v rs hg h => row_beside h hg (fun r e => by cases e; exact ⟨_, HCU.out⟩) (by decide)
      go_wp2
      refine ⟨⟨k + 1, ps ++ [(cc, .slice va vn vc)], by omega, by simp [hpk], by go_num, ?_, ?_, ?_, gfresh (gfresh (gfresh (gfresh (gfresh (gfresh (gfresh (gfresh (G2.out) (Nat.le_refl _)) (Nat.le_refl _)) (Nat.le_refl _)) (Nat.le_refl _)) (Nat.le_refl _)) (Nat.le_refl _)) (Nat.le_refl _)) (Nat.le_refl _)⟩, by simp [intOf]; omega⟩
      · have h := OwnsP.set O2.out k (by omega) (cc, .slice va vn vc)
        have e : (ps ++ List.replicate (ts.length - k) pcZero).set k (cc, .slice va vn vc) = (ps ++ [(cc, .slice va vn vc)]) ++ List.replicate (ts.length - (k + 1)) pcZero := by
          rw [List.set_append_right _ _ (by omega), hpk, Nat.sub_self, show ts.length - k = (ts.length - (k + 1)) + 1 from by omega, List.replicate_succ, List.set_cons_zero, List.append_assoc]
          rfl
        rw [e] at h
        exact h
      · rw [HCC.out, List.map_append]
        rfl
      · intro q hq
        rw [List.mem_append, List.mem_singleton] at hq
        refine HKR.out _ _ _ HGS.out ?_
        rcases hq with hq | rfl
        · exact RC2.out q hq
        · exact OwnsR.base HOW.out H_G.out.size
    · obtain rfl : k = ts.length := by omega
      go_wp2
      go_ret
      have hO := H_O.out
      rw [Nat.sub_self, List.replicate_zero, List.append_nil] at hO
      have hc := H_C.out
      rw [List.take_length] at hc
      exact ⟨H_G.out, .inr ⟨ps, w.heap.size, hc, rfl, hO, H_R.out⟩⟩
end Go.Proofs.Ytkmeingnhaomaab
/- The program's readAll of chunks. -/
namespace Go.Proofs.Ytkmeingnhaomaab
open Go.RowKit Go.Shelf

set_option maxRecDepth 100000 in
set_option maxHeartbeats 400000 in
theorem catchC_panicking (b : Nat) (x : Int) (k : Int) (w : World) (hc : w.cell? ⟨b, 0, none⟩ = some (.int .i64 x)) (hz : w.frozen? ⟨b, 0, none⟩ = false) :
    CallsD Try.prog 65 #[.pointer (some ⟨b, 0, none⟩)] (.panicking (gave k)) w fun e u' w' =>
      e = .returned (.tuple #[]) ∧ u' = .panicking [{ v := .iface 30 (.int .i64 k), recovered := true }] ∧ w' = w.setCell ⟨b, 0, none⟩ (.int .i64 k) := by
  refine callsD_of_wpS Try.func65 rfl fun c₀ cs hu => ?_
  simp only [Try.ntmps65, List.size_toArray, List.length_cons, List.length_nil, Nat.reduceAdd, Nat.reduceSub, Array.replicate_succ, Array.replicate_zero, List.push_toArray, List.append_toArray, List.nil_append, List.cons_append]
  apply wpS_seq
  apply wpS_region
  simp [wpOpsS, go_sem, recoverD, hu, Exit.thenS, gave]
  refine wpS_of_wp ?_
  go_wp2_with (go_at_call 30; refine (reason_any _ _).mono ?_; rintro e w1 ⟨rfl, rfl⟩)
  exact ⟨rfl, _, rfl, _, results_none rfl _ _ _, rfl, rfl, rfl⟩

set_option maxRecDepth 100000 in
set_option maxHeartbeats 400000 in
theorem catchC_idle (b : Nat) (w : World) :
    CallsD Try.prog 65 #[.pointer (some ⟨b, 0, none⟩)] .returning w fun e u' w' => e = .returned (.tuple #[]) ∧ u' = .returning ∧ w' = w := by
  refine callsD_of_wpS Try.func65 rfl fun c₀ cs hu => ?_
  simp only [Try.ntmps65, List.size_toArray, List.length_cons, List.length_nil, Nat.reduceAdd, Nat.reduceSub, Array.replicate_succ, Array.replicate_zero, List.push_toArray, List.append_toArray, List.nil_append, List.cons_append]
  apply wpS_seq
  apply wpS_region
  simp [wpOpsS, go_sem, recoverD, hu, Exit.thenS]
  refine wpS_of_wp ?_
  go_wp2
  cases c₀
  simp only at hu
  subst hu
  exact ⟨rfl, _, rfl, _, results_none rfl _ _ _, rfl, rfl, rfl⟩

theorem row_set {B sz n : Nat} {e : TypeId} {W : World} {v x : Value} {xs : List Value} {k o : Nat} (h : W.ownsRow B e sz v n xs) (hk : k < B) : (W.setCell ⟨k, o, none⟩ x).ownsRow B e sz v n xs := by
  refine World.ownsRow.kept h (gset W k o x) ?_
  rcases h.2 with ⟨rfl, _⟩ | ⟨g, cap, cur, rfl, hbg, _⟩
  · exact .inl rfl
  · refine .inr fun e => ?_
    have : g = k := by simpa [Value.ownBlock] using e
    omega
theorem row_base {B B' sz n : Nat} {e : TypeId} {W : World} {v : Value} {xs : List Value} (h : W.ownsRow B e sz v n xs) (hb : B' ≤ B) : W.ownsRow B' e sz v n xs := by
  refine ⟨h.1, ?_⟩
  rcases h.2 with hn | ⟨g, cap, cur, hv, hbg, rest⟩
  · exact .inl hn
  · exact .inr ⟨g, cap, cur, hv, Nat.le_trans hb hbg, rest⟩

/-- How the reading of chunks ends. -/
def ToldR (ts : List (List UInt8)) (w : World) (e : Ending) (w' : World) : Prop :=
  w.grownBy w' none ∧ ((∃ k, chunksOf ts = .inl k ∧ e = .returned (.tuple #[.slice none 0 0, .int .i64 k])) ∨
    (∃ ps g, chunksOf ts = .inr (ps.map Prod.fst) ∧ e = .returned (.tuple #[.slice (some ⟨g, 0, none⟩) ts.length ts.length, .int .i64 0]) ∧ OwnsP w.heap.size w' (.slice (some ⟨g, 0, none⟩) ts.length ts.length) ps ∧ ReadCs w.heap.size w' ps))

set_option maxRecDepth 100000 in
set_option maxHeartbeats 1000000 in
theorem atFaceC_any (Bt Br : Nat) (sv : Value) (ts : List (List UInt8)) (w : World) (hT : Txs w.heap.size w sv ts) (hl : ∀ t ∈ ts, t.length ≤ 4611686018427387904) (hn : ts.length ≤ 100) (ht : w.cell? ⟨Bt, 0, none⟩ = some sv) (hr : w.cell? ⟨Br, 0, none⟩ = some (.func (.func 25) #[] #[])) :
    Calls Try.prog 43 #[.func (.func 44) #[] #[.pointer (some ⟨Bt, 0, none⟩), .pointer (some ⟨Br, 0, none⟩)]] w (ToldR ts w) := by
  have hmf : ∀ (fn : Fn) (first cap : Array Value) (w : World), (Instr.makeFunc fn first cap).run Try.prog w = .ok (.func fn first cap) w := fun _ _ _ _ => rfl
  have la := World.block_lt_of_cell? _ _ ht
  have lb := World.block_lt_of_cell? _ _ hr
  go_enter_defers Try.func43, Try.ntmps43
  go_wp2_with fail
  obtain ⟨W1, hW1⟩ : ∃ W1, W1 = w.alloc (.cells #[.int .i64 0] 30) := ⟨_, rfl⟩
  rw [← hW1]
  have hg1 : w.grownBy W1 none := by rw [hW1]; exact galloc _ _ _
  have he1 : W1.heap[w.heap.size]? = some (.cells #[.int .i64 0] 30 (0, 0)) := by rw [hW1]; exact World.alloc_heap_new _ _
  have hs1 : W1.heap.size = w.heap.size + 1 := by rw [hW1]; simp
  clear hW1
  have ha1 := (World.cell?_of_block (hg1.block Bt la (by simp))).trans ht
  have hb1 := (World.cell?_of_block (hg1.block Br lb (by simp))).trans hr
  refine (readAll1_any Bt Br sv ts W1 (Txs.moved hT (below_of_grown hg1)) hl hn ha1 hb1).mono ?_
  rintro e W2 ⟨hg2, hcase⟩
  have he2 := (hg2.block w.heap.size (by omega) (by simp)).trans he1
  have G2 : Hid (w.grownBy W2 none) := gtrans hg1 hg2
  have hlt2 : w.heap.size < W2.heap.size := by have := hg2.size; omega
  have e0 := boxed_cell (i := 0) (v := .int .i64 0) he2 rfl
  have ef := boxed_frozen (i := 0) he2
  clear hg1 hg2 he1 ha1 hb1 ht hr hT
  rcases hcase with ⟨k, hk, rfl⟩ | ⟨ps, g, hk, rfl, hown, hrc⟩
  · show Leaves _ _ _ _ _ _ _
    refine leaves_cons (f := 65) (args := #[.pointer (some ⟨w.heap.size, 0, none⟩)]) (by simp) (by simp [go_sem]) ?_
    refine (catchC_panicking w.heap.size 0 k W2 e0 ef).mono ?_
    rintro e u' w'' ⟨rfl, rfl, rfl⟩
    have he3 := block_set (i := 0) he2 (.int .i64 k)
    have e3 := boxed_cell (i := 0) (v := .int .i64 k) he3 rfl
    refine ⟨.tuple #[.slice none 0 0, .int .i64 k], ?_, ?_⟩
    · clear he3 he2
      simp [results, Try.results43, go_sem, e3]
    · exact ⟨gfresh G2.out (by omega), .inl ⟨k, hk, rfl⟩⟩
  · have HO : Hid (OwnsP W1.heap.size W2 (.slice (some ⟨g, 0, none⟩) ts.length ts.length) ps) := hown
    have HC : Hid (ReadCs W1.heap.size W2 ps) := hrc
    have HP : Hid _ := hk
    clear he2 hown hk hrc
    go_wp2
    show Leaves _ _ _ _ _ _ _
    refine leaves_cons (f := 65) (args := #[.pointer (some ⟨w.heap.size, 0, none⟩)]) (by simp) (by simp [go_sem]) ?_
    refine (catchC_idle w.heap.size _).mono ?_
    rintro e u' w'' ⟨rfl, rfl, rfl⟩
    refine ⟨.tuple #[.slice (some ⟨g, 0, none⟩) ts.length ts.length, .int .i64 0], ?_, ?_⟩
    · simp [results, Try.results43, go_sem, e0]
    · refine ⟨gfresh G2.out (by omega), .inr ⟨ps, g, HP.out, rfl, ?_, fun p hp => ?_⟩⟩
      · exact row_base (row_set HO.out (by omega)) (by omega)
      · exact row_base (row_set (HC.out p hp) (by omega)) (by omega)

set_option maxRecDepth 100000 in
set_option maxHeartbeats 1000000 in
theorem readAll_any (sv : Value) (ts : List (List UInt8)) (w : World) (hT : Txs w.heap.size w sv ts) (hl : ∀ t ∈ ts, t.length ≤ 4611686018427387904) (htl : ts.length ≤ 4611686018427387904) :
    Calls Try.prog 24 #[sv, .int .i64 100, .func (.func 25) #[] #[]] w fun e w' =>
      ((ts.length < 1 ∨ 100 < ts.length) ∧ w.grownBy w' none ∧ e = .returned (.tuple #[.slice none 0 0, .int .i64 1])) ∨ (1 ≤ ts.length ∧ ts.length ≤ 100 ∧ ToldR ts w e w') := by
  have hmf : ∀ (fn : Fn) (first cap : Array Value) (w : World), (Instr.makeFunc fn first cap).run Try.prog w = .ok (.func fn first cap) w := fun _ _ _ _ => rfl
  obtain ⟨a, c, rfl⟩ := hT.slice
  have HT : Hid (∀ W, w.grownBy W none → Txs W.heap.size W (.slice a ts.length c) ts) := fun W h => Txs.moved hT (below_of_grown h)
  have HL : Hid _ := hl
  clear hT hl
  go_enter Try.func24, Try.ntmps24
  go_wp2_with fail
  obtain ⟨W1, hW1⟩ : ∃ W1, W1 = (w.alloc (.cells #[.slice a ts.length c] 37)).alloc (.cells #[.func (.func 25) #[] #[]] 66) := ⟨_, rfl⟩
  have hg1 : w.grownBy W1 none := by rw [hW1]; exact gallocR (galloc _ _ _) _
  have ha1 : W1.heap[w.heap.size]? = some (.cells #[.slice a ts.length c] 37 (0, 0)) := by rw [hW1]; exact (Below.heap_alloc _ _ _ (by simp)).trans (World.alloc_heap_new _ _)
  have hb1 : W1.heap[w.heap.size + 1]? = some (.cells #[.func (.func 25) #[] #[]] 66 (0, 0)) := by
    rw [hW1]
    have h := World.alloc_heap_new (w.alloc (.cells #[.slice a ts.length c] 37)) (.cells #[.func (.func 25) #[] #[]] 66)
    rwa [World.size_alloc] at h
  rw [← hW1]
  clear hW1
  refine (within_any _ _ _ _).mono ?_
  rintro e w2 ⟨rfl, rfl⟩
  have G1 : Hid (w.grownBy w2 none) := hg1
  by_cases hc : 1 ≤ ts.length ∧ ts.length ≤ 100
  · have e1 : win (ts.length : Int) 1 100 = true := (win_iff _ _ _).2 ⟨by omega, by omega⟩
    have HF : Hid (∀ u : Unit, _) := fun _ => atFaceC_any w.heap.size (w.heap.size + 1) (.slice a ts.length c) ts w2 (HT.out _ hg1) HL.out hc.2 (boxed_cell ha1 rfl) (boxed_cell hb1 rfl)
    clear hg1 ha1 hb1
    go_wp2_with fail
    refine (HF.out ()).mono ?_
    rintro e w3 ⟨hg3, (⟨k, hk, rfl⟩ | ⟨ps, g, hk, rfl, hown, hrc⟩)⟩
    · have HP : Hid _ := hk
      have G3 : Hid (w.grownBy w3 none) := gtrans G1.out hg3
      clear hk hg3
      go_wp2
      refine bodyPost_ret (results_tmp2 rfl _ _ _) rfl ?_
      exact .inr ⟨hc.1, hc.2, G3.out, .inl ⟨k, HP.out, rfl⟩⟩
    · have HP : Hid _ := hk
      have G3 : Hid (w.grownBy w3 none) := gtrans G1.out hg3
      have HO : Hid (OwnsP w2.heap.size w3 (.slice (some ⟨g, 0, none⟩) ts.length ts.length) ps) := hown
      have HC : Hid (ReadCs w2.heap.size w3 ps) := hrc
      clear hk hg3 hown hrc
      go_wp2
      refine bodyPost_ret (results_tmp2 rfl _ _ _) rfl ?_
      exact .inr ⟨hc.1, hc.2, G3.out, .inr ⟨ps, g, HP.out, rfl, row_base HO.out G1.out.size, fun p hp => row_base (HC.out p hp) G1.out.size⟩⟩
  · have e1 : win (ts.length : Int) 1 100 = false := (win_not _ _ _).2 (by omega)
    clear hg1 ha1 hb1
    go_wp2
    refine bodyPost_ret (results_tmp2 rfl _ _ _) rfl ?_
    exact .inl ⟨by omega, G1.out, rfl⟩
end Go.Proofs.Ytkmeingnhaomaab
/- The program's sort of chunks. -/
namespace Go.Proofs.Ytkmeingnhaomaab
open Go.Shelf Go.RowKit Go.Lib Go.Sort
def Try.sortCk_ren : Go.Shelf.Ren := ⟨fun | 6 => 46 | 15 => 68 | 14 => 67 | 28 => 86 | 29 => 87 | 20 => 78 | 21 => 79 | 22 => 80 | 23 => 81 | 24 => 82 | 25 => 83 | 26 => 84 | 27 => 85 | 46 => 89 | 47 => 90 | 48 => 91 | 49 => 92 | 50 => 93 | 57 => 95 | n => n, fun | 22 => 61 | 24 => 65 | 25 => 91 | 3 => 3 | 39 => 107 | 0 => 0 | 53 => 103 | 55 => 123 | 4 => 4 | 46 => 115 | 45 => 114 | 50 => 119 | 5 => 5 | 9 => 9 | 66 => 125 | 70 => 129 | 76 => 131 | 77 => 23 | n => n, fun | n => n⟩
theorem Try.sortCk : Go.Proofs.SlLaysF0.n6 Try.prog Try.sortCk_ren := {
  mixed := by kernel_rfl
  f6 := ⟨Try.f46.name, by decide, Try.func46.trans (congrArg some (by kernel_rfl))⟩
  f14 := ⟨Try.f67.name, by decide, Try.func67.trans (congrArg some (by kernel_rfl))⟩
  f15 := Try.func68.trans (congrArg some (by kernel_rfl))
  f20 := ⟨Try.f78.name, by decide, Try.func78.trans (congrArg some (by kernel_rfl))⟩
  f21 := ⟨Try.f79.name, by decide, Try.func79.trans (congrArg some (by kernel_rfl))⟩
  f22 := ⟨Try.f80.name, by decide, Try.func80.trans (congrArg some (by kernel_rfl))⟩
  f23 := ⟨Try.f81.name, by decide, Try.func81.trans (congrArg some (by kernel_rfl))⟩
  f24 := ⟨Try.f82.name, by decide, Try.func82.trans (congrArg some (by kernel_rfl))⟩
  f25 := ⟨Try.f83.name, by decide, Try.func83.trans (congrArg some (by kernel_rfl))⟩
  f26 := ⟨Try.f84.name, by decide, Try.func84.trans (congrArg some (by kernel_rfl))⟩
  f27 := ⟨Try.f85.name, by decide, Try.func85.trans (congrArg some (by kernel_rfl))⟩
  f28 := Try.func86.trans (congrArg some (by kernel_rfl))
  f29 := Try.func87.trans (congrArg some (by kernel_rfl))
  f46 := ⟨Try.f89.name, by decide, Try.func89.trans (congrArg some (by kernel_rfl))⟩
  f47 := Try.func90.trans (congrArg some (by kernel_rfl))
  f48 := Try.func91.trans (congrArg some (by kernel_rfl))
  f49 := ⟨Try.f92.name, by decide, Try.func92.trans (congrArg some (by kernel_rfl))⟩
  f50 := ⟨Try.f93.name, by decide, Try.func93.trans (congrArg some (by kernel_rfl))⟩
  f57 := ⟨Try.f95.name, by decide, Try.func95.trans (congrArg some (by kernel_rfl))⟩
  t0 := Try.underlying0
  a0 := Try.isAgg0
  z0 := Try.sizeOf0
  v0 := Try.zeroValue0
  t3 := Try.underlying3
  a3 := Try.isAgg3
  z3 := Try.sizeOf3
  v3 := Try.zeroValue3
  t4 := Try.underlying4
  a4 := Try.isAgg4
  z4 := Try.sizeOf4
  v4 := Try.zeroValue4
  t5 := Try.underlying5
  a5 := Try.isAgg5
  z5 := Try.sizeOf5
  v5 := Try.zeroValue5
  t9 := Try.underlying9
  a9 := Try.isAgg9
  z9 := Try.sizeOf9
  v9 := Try.zeroValue9
  t22 := Try.underlying61
  a22 := Try.isAgg61
  z22 := Try.sizeOf61
  v22 := Try.zeroValue61
  t25 := Try.underlying91
  a25 := Try.isAgg91
  z25 := Try.sizeOf91
  v25 := Try.zeroValue91
  t39 := Try.underlying107
  a39 := Try.isAgg107
  z39 := Try.sizeOf107
  v39 := Try.zeroValue107
  t45 := Try.underlying114
  a45 := Try.isAgg114
  z45 := Try.sizeOf114
  v45 := Try.zeroValue114
  t46 := Try.underlying115
  a46 := Try.isAgg115
  z46 := Try.sizeOf115
  v46 := Try.zeroValue115
  t50 := Try.underlying119
  a50 := Try.isAgg119
  z50 := Try.sizeOf119
  v50 := Try.zeroValue119
  t53 := Try.underlying103
  a53 := Try.isAgg103
  z53 := Try.sizeOf103
  v53 := Try.zeroValue103
  t55 := Try.underlying123
  a55 := Try.isAgg123
  z55 := Try.sizeOf123
  v55 := Try.zeroValue123
  t66 := Try.underlying125
  a66 := Try.isAgg125
  z66 := Try.sizeOf125
  v66 := Try.zeroValue125
  t70 := Try.underlying129
  a70 := Try.isAgg129
  z70 := Try.sizeOf129
  v70 := Try.zeroValue129
  t76 := Try.underlying131
  a76 := Try.isAgg131
  z76 := Try.sizeOf131
  v76 := Try.zeroValue131
  t77 := Try.underlying23
  a77 := Try.isAgg23
  z77 := Try.sizeOf23
  v77 := Try.zeroValue23 }
def Try.cmpInt_ren : Go.Shelf.Ren := ⟨fun | 5 => 48 | 7 => 69 | n => n, fun | 22 => 3 | 3 => 3 | 4 => 4 | n => n, fun | n => n⟩
theorem Try.cmpInt : Go.Proofs.SlLaysC2.n5 Try.prog Try.cmpInt_ren := {
  mixed := by kernel_rfl
  f5 := ⟨Try.f48.name, by decide, Try.func48.trans (congrArg some (by kernel_rfl))⟩
  f7 := ⟨Try.f69.name, by decide, Try.func69.trans (congrArg some (by kernel_rfl))⟩
  t3 := Try.underlying3
  a3 := Try.isAgg3
  z3 := Try.sizeOf3
  v3 := Try.zeroValue3
  t4 := Try.underlying4
  a4 := Try.isAgg4
  z4 := Try.sizeOf4
  v4 := Try.zeroValue4
  t22 := Try.underlying3
  a22 := Try.isAgg3
  z22 := Try.sizeOf3
  v22 := Try.zeroValue3 }

/-- A chunk with its list's header. -/
abbrev Sk := Ck × (Option Addr × Nat × Nat)
instance : Inhabited Sk := ⟨(⟨0, 0, 0, 0, 0, 0, 0, []⟩, none, 0, 0)⟩
def skP (x : Sk) : Ck × Value := (x.1, .slice x.2.1 x.2.2.1 x.2.2.2)
def skE (x : Sk) : List Value := pcCells (skP x)
def skC (x y : Sk) : Int := Lib.compareInt x.1.nu y.1.nu

theorem sk_lt (x y : Sk) : ltOf skC x y = decide (x.1.nu < y.1.nu) := by
  unfold ltOf skC Lib.compareInt
  by_cases h1 : x.1.nu < y.1.nu
  · simp [h1]
  · by_cases h2 : y.1.nu < x.1.nu <;> simp [h1, h2]
theorem sk_swo : SWO (ltOf skC) where
  irrefl x := by rw [sk_lt]; simp
  trans x y z h1 h2 := by rw [sk_lt] at *; simp at *; omega
  ntrans x y z h1 h2 := by rw [sk_lt] at *; simp at *; omega

set_option maxRecDepth 100000 in
set_option maxHeartbeats 1000000 in
theorem joined1_any (x y : Sk) (W : World) : Calls Try.prog 47 #[.agg (skE x).toArray, .agg (skE y).toArray] W fun e w' => e = .returned (.int .i64 (skC x y)) ∧ ∃ q os', w' = grow (W.drewN q) os' := by
  obtain ⟨⟨f1, t1, b1, z1, a1, n1, m1, r1⟩, xa, xl, xc⟩ := x
  obtain ⟨⟨f2, t2, b2, z2, a2, n2, m2, r2⟩, ya, yl, yc⟩ := y
  have hcon := fun W' => AnyG.cmp_Compare_int Try.cmpInt (n1 : Int) (n2 : Int) W'
  change ∀ W', Calls Try.prog 48 _ _ _ at hcon
  have HC : Hid _ := hcon
  clear hcon
  show Calls Try.prog 47 #[.agg #[.int .i64 f1, .int .i64 t1, .int .i64 b1, .int .i64 z1, .int .i64 a1, .int .i64 n1, .int .i64 m1, .slice xa xl xc], .agg #[.int .i64 f2, .int .i64 t2, .int .i64 b2, .int .i64 z2, .int .i64 a2, .int .i64 n2, .int .i64 m2, .slice ya yl yc]] W fun e w' => e = .returned (.int .i64 (Lib.compareInt n1 n2)) ∧ ∃ q os', w' = grow (W.drewN q) os'
  generalize Lib.compareInt (n1 : Int) (n2 : Int) = r at *
  go_enter Try.func47, Try.ntmps47
  go_wp2_with fail
  refine (HC.out _).mono ?_
  rintro e w' ⟨rfl, rfl⟩
  go_wp2
  go_ret
  exact ⟨rfl, 0, _, by rw [alloc_eq_grow, alloc_eq_grow, grow_grow]; rfl⟩

theorem sk_flat (xs : List Sk) : (flatK skE 8 xs.toArray).toList = (xs.map skP).flatMap pcCells := by
  apply List.ext_getElem?
  intro i
  by_cases hi : i < xs.length * 8
  · have hd : i / 8 < xs.length := by omega
    have h2 := pcCells_at (xs.map skP) (i / 8) (by simp; omega) (i % 8) (by omega)
    rw [show i / 8 * 8 + i % 8 = i from by omega] at h2
    rw [h2, Array.getElem?_toList]
    have hd2 : i / 8 < (xs.map skP).length := by simpa using hd
    have h3 : (pcCells ((xs.map skP)[i / 8]'hd2)).length = 8 := rfl
    simp only [flatK, List.size_toArray, Array.getElem?_map, Array.getElem?_range, hi, if_true, Option.map_some]
    rw [List.getElem!_toArray, getElem!_pos xs (i / 8) hd, List.getElem?_eq_getElem (by rw [h3]; omega), getElem!_pos (skE xs[i / 8]) (i % 8) (show i % 8 < 8 by omega)]
    simp [skE]
  · rw [List.getElem?_eq_none (by simp; omega), List.getElem?_eq_none (by rw [pcCells_length]; simp; omega)]

theorem holds_sk {w : World} {g : Nat} {cur : Array Value} {e : TypeId} {xs : List Sk} (hb : w.heap[g]? = some (.cells cur e (0, 0))) (ht : cur.toList.take (xs.length * 8) = (xs.map skP).flatMap pcCells) : HoldsK skE 8 w g 0 xs.toArray := by
  intro j hj
  have hj' : j < xs.length * 8 := by simpa using hj
  refine ⟨?_, by simp [World.frozen?, hb]⟩
  have h1 : (cur.toList.take (xs.length * 8))[j]? = (flatK skE 8 xs.toArray).toList[j]? := by rw [ht, sk_flat]
  rw [List.getElem?_take_of_lt hj', Array.getElem?_toList, Array.getElem?_toList] at h1
  rw [Nat.zero_add]
  refine boxed_cell hb ?_
  rw [h1, getElem!_pos _ j hj, Array.getElem?_eq_getElem hj]
  rfl

theorem heap_sk {w : World} {g n : Nat} {os : Array Obj} {cur : Array Value} {e : TypeId} {fr : Nat × Nat} (d : Array Sk) (hb : w.heap[g]? = some (.cells cur e fr)) :
    (sortWorldK skE 8 w g 0 n d os).heap[g]? = some (.cells (putCells id 0 (flatK skE 8 d) cur) e fr) := by
  have hg : g < w.heap.size := (Array.getElem?_eq_some_iff.1 hb).1
  unfold sortWorldK putRowK
  rw [heap_grow_old _ _ (by simpa using hg)]
  simp [putRow, mapBlock, Sort.ahead, Array.getElem?_modify, hb, onCells]
theorem grown_sk {w : World} {g n : Nat} {os : Array Obj} (d : Array Sk) : w.grownBy (sortWorldK skE 8 w g 0 n d os) (some g) := by
  refine ⟨rfl, rfl, rfl, by unfold sortWorldK putRowK; simp, fun k hk hne => ?_⟩
  unfold sortWorldK putRowK
  rw [heap_grow_old _ _ (by simpa using hk)]
  have : g ≠ k := fun e => hne (by rw [e])
  simp [putRow, mapBlock, Sort.ahead, Array.getElem?_modify, this]
theorem take_sk (cur F : Array Value) (h : F.size ≤ cur.size) : (putCells id 0 F cur).toList.take F.size = F.toList := by
  apply List.ext_getElem?
  intro j
  by_cases hj : j < F.size
  · rw [List.getElem?_take_of_lt hj, Array.getElem?_toList, Array.getElem?_toList]
    simp [putCells, hj, show j < cur.size by omega]
  · rw [List.getElem?_take_eq_none (by omega), List.getElem?_eq_none (by simpa using hj)]

/-- **The sort of chunks by their numbers.** -/
theorem sort_any (g cap B : Nat) (xs : List Sk) (w : World) (h : OwnsP B w (.slice (some ⟨g, 0, none⟩) xs.length cap) (xs.map skP)) (hn : xs.length ≤ 100) :
    Calls Try.prog 46 #[.slice (some ⟨g, 0, none⟩) xs.length cap, .func (.func 47) #[] #[]] w fun e w' => e = .returned (.tuple #[]) ∧
      ∃ ys : List Sk, ys.Perm xs ∧ ys.Pairwise (fun a b => a.1.nu ≤ b.1.nu) ∧ OwnsP B w' (.slice (some ⟨g, 0, none⟩) xs.length cap) (ys.map skP) ∧ w.grownBy w' (some g) := by
  rcases h.2 with ⟨e0, h0⟩ | ⟨g', cap', cur, e0, hb, hg, hc, hm, hs, ht⟩
  · cases e0
  have e1 := e0
  simp only [Value.slice.injEq, Option.some.injEq, Addr.mk.injEq] at e1
  obtain ⟨⟨rfl, -, -⟩, -, rfl⟩ := e1
  rw [List.length_map] at hc ht
  have eg : ∀ args w, (callFunc 47 args).run Try.prog w = .ok (.enter 47 args) w := enters_of Try.func47 (by kernel_rfl) rfl
  have hlays : CmpLays Try.prog 47 #[] skE 8 skC g 0 xs.toArray.size w := fun _ _ _ _ x y => joined1_any x y _
  have hcon := AnyQ.slices_SortFunc Try.sortCk 8 Try.isAgg65 Try.sizeOf65 skE (fun _ => rfl) (fun x v hv => by simp [skE, pcCells, skP] at hv; rcases hv with rfl | rfl | rfl | rfl | rfl | rfl | rfl | rfl <;> rfl) skC sk_swo 47 #[] g 0 cap xs.toArray w eg hlays (holds_sk hg ht) ((Array.getElem?_eq_some_iff.1 hg).1) (by simp; omega)
  change Calls Try.prog 46 _ _ _ at hcon
  rw [show xs.toArray.size = xs.length from by simp] at hcon
  refine hcon.mono ?_
  rintro e w' ⟨rfl, d', n, os, hp, hsr, rfl⟩
  have hds : d'.size = xs.length := by rw [hp.1]; simp
  have hperm : d'.toList.Perm xs := by
    have := hp.2.2
    rw [show d'.extract 0 xs.length = d' from by rw [← hds]; simp, show xs.toArray.extract 0 xs.length = xs.toArray from by simp] at this
    simpa using this
  refine ⟨rfl, d'.toList, hperm, ?_, ?_, grown_sk d'⟩
  · rw [List.pairwise_iff_getElem]
    intro i j hi hj hij
    have := hsr i j (Nat.zero_le _) hij (by simpa [hds] using hj)
    rw [sk_lt, getElem!_pos d' j (by simpa using hj), getElem!_pos d' i (by simpa using hi)] at this
    simp only [decide_eq_false_iff_not, Nat.not_lt] at this
    simpa using this
  · have hl : (d'.toList.map skP).length = xs.length := by simp [hds]
    refine ⟨pcCells_length _, .inr ⟨g, cap, _, by rw [hl], hb, heap_sk d' hg, by rw [hl]; exact hc, hm, by simp [putCells, hs], ?_⟩⟩
    have hF : (flatK skE 8 d').toList = (d'.toList.map skP).flatMap pcCells := by
      have := sk_flat d'.toList
      simpa using this
    have hfs : (flatK skE 8 d').size = xs.length * 8 := by simp [hds]
    rw [hl, ← hF, ← hfs]
    exact take_sk cur _ (by rw [hfs, hs]; omega)
end Go.Proofs.Ytkmeingnhaomaab
