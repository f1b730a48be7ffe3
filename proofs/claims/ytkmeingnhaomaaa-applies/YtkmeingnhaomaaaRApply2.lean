/- The reference's Apply. -/
import Derived.Test.YtkmeingnhaomaaaRApply
import Derived.Test.YtkmeingnhaomaaaLExact2
namespace Go.Proofs.Ytkmeingnhaomaaa
open Go.RowKit Go.Shelf

/-- A block behind records. -/
def chg (rs : List Rc) (i : Nat) (c : Cl) : Cl := match saidR rs i with | none => c | some r => if r.free then ⟨false, ⟨#[]⟩⟩ else ⟨true, r.data⟩
def outR (rs : List Rc) (cs : List Cl) : List Cl := cs.mapIdx (fun i c => chg rs i c)
def applyR (l : List UInt8) (cs : List Cl) : Int ⊕ List Cl :=
  match parseR l with
  | .inl k => .inl k
  | .inr (_, _, b, z, rs) => if volOk cs b z then .inr (outR rs cs) else .inl 1
/-- How Apply ends. -/
def ToldA (l : List UInt8) (cs : List Cl) (w : World) (e : Ending) (w' : World) : Prop :=
  w.grownBy w' none ∧ ((∃ k, applyR l cs = .inl k ∧ e = .returned (.tuple #[.slice none 0 0, .int .i64 k])) ∨ (∃ os v, applyR l cs = .inr os ∧ e = .returned (.tuple #[v, .int .i64 0]) ∧ OwnsC w.heap.size w' v os))

theorem outR_next (rs : List Rc) (cs : List Cl) (k : Nat) (h : k < cs.length) : (outR rs cs).take (k + 1) = (outR rs cs).take k ++ [chg rs k cs[k]] := by
  have hl : k < (outR rs cs).length := by simpa [outR] using h
  rw [List.take_succ_eq_append_getElem hl]
  simp [outR]

set_option maxRecDepth 100000 in
set_option maxHeartbeats 2000000 in
theorem rapply (l : List UInt8) (sv : Value) (cs : List Cl) (w : World) (hl : l.length ≤ 4611686018427387904) (hc : Cls w.heap.size w sv cs) (hcl : cs.length ≤ 4611686018427387904) :
    Calls Try.prog 21 #[.string ⟨l.toArray⟩, sv] w (ToldA l cs w) := by
  obtain ⟨a, cp, rfl⟩ := hc.slice
  have HC : Hid (∀ W, w.grownBy W none → _) := fun W h => Cls.moved hc ⟨h.os, h.tape, h.output, h.size, fun k hk => h.block k hk (by simp)⟩
  have HP : Hid (∀ W, _) := fun W => rparse l W hl
  clear hc
  go_enter Try.func21, Try.ntmps21
  go_wp2_with fail
  refine (HP.out _).mono ?_
  rintro e w1 ⟨hg1, (⟨k, hk, rfl⟩ | ⟨f, t, b, z, rs, v, hk, rfl, hown⟩)⟩
  · have hke := parse_err l k hk
    have e1 : (k != 0) = true := by simp; omega
    have HA : Hid (applyR l cs = .inl k) := by
      show _ = _
      unfold applyR
      rw [hk]
    have G1 : Hid _ := hg1
    clear hk hg1 hke
    go_wp2
    refine bodyPost_ret (results_tmp2 rfl _ _ _) rfl ?_
    exact ⟨gallocR G1.out _, .inl ⟨k, HA.out, rfl⟩⟩
  obtain ⟨-, hw, ho⟩ := parse_exact l f t b z rs hk
  obtain ⟨h1, h2, h3, h4, h5, h6, h7, h8, h9⟩ : (0 : Int) ≤ f ∧ (f : Int) ≤ 2147483647 ∧ (1 : Int) ≤ t ∧ (t : Int) ≤ 2147483647 ∧ (f : Int) ≠ t ∧ (1 : Int) ≤ b ∧ (b : Int) ≤ 100 ∧ (1 : Int) ≤ z ∧ (z : Int) ≤ 64 := of_decide_eq_true hw
  have hrl := recsOk_length b z rs ho (by omega)
  obtain ⟨av, lv, cv, rfl⟩ := hown.slice
  obtain ⟨W1, hW1⟩ : ∃ W1, W1 = w1.alloc (.cells #[.int .i64 f, .int .i64 t, .int .i64 b, .int .i64 z, .slice av lv cv] 24) := ⟨_, rfl⟩
  have s1 : Hid (W1.heap[w1.heap.size]? = some (.cells #[.int .i64 f, .int .i64 t, .int .i64 b, .int .i64 z, .slice av lv cv] 24 (0, 0))) := by rw [hW1]; exact World.alloc_heap_new _ _
  have g1 : Hid (w.grownBy W1 none) := by rw [hW1]; exact gallocR hg1 _
  have R1 : Hid (Recs W1.heap.size W1 (.slice av lv cv) rs) := by rw [hW1]; exact (OwnsR.alloc hown _).recs
  have HK : Hid _ := hk
  clear hg1 hown hk hw h1 h2 h3 h4 h5 h6 h8 ho
  go_wp2_with fail
  rw [← hW1]
  clear hW1
  refine (volume_any _ cs b z W1 (HC.out _ g1.out) (by omega) (by omega) (by omega)).mono ?_
  rintro e W2 ⟨rfl, rfl⟩
  cases hv : volOk cs b z with
  | false =>
    have HA : Hid (applyR l cs = .inl 1) := by
      show _ = _
      unfold applyR
      rw [HK.out]
      simp only [hv]
      rfl
    clear hv
    go_wp2
    refine bodyPost_ret (results_tmp2 rfl _ _ _) rfl ?_
    exact ⟨g1.out, .inl ⟨1, HA.out, rfl⟩⟩
  | true =>
    have hcb : cs.length ≤ 100 := by
      simp only [volOk, Bool.and_eq_true, decide_eq_true_eq] at hv
      omega
    have HA : Hid (applyR l cs = .inr (outR rs cs)) := by
      show _ = _
      unfold applyR
      rw [HK.out]
      simp only [hv]
      rfl
    clear hv HK
    go_wp2
    go_loopw [9, 10] (fun o i wr => ∃ k : Nat, k ≤ cs.length ∧ i = .int .i64 k ∧ OwnsC W2.heap.size wr o ((outR rs cs).take k) ∧ W2.grownBy wr none) (fun _ i _ => cs.length - (intOf i).toNat)
    case atStart => exact ⟨0, Nat.zero_le _, rfl, World.ownsRow_nil _ _ _ _, drew_grown _ 0 _⟩
    case round =>
      obtain ⟨k, hk, rfl, hO, hG⟩ := hrel
      by_cases hlt : k < cs.length
      · have hox := outR_next rs cs k hlt
        have HOX : Hid _ := hox
        have hq : ((outR rs cs).take k).length ≤ 2000 := by rw [List.length_take]; omega
        obtain ⟨c0, c1, c2, c3, c4, -⟩ := box5 (box_kept s1.out hG).1
        have y1 : w1.heap.size < wr.heap.size := (box_kept s1.out hG).2
        have HS : Hid (∀ u : Unit, _) := fun _ => said_any (.slice av lv cv) rs k wr (Recs.moved R1.out (below_of_grown hG)) (by omega)
        have HO : Hid _ := hO
        have HG : Hid _ := hG
        have HCK : Hid (∀ W, wr.grownBy W none → _) := fun W h => Cls.at (HC.out W (gtrans g1.out (gtrans hG h))) hlt
        have HCH : Hid (chg rs k cs[k] = match saidR rs k with | none => cs[k] | some r => if r.free then ⟨false, ⟨#[]⟩⟩ else ⟨true, r.data⟩) := rfl
        clear hox hO hG
        generalize cs[k] = ck at *
        go_wp2_with fail
        refine (HS.out ()).mono ?_
        rintro e w3 ⟨hg3, (⟨r, hsa, rfl⟩ | ⟨hsa, rfl⟩)⟩
        · rw [hsa] at HCH
          simp only [] at HCH
          have G3 : Hid _ := hg3
          clear hg3 hsa HS
          cases hf : r.free with
          | true =>
            rw [hf, if_pos rfl] at HCH
            go_wp2_with (at_builtin; refine wpList_append_cl _ rfl _ _ rfl W2.heap.size _ ((outR rs cs).take k) rfl (OwnsC.alloc (OwnsC.alloc (OwnsC.kept HO.out G3.out) _) _) ⟨_, 0, none⟩ ⟨false, ⟨#[]⟩⟩ rfl (cells_new2 _ _ _ _ (by simp)) hq (by have h1 := HG.out.size; have h2 := G3.out.size; simp; omega) ?_; intro v' w4 hO4 hg4 _ _)
            refine ⟨⟨k + 1, by omega, by go_num, ?_, ?_⟩, by simp [intOf]; omega⟩
            · rw [HOX.out, HCH.out]
              exact hO4
            · exact grow_own (gallocR (gallocR (gtrans HG.out G3.out) _) _) hg4 (.inr (OwnsC.own_ge HO.out))
          | false =>
            rw [hf, if_neg (by simp)] at HCH
            go_wp2_with (at_builtin; refine wpList_append_cl _ rfl _ _ rfl W2.heap.size _ ((outR rs cs).take k) rfl (OwnsC.alloc (OwnsC.alloc (OwnsC.kept HO.out G3.out) _) _) ⟨_, 0, none⟩ ⟨true, r.data⟩ rfl (cells_new2 _ _ _ _ (by simp)) hq (by have h1 := HG.out.size; have h2 := G3.out.size; simp; omega) ?_; intro v' w4 hO4 hg4 _ _)
            refine ⟨⟨k + 1, by omega, by go_num, ?_, ?_⟩, by simp [intOf]; omega⟩
            · rw [HOX.out, HCH.out]
              exact hO4
            · exact grow_own (gallocR (gallocR (gtrans HG.out G3.out) _) _) hg4 (.inr (OwnsC.own_ge HO.out))
        · rw [hsa] at HCH
          simp only [] at HCH
          have G3 : Hid _ := hg3
          obtain ⟨bb, off, rfl, hbb, q0, q1⟩ := HCK.out w3 hg3
          clear hg3 hsa HS
          go_wp2_with (at_builtin; refine wpList_append_cl _ rfl _ _ rfl W2.heap.size _ ((outR rs cs).take k) rfl (OwnsC.alloc (OwnsC.alloc (OwnsC.kept HO.out G3.out) _) _) ⟨_, 0, none⟩ ck rfl (cells_new2 _ _ _ _ (by simp)) hq (by have h1 := HG.out.size; have h2 := G3.out.size; simp; omega) ?_; intro v' w4 hO4 hg4 _ _)
          refine ⟨⟨k + 1, by omega, by go_num, ?_, ?_⟩, by simp [intOf]; omega⟩
          · rw [HOX.out, HCH.out]
            exact hO4
          · exact grow_own (gallocR (gallocR (gtrans HG.out G3.out) _) _) hg4 (.inr (OwnsC.own_ge HO.out))
      · obtain rfl : k = cs.length := by omega
        have HO : Hid _ := hO
        have HG : Hid _ := hG
        clear hO hG
        go_wp2
        refine bodyPost_ret (results_tmp2 rfl _ _ _) rfl ?_
        refine ⟨gtrans g1.out HG.out, .inr ⟨_, _, HA.out, rfl, ?_⟩⟩
        have h := HO.out
        rw [List.take_of_length_le (by simp [outR])] at h
        exact OwnsC.base h g1.out.size
end Go.Proofs.Ytkmeingnhaomaaa
