/- strandlaw's ownRecords and keptRecords: the walks. -/
import Derived.Test.YtdjmhagclcfnfaaLOwn
namespace Go.Proofs.Ytdjmhagclcfnfaa
open Go.RowKit Go.Shelf

theorem row_through {B B' : Nat} {W W' : World} {v vo : Value} {rs : List Rc} {k : Nat} {ss : List Value} {o : Obj} (h : OwnsR B W v rs) (ho : W.ownsRow B' 22 1 vo k ss) (hg : (W.alloc o).grownBy W' v.ownBlock) : W'.ownsRow B' 22 1 vo k ss :=
  World.ownsRow.kept (World.ownsRow.alloc ho o) hg (rows_ne (h.alloc o) (World.ownsRow.alloc ho o)).1

theorem Old.alloc {N : Nat} {W : World} {s : Value} {xs : List Rc} (h : Old N W s xs) (hN : N ≤ W.heap.size) (o : Obj) : Old N (W.alloc o) s xs := h.below fun k hk => Below.heap_alloc W o k (by omega)

/-- A round of ownRecords' second loop. -/
theorem own_round {w wr w3 w5 : World} {B n k : Nat} {m : Int} {vg v' out : Value} {r : Option Nat} {ss : List Value} {t1 t2 : Obj}
    (hsl : ss.length = k + 1) (HR : wr.ownsRow w.heap.size 22 1 out (k + 1) ss) (H0 : ∃ a0 l0 c0, ss[0]? = some (.slice a0 l0 c0)) (HO : OwnsR B wr vg (List.replicate (n + k) ⟨false, m, ⟨#[]⟩⟩))
    (HL : ∀ j (h : j < ss.length), Old wr.heap.size wr ss[j] (List.replicate (n + j) ⟨false, m, ⟨#[]⟩⟩)) (HG : w.grownBy wr r) (HA : vg.ownBlock = r ∨ ∀ x, vg.ownBlock = some x → w.heap.size ≤ x)
    (O3 : OwnsR B w3 v' (List.replicate (n + k) ⟨false, m, ⟨#[]⟩⟩ ++ [⟨false, m, ⟨#[]⟩⟩])) (G3 : (wr.alloc t1).grownBy w3 vg.ownBlock)
    (L3 : ∀ N sv xs, N ≤ (wr.alloc t1).heap.size → xs.length ≤ (List.replicate (n + k) (⟨false, m, ⟨#[]⟩⟩ : Rc)).length → Old N (wr.alloc t1) sv xs → Old N w3 sv xs)
    (A3 : v'.ownBlock = vg.ownBlock ∨ ∀ g, v'.ownBlock = some g → (wr.alloc t1).heap.size ≤ g)
    (hg5 : (w3.alloc t2).grownBy w5 out.ownBlock) :
    (ss ++ [v']).length = k + 1 + 1 ∧ (∃ a0 l0 c0, (ss ++ [v'])[0]? = some (.slice a0 l0 c0)) ∧ OwnsR B w5 v' (List.replicate (n + (k + 1)) ⟨false, m, ⟨#[]⟩⟩) ∧
      (∀ j (h : j < (ss ++ [v']).length), Old w5.heap.size w5 (ss ++ [v'])[j] (List.replicate (n + j) ⟨false, m, ⟨#[]⟩⟩)) ∧ w.grownBy w5 r ∧ (v'.ownBlock = r ∨ ∀ x, v'.ownBlock = some x → w.heap.size ≤ x) := by
  have R3 := row_through HO HR G3
  have erep : List.replicate (n + k) (⟨false, m, ⟨#[]⟩⟩ : Rc) ++ [⟨false, m, ⟨#[]⟩⟩] = List.replicate (n + (k + 1)) ⟨false, m, ⟨#[]⟩⟩ := by
    rw [← Nat.add_assoc, List.replicate_succ']
  have hs3 : wr.heap.size + 1 ≤ w3.heap.size := by have := G3.size; simpa using this
  have hs5 : w3.heap.size + 1 ≤ w5.heap.size := by have := hg5.size; simpa using this
  obtain ⟨a0, l0, c0, h00⟩ := H0
  obtain ⟨go, hgo, hc0, hge⟩ : ∃ go, out.ownBlock = some go ∧ (w3.alloc t2).cell? ⟨go, 0, none⟩ = some (.slice a0 l0 c0) ∧ w.heap.size ≤ go := by
    have R3a := World.ownsRow.alloc R3 t2
    rcases R3a.2 with ⟨_, h⟩ | ⟨go, cap, cur, e, hbg, _⟩
    · omega
    · have hgo : out.ownBlock = some go := by rw [e]; rfl
      have := R3a.cells hgo 0 _ h00
      rw [Addr.add_lit] at this
      exact ⟨go, hgo, this, hbg⟩
  refine ⟨by rw [List.length_append, hsl]; rfl, ⟨a0, l0, c0, by rw [List.getElem?_append_left (by omega)]; exact h00⟩, ?_, ?_, ?_, ?_⟩
  · rw [← erep]
    exact World.ownsRow.kept (OwnsR.alloc O3 t2) hg5 (rows_ne (OwnsR.alloc O3 t2) (World.ownsRow.alloc R3 t2)).2
  · intro j hj
    rw [List.length_append, hsl] at hj
    simp only [List.length_cons, List.length_nil, Nat.zero_add] at hj
    rw [hgo] at hg5
    by_cases hjk : j < k + 1
    · rw [List.getElem_append_left (by omega)]
      have h1 := (HL j (by omega)).alloc (Nat.le_refl _) t1
      have h2 := L3 wr.heap.size _ _ (by simp) (by simp; omega) h1
      have h3 := h2.alloc (by omega) t2
      exact (h3.other hg5 (by simp; omega) hc0).mono (by omega)
    · obtain rfl : j = k + 1 := by omega
      rw [List.getElem_append_right (by omega)]
      have h2 := O3.old
      rw [erep] at h2
      have h3 := h2.alloc (Nat.le_refl _) t2
      have h4 := (h3.other hg5 (by simp) hc0).mono (show w3.heap.size ≤ w5.heap.size by omega)
      simpa [hsl] using h4
  · have g1 := grow_own (gallocR HG t1) G3 HA
    exact grow_own (gallocR g1 t2) hg5 (.inr fun x e => by rw [hgo] at e; cases e; exact hge)
  · rcases A3 with e | h
    · rw [e]
      exact HA
    · refine .inr fun x e => ?_
      have := h x e
      have := HG.size
      simp at *
      omega

set_option maxRecDepth 100000 in
set_option maxHeartbeats 1000000 in
theorem ownRecords_any (v : Value) (rs : List Rc) (m : Int) (B : Nat) (w : World) (ho : OwnsR B w v rs) (hl : rs.length ≤ 1000) (hB : B ≤ w.heap.size) :
    Calls Try.prog 16 #[v, .int .i64 m] w fun e w' => ∃ vo, e = .returned vo ∧ Marked w'.heap.size w' vo m rs.length ∧ w.grownBy w' v.ownBlock := by
  obtain ⟨a, c, rfl⟩ := ho.recs.slice
  go_enter Try.func16, Try.ntmps16
  go_wp2
  go_loopw [5] (fun i wr => ∃ k : Nat, k ≤ rs.length ∧ i = .int .i64 k ∧ OwnsR B wr (.slice a rs.length c) (List.replicate k ⟨false, m, ⟨#[]⟩⟩ ++ rs.drop k) ∧ w.grownBy wr (Value.slice a rs.length c).ownBlock) (fun i _ => rs.length - (intOf i).toNat)
  case atStart => exact ⟨0, Nat.zero_le _, rfl, ho, drew_grown w 0 _⟩
  case round =>
    obtain ⟨k, hk, rfl, hown, hgw⟩ := hrel
    have HO : Hid _ := hown
    have HG : Hid _ := hgw
    by_cases hlt : k < rs.length
    · obtain ⟨g, rfl⟩ : ∃ g, a = some ⟨g, 0, none⟩ := by
        rcases hown.2 with ⟨e, _⟩ | ⟨g, cap, cur, e, _⟩
        · simp only [Value.slice.injEq] at e
          omega
        · simp only [Value.slice.injEq] at e
          exact ⟨g, e.1⟩
      obtain ⟨q0, q1, q2⟩ := hown.row k (by simp; omega)
      have hfz : ∀ o, wr.frozen? ⟨g, o, none⟩ = false := by
        rcases hown.2 with ⟨e, _⟩ | ⟨g', cap, cur, e, _, hgb, _⟩
        · cases e
        · simp only [Value.slice.injEq, Option.some.injEq, Addr.mk.injEq] at e
          obtain ⟨⟨rfl, _⟩, _⟩ := e
          exact fun o => boxed_frozen hgb
      have z0 := hfz (k * 3)
      have z1 := hfz (k * 3 + 1)
      have z2 := hfz (k * 3 + 2)
      clear hfz hown hgw ho
      go_wp2
      refine ⟨⟨k + 1, by omega, by go_num, ?_, ?_⟩, by simp [intOf]; omega⟩
      · have h := OwnsR.store HO.out k ⟨false, m, ⟨#[]⟩⟩
        rw [mark_set rs k _ hlt] at h
        exact h
      · exact gtrans (gtrans (gtrans HG.out (gset _ _ _ _)) (gset _ _ _ _)) (gset _ _ _ _)
    · obtain rfl : k = rs.length := by omega
      rw [List.drop_length, List.append_nil] at hown
      have hb0 : ∀ g, (Value.slice a rs.length c).ownBlock = some g → B ≤ g := hown.own_ge
      clear HO HG ho
      go_wp2
      have O1 := OwnsR.alloc hown (.cells #[.slice a rs.length c] 22)
      have G1 : w.grownBy (wr.alloc (.cells #[.slice a rs.length c] 22)) (Value.slice a rs.length c).ownBlock := gallocR hgw _
      have R1 : (wr.alloc (.cells #[.slice a rs.length c] 22)).ownsRow w.heap.size 22 1 (.slice (some ⟨wr.heap.size, 0, none⟩) 1 1) 1 [.slice a rs.length c] := ⟨rfl, .inr ⟨wr.heap.size, 1, _, rfl, hgw.size, World.alloc_heap_new _ _, Nat.le_refl _, by decide, rfl, rfl⟩⟩
      generalize wr.alloc (.cells #[.slice a rs.length c] 22) = W1 at *
      go_loopw [6, 7, 8] (fun out g i wq => ∃ (k : Nat) (ss : List Value), k ≤ 3 ∧ i = .int .i64 k ∧ ss.length = k + 1 ∧ wq.ownsRow w.heap.size 22 1 out (k + 1) ss ∧ (∃ a0 l0 c0, ss[0]? = some (.slice a0 l0 c0)) ∧ OwnsR B wq g (List.replicate (rs.length + k) ⟨false, m, ⟨#[]⟩⟩) ∧ (∀ j (h : j < ss.length), Old wq.heap.size wq ss[j] (List.replicate (rs.length + j) ⟨false, m, ⟨#[]⟩⟩)) ∧ w.grownBy wq (Value.slice a rs.length c).ownBlock ∧ (g.ownBlock = (Value.slice a rs.length c).ownBlock ∨ ∀ x, g.ownBlock = some x → w.heap.size ≤ x)) (fun _ _ i _ => 3 - (intOf i).toNat)
      case atStart =>
        refine ⟨0, _, by omega, rfl, rfl, R1, ⟨_, _, _, rfl⟩, O1, ?_, G1, .inl rfl⟩
        intro j hj
        obtain rfl : j = 0 := by simpa using hj
        exact O1.old
      case round =>
        obtain ⟨k, ss, hk3, rfl, hsl, hrow, hs0, hO, hold, hG, hat⟩ := hrel
        by_cases hlt : k < 3
        · have HR : Hid _ := hrow
          have H0 : Hid _ := hs0
          have HO : Hid _ := hO
          have HL : Hid _ := hold
          have HG : Hid _ := hG
          have HA : Hid _ := hat
          clear hrow hs0 hO hold hG hat hown hgw O1 G1 R1
          have hBw : B ≤ wr.heap.size := Nat.le_trans hB HG.out.size
          have hkk : (List.replicate (rs.length + k) (⟨false, m, ⟨#[]⟩⟩ : Rc)).length ≤ 2000 := by simp; omega
          have hml : k + 1 + 1 ≤ maxLen := Nat.le_trans (show k + 1 + 1 ≤ 5 by omega) (by decide)
          obtain ⟨i1, hi1, hy0, hy1, hy2⟩ := info_parts Try.infoRecs
          go_wp2_with (at_builtin; first
            | (refine wpList_append_rec _ rfl _ _ rfl B _ (List.replicate (rs.length + k) ⟨false, m, ⟨#[]⟩⟩) rfl (OwnsR.alloc HO.out _) ⟨_, 0, none⟩ ⟨false, m, ⟨#[]⟩⟩ rfl (cells_new2 _ _ _ _ (by simp)) hkk (by simp; omega) ?_; intro v' w3 hO3 hg3 hold3 hat3; obtain ⟨a3, l3, c3, rfl⟩ := hO3.slice; have O3 : Hid _ := hO3; have G3 : Hid _ := hg3; have L3 : Hid _ := hold3; have A3 : Hid _ := hat3; have R3 := row_through HO.out HR.out hg3; clear hO3 hg3 hold3 hat3)
            | (refine wpList_append_own _ rfl _ _ 29 rfl w.heap.size 22 i1 _ 1 24 Try.underlying29 hi1 hy0 hy1 hy2 rfl (by decide) _ _ _ rfl (World.ownsRow.alloc R3 _) ⟨_, 0, none⟩ 1 1 [_] rfl rfl (cells_new2 _ _ _ _ (by simp)) (by simp [Value.oneCell']) hml (by omega) (by have := G3.out.size; have := HG.out.size; simp at *; omega) ?_; intro vo w5 hrow5 hg5 hn5))
          obtain ⟨p1, p2, p3, p4, p5, p6⟩ := own_round hsl HR.out H0.out HO.out HL.out HG.out HA.out O3.out G3.out L3.out A3.out hg5
          exact ⟨⟨k + 1, _, by omega, by go_num, p1, hrow5, p2, p3, p4, p5, p6⟩, by simp [intOf]; omega⟩
        · obtain rfl : k = 3 := by omega
          go_wp2
          go_ret
          refine ⟨_, rfl, ?_, hG⟩
          rcases hrow.2 with ⟨_, h0⟩ | ⟨g, cap, cur, hv, hbg, hgb, _⟩
          · omega
          refine ⟨g, cap, ss, hv, (Array.getElem?_eq_some_iff.1 hgb).1, by omega, fun j hj => ⟨?_, hold j hj⟩⟩
          have := World.ownsRow.cells hrow (g := g) (by rw [hv]; rfl) j ss[j] (List.getElem?_eq_getElem hj)
          rw [Addr.add_lit, Nat.zero_add] at this
          exact this
end Go.Proofs.Ytdjmhagclcfnfaa
