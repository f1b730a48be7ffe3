/- strandlaw's ownCells and keptCells. -/
import Derived.Test.YtdjmhagclcfnfaaCl
namespace Go.Proofs.Ytdjmhagclcfnfaa
open Go.RowKit Go.Shelf

theorem OwnsC.slice3 {B : Nat} {W : World} {v : Value} {cs : List Cl} (h : OwnsC B W v cs) : ∃ a ln cp, v = .slice a ln cp := by
  obtain ⟨a, cp, e⟩ := h.slice
  exact ⟨a, _, cp, e⟩
theorem row_throughC {B B' : Nat} {W W' : World} {v vo : Value} {rs : List Cl} {k : Nat} {ss : List Value} {o : Obj} (h : OwnsC B W v rs) (ho : W.ownsRow B' 39 1 vo k ss) (hg : (W.alloc o).grownBy W' v.ownBlock) : W'.ownsRow B' 39 1 vo k ss :=
  World.ownsRow.kept (World.ownsRow.alloc ho o) hg (rows_neC (h.alloc o) (World.ownsRow.alloc ho o)).1

/-- A round of ownRecords' second loop. -/
theorem own_roundC {w wr w3 w5 : World} {B n k : Nat} {m : ByteArray} {vg v' out : Value} {r : Option Nat} {ss : List Value} {t1 t2 : Obj}
    (hsl : ss.length = k + 1) (HR : wr.ownsRow w.heap.size 39 1 out (k + 1) ss) (H0 : ∃ a0 l0 c0, ss[0]? = some (.slice a0 l0 c0)) (HO : OwnsC B wr vg (List.replicate (n + k) ⟨false, m⟩))
    (HL : ∀ j (h : j < ss.length), OldC wr.heap.size wr ss[j] (List.replicate (n + j) ⟨false, m⟩)) (HG : w.grownBy wr r) (HA : vg.ownBlock = r ∨ ∀ x, vg.ownBlock = some x → w.heap.size ≤ x)
    (O3 : OwnsC B w3 v' (List.replicate (n + k) ⟨false, m⟩ ++ [⟨false, m⟩])) (G3 : (wr.alloc t1).grownBy w3 vg.ownBlock)
    (L3 : ∀ N sv xs, N ≤ (wr.alloc t1).heap.size → xs.length ≤ (List.replicate (n + k) (⟨false, m⟩ : Cl)).length → OldC N (wr.alloc t1) sv xs → OldC N w3 sv xs)
    (A3 : v'.ownBlock = vg.ownBlock ∨ ∀ g, v'.ownBlock = some g → (wr.alloc t1).heap.size ≤ g)
    (hg5 : (w3.alloc t2).grownBy w5 out.ownBlock) :
    (ss ++ [v']).length = k + 1 + 1 ∧ (∃ a0 l0 c0, (ss ++ [v'])[0]? = some (.slice a0 l0 c0)) ∧ OwnsC B w5 v' (List.replicate (n + (k + 1)) ⟨false, m⟩) ∧
      (∀ j (h : j < (ss ++ [v']).length), OldC w5.heap.size w5 (ss ++ [v'])[j] (List.replicate (n + j) ⟨false, m⟩)) ∧ w.grownBy w5 r ∧ (v'.ownBlock = r ∨ ∀ x, v'.ownBlock = some x → w.heap.size ≤ x) := by
  have R3 := row_throughC HO HR G3
  have erep : List.replicate (n + k) (⟨false, m⟩ : Cl) ++ [⟨false, m⟩] = List.replicate (n + (k + 1)) ⟨false, m⟩ := by
    rw [← Nat.add_assoc, List.replicate_succ']
  have hs3 : wr.heap.size + 1 ≤ w3.heap.size := by have := G3.size; simpa using this
  have hs5 : w3.heap.size + 1 ≤ w5.heap.size := by have := hg5.size; simpa using this
  obtain ⟨a0, l0, c0, h00⟩ := H0
  obtain ⟨go, hgo, hc0, hge⟩ : ∃ go, out.ownBlock = some go ∧ (w3.alloc t2).cell? ⟨go, 0, none⟩ = some (.slice a0 l0 c0) ∧ w.heap.size ≤ go := by
    have R3a := World.ownsRow.alloc R3 t2
    rcases R3a.2 with ⟨_, h⟩ | ⟨go, cap, cur, e, hbg, _⟩
    · omega
    · have hgo : out.ownBlock = some go := by rw [e]; rfl
      have := R3a.cells hgo 0 _ h00
      rw [Addr.add_lit] at this
      exact ⟨go, hgo, this, hbg⟩
  refine ⟨by rw [List.length_append, hsl]; rfl, ⟨a0, l0, c0, by rw [List.getElem?_append_left (by omega)]; exact h00⟩, ?_, ?_, ?_, ?_⟩
  · rw [← erep]
    exact World.ownsRow.kept (OwnsC.alloc O3 t2) hg5 (rows_neC (OwnsC.alloc O3 t2) (World.ownsRow.alloc R3 t2)).2
  · intro j hj
    rw [List.length_append, hsl] at hj
    simp only [List.length_cons, List.length_nil, Nat.zero_add] at hj
    rw [hgo] at hg5
    by_cases hjk : j < k + 1
    · rw [List.getElem_append_left (by omega)]
      have h1 := (HL j (by omega)).alloc (Nat.le_refl _) t1
      have h2 := L3 wr.heap.size _ _ (by simp) (by simp; omega) h1
      have h3 := h2.alloc (by omega) t2
      exact (h3.other hg5 (by simp; omega) hc0).mono (by omega)
    · obtain rfl : j = k + 1 := by omega
      rw [List.getElem_append_right (by omega)]
      have h2 := O3.old
      rw [erep] at h2
      have h3 := h2.alloc (Nat.le_refl _) t2
      have h4 := (h3.other hg5 (by simp) hc0).mono (show w3.heap.size ≤ w5.heap.size by omega)
      simpa [hsl] using h4
  · have g1 := grow_own (gallocR HG t1) G3 HA
    exact grow_own (gallocR g1 t2) hg5 (.inr fun x e => by rw [hgo] at e; cases e; exact hge)
  · rcases A3 with e | h
    · rw [e]
      exact HA
    · refine .inr fun x e => ?_
      have := h x e
      have := HG.size
      simp at *
      omega

set_option maxRecDepth 100000 in
set_option maxHeartbeats 1000000 in
theorem ownCells_any (v : Value) (rs : List Cl) (m : ByteArray) (B : Nat) (w : World) (ho : OwnsC B w v rs) (hl : rs.length ≤ 1000) (hB : B ≤ w.heap.size) :
    Calls Try.prog 24 #[v, .string m] w fun e w' => ∃ vo, e = .returned vo ∧ MarkedC w'.heap.size w' vo m rs.length ∧ w.grownBy w' v.ownBlock := by
  obtain ⟨a, c, rfl⟩ := ho.slice
  go_enter Try.func24, Try.ntmps24
  go_wp2
  go_loopw [5] (fun i wr => ∃ k : Nat, k ≤ rs.length ∧ i = .int .i64 k ∧ OwnsC B wr (.slice a rs.length c) (List.replicate k ⟨false, m⟩ ++ rs.drop k) ∧ w.grownBy wr (Value.slice a rs.length c).ownBlock) (fun i _ => rs.length - (intOf i).toNat)
  case atStart => exact ⟨0, Nat.zero_le _, rfl, ho, drew_grown w 0 _⟩
  case round =>
    obtain ⟨k, hk, rfl, hown, hgw⟩ := hrel
    have HO : Hid _ := hown
    have HG : Hid _ := hgw
    by_cases hlt : k < rs.length
    · obtain ⟨g, rfl⟩ : ∃ g, a = some ⟨g, 0, none⟩ := by
        rcases hown.2 with ⟨e, _⟩ | ⟨g, cap, cur, e, _⟩
        · simp only [Value.slice.injEq] at e
          omega
        · simp only [Value.slice.injEq] at e
          exact ⟨g, e.1⟩
      obtain ⟨q0, q1⟩ := hown.row k (by simp; omega)
      have hfz : ∀ o, wr.frozen? ⟨g, o, none⟩ = false := by
        rcases hown.2 with ⟨e, _⟩ | ⟨g', cap, cur, e, _, hgb, _⟩
        · cases e
        · simp only [Value.slice.injEq, Option.some.injEq, Addr.mk.injEq] at e
          obtain ⟨⟨rfl, _⟩, _⟩ := e
          exact fun o => boxed_frozen hgb
      have z0 := hfz (k * 2)
      have z1 := hfz (k * 2 + 1)
      clear hfz hown hgw ho
      go_wp2
      refine ⟨⟨k + 1, by omega, by go_num, ?_, ?_⟩, by simp [intOf]; omega⟩
      · have h := OwnsC.store HO.out k ⟨false, m⟩
        rw [mark_setC rs k _ hlt] at h
        exact h
      · exact gtrans (gtrans HG.out (gset _ _ _ _)) (gset _ _ _ _)
    · obtain rfl : k = rs.length := by omega
      rw [List.drop_length, List.append_nil] at hown
      have hb0 : ∀ g, (Value.slice a rs.length c).ownBlock = some g → B ≤ g := hown.own_ge
      clear HO HG ho
      go_wp2
      have O1 := OwnsC.alloc hown (.cells #[.slice a rs.length c] 39)
      have G1 : w.grownBy (wr.alloc (.cells #[.slice a rs.length c] 39)) (Value.slice a rs.length c).ownBlock := gallocR hgw _
      have R1 : (wr.alloc (.cells #[.slice a rs.length c] 39)).ownsRow w.heap.size 39 1 (.slice (some ⟨wr.heap.size, 0, none⟩) 1 1) 1 [.slice a rs.length c] := ⟨rfl, .inr ⟨wr.heap.size, 1, _, rfl, hgw.size, World.alloc_heap_new _ _, Nat.le_refl _, by decide, rfl, rfl⟩⟩
      generalize wr.alloc (.cells #[.slice a rs.length c] 39) = W1 at *
      go_loopw [6, 7, 8] (fun out g i wq => ∃ (k : Nat) (ss : List Value), k ≤ 3 ∧ i = .int .i64 k ∧ ss.length = k + 1 ∧ wq.ownsRow w.heap.size 39 1 out (k + 1) ss ∧ (∃ a0 l0 c0, ss[0]? = some (.slice a0 l0 c0)) ∧ OwnsC B wq g (List.replicate (rs.length + k) ⟨false, m⟩) ∧ (∀ j (h : j < ss.length), OldC wq.heap.size wq ss[j] (List.replicate (rs.length + j) ⟨false, m⟩)) ∧ w.grownBy wq (Value.slice a rs.length c).ownBlock ∧ (g.ownBlock = (Value.slice a rs.length c).ownBlock ∨ ∀ x, g.ownBlock = some x → w.heap.size ≤ x)) (fun _ _ i _ => 3 - (intOf i).toNat)
      case atStart =>
        refine ⟨0, _, by omega, rfl, rfl, R1, ⟨_, _, _, rfl⟩, O1, ?_, G1, .inl rfl⟩
        intro j hj
        obtain rfl : j = 0 := by simpa using hj
        exact O1.old
      case round =>
        obtain ⟨k, ss, hk3, rfl, hsl, hrow, hs0, hO, hold, hG, hat⟩ := hrel
        by_cases hlt : k < 3
        · have HR : Hid _ := hrow
          have H0 : Hid _ := hs0
          have HO : Hid _ := hO
          have HL : Hid _ := hold
          have HG : Hid _ := hG
          have HA : Hid _ := hat
          clear hrow hs0 hO hold hG hat hown hgw O1 G1 R1
          have hBw : B ≤ wr.heap.size := Nat.le_trans hB HG.out.size
          have hkk : (List.replicate (rs.length + k) (⟨false, m⟩ : Cl)).length ≤ 2000 := by simp; omega
          have hml : k + 1 + 1 ≤ maxLen := Nat.le_trans (show k + 1 + 1 ≤ 5 by omega) (by decide)
          obtain ⟨i1, hi1, hy0, hy1, hy2⟩ := info_parts Try.infoCls
          go_wp2_with (at_builtin; first
            | (refine wpList_append_cl _ rfl _ _ rfl B _ (List.replicate (rs.length + k) ⟨false, m⟩) rfl (OwnsC.alloc HO.out _) ⟨_, 0, none⟩ ⟨false, m⟩ rfl (cells_new2 _ _ _ _ (by simp)) hkk (by simp; omega) ?_; intro v' w3 hO3 hg3 hold3 hat3; obtain ⟨a3, l3, c3, rfl⟩ := OwnsC.slice3 hO3; have O3 : Hid _ := hO3; have G3 : Hid _ := hg3; have L3 : Hid _ := hold3; have A3 : Hid _ := hat3; have R3 := row_throughC HO.out HR.out hg3; clear hO3 hg3 hold3 hat3)
            | (refine wpList_append_own _ rfl _ _ 45 rfl w.heap.size 39 i1 _ 1 24 Try.underlying45 hi1 hy0 hy1 hy2 rfl (by decide) _ _ _ rfl (World.ownsRow.alloc R3 _) ⟨_, 0, none⟩ 1 1 [_] rfl rfl (cells_new2 _ _ _ _ (by simp)) (by simp [Value.oneCell']) hml (by omega) (by have := G3.out.size; have := HG.out.size; simp at *; omega) ?_; intro vo w5 hrow5 hg5 hn5))
          obtain ⟨p1, p2, p3, p4, p5, p6⟩ := own_roundC hsl HR.out H0.out HO.out HL.out HG.out HA.out O3.out G3.out L3.out A3.out hg5
          exact ⟨⟨k + 1, _, by omega, by go_num, p1, hrow5, p2, p3, p4, p5, p6⟩, by simp [intOf]; omega⟩
        · obtain rfl : k = 3 := by omega
          go_wp2
          go_ret
          refine ⟨_, rfl, ?_, hG⟩
          rcases hrow.2 with ⟨_, h0⟩ | ⟨g, cap, cur, hv, hbg, hgb, _⟩
          · omega
          refine ⟨g, cap, ss, hv, (Array.getElem?_eq_some_iff.1 hgb).1, by omega, fun j hj => ⟨?_, hold j hj⟩⟩
          have := World.ownsRow.cells hrow (g := g) (by rw [hv]; rfl) j ss[j] (List.getElem?_eq_getElem hj)
          rw [Addr.add_lit, Nat.zero_add] at this
          exact this

set_option maxRecDepth 100000 in
set_option maxHeartbeats 1000000 in
/-- sameCells of two lists that hold the same. -/
theorem sameC_any (sv sv' : Value) (rs : List Cl) (w : World) (hR : Cls w.heap.size w sv rs) (hR' : Cls w.heap.size w sv' rs) (hlen : rs.length ≤ 4611686018427387904) :
    Calls Try.prog 23 #[sv, sv'] w fun e w' => e = .returned (.bool true) ∧ ∃ n, w' = w.drewN n := by
  obtain ⟨a, c, rfl⟩ := hR.slice
  obtain ⟨a', c', rfl⟩ := hR'.slice
  go_enter Try.func23, Try.ntmps23
  go_wp2
  go_loopw [5] (fun i wr => ∃ k : Nat, k ≤ rs.length ∧ i = .int .i64 k ∧ ∃ n, wr = w.drewN n) (fun i _ => rs.length - (intOf i).toNat)
  case atStart => exact ⟨0, Nat.zero_le _, rfl, 0, rfl⟩
  case round =>
    obtain ⟨k, hk, rfl, n, rfl⟩ := hrel
    by_cases hlt : k < rs.length
    · obtain ⟨b, off, ha, hb, q0, q1⟩ := hR.at hlt
      obtain ⟨b', off', ha', hb', q0', q1'⟩ := hR'.at hlt
      subst ha
      subst ha'
      generalize rs[k] = r at *
      go_wp2
      go_quiet (fail)
      go_wp2
      go_roundw
      case rel => exact ⟨k + 1, by omega, by go_num, _, rfl⟩
      case measure => simp [intOf]; omega
    · go_wp2
      go_ret
      exact ⟨rfl, n, rfl⟩

set_option maxRecDepth 100000 in
set_option maxHeartbeats 1000000 in
theorem keptCells_any (vo : Value) (m : ByteArray) (n N : Nat) (w : World) (h : MarkedC N w vo m n) (hn : n ≤ 1000) :
    Calls Try.prog 25 #[vo, .string m] w fun e w' => e = .returned (.bool true) ∧ w.grownBy w' none := by
  obtain ⟨g, cap, ss, rfl, hg, hl, hc⟩ := h
  have HC : Hid _ := hc
  clear hc
  go_enter Try.func25, Try.ntmps25
  go_wp2
  go_loop [5] (fun i => ∃ k : Nat, k ≤ 4 ∧ i = .int .i64 k) (fun i => 4 - (intOf i).toNat)
  case atStart => exact ⟨0, by omega, rfl⟩
  case round =>
    obtain ⟨k, hk, rfl⟩ := hrel
    by_cases hlt : k < 4
    · obtain ⟨q, hold⟩ := HC.out k (by omega)
      obtain ⟨a, c, hs⟩ := hold.slice
      rw [List.length_replicate] at hs
      rw [hs] at q hold
      have HO : Hid _ := hold
      clear hold hs
      go_wp2
      go_loop [6] (fun i => ∃ j : Nat, j ≤ n + k ∧ i = .int .i64 j) (fun i => n + k - (intOf i).toNat)
      case atStart => exact ⟨0, by omega, rfl⟩
      case round =>
        obtain ⟨j, hj, rfl⟩ := hrel
        by_cases hjt : j < n + k
        · obtain ⟨b, rfl, o0, o1⟩ : ∃ b, a = some ⟨b, 0, none⟩ ∧ w.cell? ⟨b, j * 2, none⟩ = some (.bool false) ∧ w.cell? ⟨b, j * 2 + 1, none⟩ = some (.string m) := by
            rcases HO.out with ⟨h0, _⟩ | ⟨b, cap', e, _, hcs⟩
            · have := congrArg List.length h0
              simp at this
              omega
            · simp only [Value.slice.injEq] at e
              obtain ⟨h0, h1⟩ := hcs j (by simpa using hjt)
              simp only [List.getElem_replicate] at h0 h1
              exact ⟨b, e.1, h0, h1⟩
          go_wp2
          go_round
          case rel => exact ⟨j + 1, by omega, by go_num⟩
          case measure => simp [intOf]; omega
        · go_wp2
          go_round
          case rel => exact ⟨k + 1, by omega, by go_num⟩
          case measure => simp [intOf]; omega
    · go_wp2
      go_ret
      exact ⟨rfl, drew_grown w 0 none⟩
end Go.Proofs.Ytdjmhagclcfnfaa
