/- The program's write. -/
import Derived.Test.YtpopjmkipddpgaaPWell2
import Derived.Test.YtpopjmkipddpgaaPRec
namespace Go.Proofs.Ytpopjmkipddpgaa
open Go.RowKit Go.Shelf

attribute [local go_sem] Oper.semAt_some

/-- 'string(b)' of bytes of one's own. -/
theorem conv_own {B : Nat} {w : World} {v : Value} {l : List UInt8} (h : OwnsB B w v l) : (convert 60 9 v).run Try.prog w = .ok (.string ⟨l.toArray⟩) w := by
  have h0 : w.ownsRow B 5 1 v l.length (byteVals l) := h
  rcases h0.2 with ⟨rfl, hn⟩ | ⟨g, cap, cur, rfl, _⟩
  · have hl : l = [] := List.eq_nil_of_length_eq_zero hn
    subst hl
    exact run_convert_bytes_nil (P := Try.prog) w 60 5 Try.underlying60 Try.underlying5 0 0 9 Try.underlying9
  · refine run_convert_bytes_back (P := Try.prog) w 60 9 5 ⟨g, 0, none⟩ cap l Try.underlying60 Try.underlying5 Try.underlying9 ?_
    intro j hj
    exact h0.cells (g := g) rfl j _ (by simp [byteVals, hj])

/-- 'A box holds bytes of one's own' speaks of cells alone. -/
theorem ownIt_out {β : Type} (B' B k : Nat) (f : β → List UInt8) : OwnIt none B' (fun s W => ∃ v, W.heap[k]? = some (.cells #[v] 60 (0, 0)) ∧ OwnsB B W v (f s)) := by
  rintro s W W' row ⟨v, hv, ho⟩ hg hr
  refine ⟨v, ownIt_block B' k (fun _ : Unit => .cells #[v] 60 (0, 0)) (fun _ => rfl) () W W' row hv hg hr, ?_⟩
  refine World.ownsRow.kept ho hg ?_
  rcases ho.2 with ⟨rfl, _⟩ | ⟨g, cap, cur, rfl, _, hgb, _⟩
  · exact .inl rfl
  · refine .inr fun e => ?_
    rcases hr g (by simpa [Value.ownBlock] using e.symm) with e2 | ⟨_, o, ho', hc⟩
    · cases e2
    · rw [hgb] at ho'; cases ho'; cases hc

theorem OwnsB.form {B : Nat} {w : World} {v : Value} {l : List UInt8} (h : OwnsB B w v l) (hl : 0 < l.length) : ∃ g n cap, v = .slice (some ⟨g, 0, none⟩) n cap := by
  obtain ⟨g, cap, e, _⟩ := World.ownsRow.form h hl
  exact ⟨g, _, cap, e⟩
theorem recB_pos (r : Rc) : 0 < (recB r).length := by unfold recB; split <;> simp

/-- Behind 'out = append(out, ..)': the box, what it holds, what is kept. -/
theorem out_stored {W W1 : World} {B k : Nat} {v v' : Value} {l l' : List UInt8} (hv : W.heap[k]? = some (.cells #[v] 60 (0, 0))) (ho : OwnsB B W v l) (ho' : OwnsB B W1 v' l') (hg : Grew W W1 v v') (hB : B ≤ W.heap.size) (hk : B ≤ k) :
    W1.heap[k]? = some (.cells #[v] 60 (0, 0)) ∧ (W1.setCell ⟨k, 0, none⟩ v').heap[k]? = some (.cells #[v'] 60 (0, 0)) ∧ OwnsB B (W1.setCell ⟨k, 0, none⟩ v') v' l' ∧ KeepsOthers W (W1.setCell ⟨k, 0, none⟩ v') ∧ Below B W (W1.setCell ⟨k, 0, none⟩ v') := by
  have hv0 : Boxed W k 60 v := hv
  have h1 : Boxed W1 k 60 v := (hg.by_.block k hv0.lt (hv0.not_row (by decide) ho)).trans hv
  refine ⟨h1, Boxed.set v' h1, World.ownsRow.kept ho' (grownBy_setCell' W1 k v') (.inr (h1.not_row (by decide) ho').symm), ?_, ?_⟩
  · refine (KeepsOthers.of_grownBy hg.by_ fun j o ej hj => ?_).trans (KeepsOthers.setCell _ _ _)
    rcases ho.2 with ⟨rfl, _⟩ | ⟨g, cap, cur, rfl, _, hgb, _⟩
    · simp [Value.ownBlock] at ej
    · obtain rfl : g = j := by simpa [Value.ownBlock] using ej
      rw [hgb] at hj; cases hj; rfl
  · exact (hg.below ho.base hB).setCell (p := ⟨k, 0, none⟩) hk v'

theorem OwnsB.not_deferred {B : Nat} {w : World} {v : Value} {l : List UInt8} (h : OwnsB B w v l) {D : Nat} {ds : Option (List Deferred)} (hK : w.heap[D]? = some (.deferred ds)) : some D ≠ v.ownBlock := by
  rcases h.2 with ⟨rfl, _⟩ | ⟨g', cap, cur, rfl, hb, hg, _⟩
  · simp [Value.ownBlock]
  · intro e
    obtain rfl : D = g' := by simpa [Value.ownBlock] using e
    rw [hg] at hK; cases hK

/-- What is known of the next record of a list that is right. -/
theorem recsOk_next (b z : Int) (rs : List Rc) (ho : recsOk b z (-1) rs = true) (pre : List Rc) (x : Rc) (hG : pre ++ [x] <+: rs) :
    0 ≤ x.block ∧ x.block < b ∧ ((x.data.size : Int) = if x.free then 0 else z) ∧ recsOk b z (-1) pre = true := by
  obtain ⟨suf, rfl⟩ := hG
  have h := recsOk_at b z _ (-1) ho pre.length (by simp)
  simp only [List.append_assoc, List.getElem_append_right (Nat.le_refl _), Nat.sub_self] at h
  simp only [List.cons_append, List.nil_append, List.getElem_cons_zero] at h
  refine ⟨by omega, h.2.1, h.2.2, ?_⟩
  rw [List.append_assoc, recsOk_append, Bool.and_eq_true] at ho
  exact ho.1

set_option maxRecDepth 100000 in
set_option maxHeartbeats 2000000 in
theorem write_any (f t b z : Nat) (sv : Value) (rs : List Rc) (Bs : Nat) (w : World) (hR : Recs w.heap.size w sv rs) (hBs : w.cell? ⟨Bs, 0, none⟩ = some sv) (hBl : Bs < w.heap.size) (hw : wellHead f t b z = true) (ho : recsOk b z (-1) rs = true) :
    Calls Try.prog 38 #[.agg #[.int .i64 f, .int .i64 t, .int .i64 b, .int .i64 z, .int .i64 rs.length], .func (.func 68) #[] #[.pointer (some ⟨Bs, 0, none⟩)]] w fun e w' => e = .returned (.string ⟨(serB f t b z rs).toArray⟩) ∧ Below w.heap.size w w' := by
  obtain ⟨h1, h2, h3, h4, h5, h6, h7, h8, h9⟩ : (0 : Int) ≤ f ∧ (f : Int) ≤ 2147483647 ∧ (1 : Int) ≤ t ∧ (t : Int) ≤ 2147483647 ∧ (f : Int) ≠ t ∧ (1 : Int) ≤ b ∧ (b : Int) ≤ 100 ∧ (1 : Int) ≤ z ∧ (z : Int) ≤ 64 := of_decide_eq_true hw
  have hn : rs.length ≤ 100 := by have := recsOk_length b z rs ho (by omega); omega
  obtain ⟨a, c, rfl⟩ := hR.slice
  refine (callsIn_wide (n := 9)).1 ?_
  refine callsIn_of_wp_marks Try.func38 rfl trivial ?_ rfl
  simp only [Try.ntmps38, List.size_toArray, List.length_cons, List.length_nil, Nat.reduceAdd, Nat.reduceSub, Array.replicate_succ, Array.replicate_zero, List.push_toArray, List.append_toArray, List.nil_append, List.cons_append]
  gi_wp2_with fail
  refine ⟨trivial, (callsIn_wide.2 (appHead_any w.heap.size _ [] f t b z rs.length _ (by omega) (by omega) (by omega) (by omega) (by omega) (by simp) (by simp) (World.ownsRow_nil _ _ _ _))).mono ?_⟩
  rintro e w1 ⟨v0, rfl, ho0, hg0⟩
  rw [List.nil_append] at ho0
  have hL0 : ([83, 84, 82, 68] ++ headB f t b z rs.length).length = 18 := by simp [headB_length]
  have HA : Hid (aheadB f t b z rs = ([83, 84, 82, 68] ++ headB f t b z rs.length) ++ recsB rs) := rfl
  generalize [83, 84, 82, 68] ++ headB f t b z rs.length = L0 at *
  obtain ⟨g0, n0, cap0, rfl⟩ := ho0.form (by omega)
  have hB1 : Below w.heap.size w w1 := ((Below.refl _ _).alloc (Nat.le_refl _) _).trans (hg0.below (fun g e => by simp [Value.ownBlock] at e) (by simp))
  have hs1 : w.heap.size + 1 ≤ w1.heap.size := by have := hg0.by_.size; simp at this; omega
  gi_wp2_with fail
  have hB3 : Below w.heap.size w (w1.alloc (.cells #[.slice (some ⟨g0, 0, none⟩) n0 cap0] 60)) := hB1.alloc (by omega) _
  have hO3 : (w1.alloc (.cells #[.slice (some ⟨g0, 0, none⟩) n0 cap0] 60)).heap[w1.heap.size]? = some (.cells #[.slice (some ⟨g0, 0, none⟩) n0 cap0] 60 (0, 0)) := World.alloc_heap_new _ _
  have hown3 := ho0.alloc (.cells #[.slice (some ⟨g0, 0, none⟩) n0 cap0] 60)
  have hs3 : (w1.alloc (.cells #[.slice (some ⟨g0, 0, none⟩) n0 cap0] 60)).heap.size = w1.heap.size + 1 := by simp
  generalize w1.alloc (.cells #[.slice (some ⟨g0, 0, none⟩) n0 cap0] 60) = W3 at *
  clear ho0 hg0 hB1
  have hKW : ∀ k, (rs ≠ [] ∧ ∃ off, a = some ⟨k, off, none⟩) → k < w.heap.size := fun k ⟨hne, off, e⟩ => hR.block_lt hne e
  refine range_law (n := 9) rfl (by decide) (gf := 68) (lb := #[.pointer (some ⟨Bs, 0, none⟩)]) rfl trivial (enters_of Try.func68 (by kernel_rfl) rfl)
    (values_seq 8 (by decide) Bs (.slice a rs.length c) rs (by omega) W3 (Nat.lt_of_lt_of_le hBl hB3.size) ((hB3.cell (p := ⟨Bs, 0, none⟩) hBl).trans hBs) (hR.moved hB3) (fun k => rs ≠ [] ∧ ∃ off, a = some ⟨k, off, none⟩) (fun k hk => Nat.lt_of_lt_of_le (hKW k hk) hB3.size) (fun hne b off l cap e => by simp only [Value.slice.injEq] at e; exact ⟨hne, off, e.1⟩))
    (Below.refl _ _) (fun k hk => Nat.lt_of_lt_of_le (hKW k hk) hB3.size) (fun b e => by cases e) (fun _ => rfl)
    (fun pre W => (∃ v, W.heap[w1.heap.size]? = some (.cells #[v] 60 (0, 0)) ∧ OwnsB w.heap.size W v (L0 ++ recsB pre)) ∧ Below w.heap.size w W)
    (fun _ _ _ => False)
    (OwnIt.and (ownIt_out _ _ _ (fun pre => L0 ++ recsB pre)) (ownIt_below (Nat.le_refl _) (by omega)))
    (fun cd => OwnIt.pure _ _ _)
    ⟨⟨_, hO3, by simpa [recsB] using hown3⟩, hB3⟩
    (fun x a' W => ∃ Bx, W.heap[Bx]? = some (.cells #[.bool x.free, .int .i64 x.block, .string x.data] 34 (0, 0)) ∧ a' = { tmps := #[(.agg #[.int .i64 f, .int .i64 t, .int .i64 b, .int .i64 z, .int .i64 rs.length]), .func (.func 68) #[] #[.pointer (some ⟨Bs, 0, none⟩)], .pointer (some ⟨w.heap.size, 0, none⟩), undef, .string ⟨#[]⟩, .pointer (some ⟨w1.heap.size, 0, none⟩), .pointer (some ⟨Bx, 0, none⟩), (.agg #[.int .i64 f, .int .i64 t, .int .i64 b, .int .i64 z, .int .i64 rs.length]), .slice (some ⟨g0, 0, none⟩) n0 cap0, .func (.func 68) #[] #[.pointer (some ⟨Bs, 0, none⟩)], .agg #[.bool x.free, .int .i64 x.block, .string x.data], undef, undef, undef, undef, undef, undef, undef, undef, undef], defers := [] })
    (fun x a' => ownIt_some _ fun Bx => OwnIt.and (ownIt_block _ _ (fun _ => _) (fun _ => rfl)) (OwnIt.pure _ _ _))
    ?assign ?body ?done ?stop ?panic
  case assign =>
    rintro l pre x W K ⟨⟨v, h1, h2⟩, h5⟩ hK
    have lt := fun {k : Nat} {o : Obj} (e : W.heap[k]? = some o) => (Array.getElem?_eq_some_iff.1 e).1
    gi_wp2
    refine hK _ _ ((KeepsOthers.alloc _ _).from _) ?_ ⟨⟨v, (Below.heap_alloc _ _ _ (lt h1)).trans h1, h2.alloc _⟩, h5.alloc h5.size _⟩ ⟨W.heap.size, World.alloc_heap_new _ _, rfl⟩
    exact (KeptOn.refl _ _).alloc (fun k hk => Nat.lt_of_lt_of_le (hKW k hk) h5.size) _
  case body =>
    rintro l pre x a' W ⟨⟨v, h1, h2⟩, h5⟩ ⟨Bx, hx, rfl⟩ hG
    obtain ⟨e1, e2, e3, e4⟩ := recsOk_next b z rs ho pre x hG
    have r0 := boxed_cell (i := 0) hx rfl
    have r1 := boxed_cell (i := 1) hx rfl
    have r2 := boxed_cell (i := 2) hx rfl
    have o0 := boxed_cell (i := 0) h1 rfl
    have HS : Hid (L0 ++ recsB (pre ++ [x]) = (L0 ++ recsB pre) ++ recB x) := by
      show _ = _
      rw [recsB_snoc, List.append_assoc]
    have hll : (L0 ++ recsB pre).length ≤ 90000 := by
      rw [List.length_append, hL0]
      have := recsB_length b z h9 pre (-1) e4
      have hpl := hG.length_le
      rw [List.length_append] at hpl
      omega
    gi_wp2_with fail
    refine ⟨trivial, (CallsIn.inRound l (callsIn_wide.2 (appRec_any w.heap.size v _ x _ z h9 (by omega) (by omega) e3 hll h5.size h2))).mono ?_⟩
    rintro e W1 ⟨v', rfl, ho', hg'⟩
    obtain ⟨k1, k2, k3, k4, k5⟩ := out_stored h1 h2 ho' hg' h5.size (by omega)
    rw [← HS.out] at k3
    obtain ⟨g', n', cap', rfl⟩ := ho'.form (by have := recB_pos x; rw [List.length_append]; omega)
    have p0 := boxed_cell (i := 0) k1 rfl
    have pf := boxed_frozen (i := 0) k1
    have hfin := fun a0 : Act => show roundEnd W3.heap.size (fun k => rs ≠ [] ∧ ∃ off, a = some ⟨k, off, none⟩) (fun pre W => (∃ v, W.heap[w1.heap.size]? = some (.cells #[v] 60 (0, 0)) ∧ OwnsB w.heap.size W v (L0 ++ recsB pre)) ∧ Below w.heap.size w W) (fun _ _ _ => False) (pre ++ [x]) W .normal a0 _ from
      ⟨k4.from _, KeptOn.of_below k5 hKW, ⟨_, k2, k3⟩, h5.trans k5⟩
    have HF : Hid _ := hfin
    clear hfin hx h1 h2 k1 k2 k3 k4 k5 ho' hg' r0 r1 r2 o0
    gi_wp2
    exact HF.out _
  case done =>
    rintro D ys W hD rfl ⟨⟨v, h1, h2⟩, h5⟩ hK
    have o0 := boxed_cell (i := 0) h1 rfl
    have HA2 : Hid (serB f t b z ys = (L0 ++ recsB ys) ++ lowB (crc (L0 ++ recsB ys)) 4) := by
      show _ = _
      unfold serB
      rw [HA.out]
    have hll : (L0 ++ recsB ys).length ≤ 90000 := by
      rw [List.length_append, hL0]
      have := recsB_length b z h9 ys (-1) ho
      omega
    obtain ⟨g1, n1, cap1, rfl⟩ := h2.form (by rw [List.length_append]; omega)
    have hcr := crc_lt (L0 ++ recsB ys)
    generalize L0 ++ recsB ys = L at *
    have hcv := conv_own h2.drew
    gi_wp2
    refine wpIn_wide.2 (wp_region_noPanic ?_)
    dsimp only [marked]
    go_region_with (first | (go_at_call 67; refine (pcheck_any _ _ ?_).mono ?_; exact (show L.length ≤ 100000 by omega); rintro e w' ⟨rfl, rfl⟩) | (go_at_call 66; refine (num_int w.heap.size _ _ _ _ _ ?_ ?_ ?_ ?_ ?_ ?_ h2.drew).mono ?_; omega; omega; omega; omega; omega; exact h5.size; rintro e w4 ⟨v4, rfl, ho4, hg4⟩; have hcv4 := conv_own ho4))
    all_goals
      refine NoPanic.normal ?_
      gi_wp2
      have hK4 : w4.heap[D]? = some (.deferred (some [])) := (hg4.by_.block D (Array.getElem?_eq_some_iff.1 hK).1 (h2.not_deferred hK)).trans hK
      refine ⟨by simp, .inl ⟨_, _, rfl, run_takeDeferred hK4, ?_⟩⟩
      refine ⟨_, results_tmp rfl _ _ _, by rw [HA2.out]; rfl, ?_⟩
      exact (h5.trans (hg4.ofDrew.below h2.base h5.size)).trans (belowK_b (w := w) (Nat.le_refl _) _ D _ _ (by omega) hK4 rfl rfl)
  case stop =>
    rintro D cd pre W _ _ h
    exact h.elim
  case panic =>
    rintro D ch xs W _ hp
    exact hp.elim
end Go.Proofs.Ytpopjmkipddpgaa
