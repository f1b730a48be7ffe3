/- The program's write. -/
import Derived.Test.YtkmeingnhaomaaaPWell2
import Derived.Test.YtkmeingnhaomaaaPRec
namespace Go.Proofs.Ytkmeingnhaomaaa
open Go.RowKit Go.Shelf

attribute [local go_sem] Oper.semAt_some

/-- 'string(b)' of bytes of one's own. -/
theorem conv_own {B : Nat} {w : World} {v : Value} {l : List UInt8} (h : OwnsB B w v l) : (convert 72 9 v).run Try.prog w = .ok (.string ⟨l.toArray⟩) w := by
  have h0 : w.ownsRow B 5 1 v l.length (byteVals l) := h
  rcases h0.2 with ⟨rfl, hn⟩ | ⟨g, cap, cur, rfl, _⟩
  · have hl : l = [] := List.eq_nil_of_length_eq_zero hn
    subst hl
    exact run_convert_bytes_nil (P := Try.prog) w 72 5 Try.underlying72 Try.underlying5 0 0 9 Try.underlying9
  · refine run_convert_bytes_back (P := Try.prog) w 72 9 5 ⟨g, 0, none⟩ cap l Try.underlying72 Try.underlying5 Try.underlying9 ?_
    intro j hj
    exact h0.cells (g := g) rfl j _ (by simp [byteVals, hj])

/-- 'A box holds bytes of one's own' speaks of cells alone. -/
theorem ownIt_out {β : Type} (B' B k : Nat) (f : β → List UInt8) : OwnIt none B' (fun s W => ∃ v, W.heap[k]? = some (.cells #[v] 72 (0, 0)) ∧ OwnsB B W v (f s)) := by
  rintro s W W' row ⟨v, hv, ho⟩ hg hr
  refine ⟨v, ownIt_block B' k (fun _ : Unit => .cells #[v] 72 (0, 0)) (fun _ => rfl) () W W' row hv hg hr, ?_⟩
  refine World.ownsRow.kept ho hg ?_
  rcases ho.2 with ⟨rfl, _⟩ | ⟨g, cap, cur, rfl, _, hgb, _⟩
  · exact .inl rfl
  · refine .inr fun e => ?_
    rcases hr g (by simpa [Value.ownBlock] using e.symm) with e2 | ⟨_, o, ho', hc⟩
    · cases e2
    · rw [hgb] at ho'; cases ho'; cases hc

theorem OwnsB.form {B : Nat} {w : World} {v : Value} {l : List UInt8} (h : OwnsB B w v l) (hl : 0 < l.length) : ∃ g n cap, v = .slice (some ⟨g, 0, none⟩) n cap := by
  obtain ⟨g, cap, e, _⟩ := World.ownsRow.form h hl
  exact ⟨g, _, cap, e⟩
theorem recB_pos (r : Rc) : 0 < (recB r).length := by unfold recB; split <;> simp

/-- Behind 'out = append(out, ..)': the box, what it holds, what is kept. -/
theorem out_stored {W W1 : World} {B k : Nat} {v v' : Value} {l l' : List UInt8} (hv : W.heap[k]? = some (.cells #[v] 72 (0, 0))) (ho : OwnsB B W v l) (ho' : OwnsB B W1 v' l') (hg : Grew W W1 v v') (hB : B ≤ W.heap.size) (hk : B ≤ k) :
    W1.heap[k]? = some (.cells #[v] 72 (0, 0)) ∧ (W1.setCell ⟨k, 0, none⟩ v').heap[k]? = some (.cells #[v'] 72 (0, 0)) ∧ OwnsB B (W1.setCell ⟨k, 0, none⟩ v') v' l' ∧ KeepsOthers W (W1.setCell ⟨k, 0, none⟩ v') ∧ Below B W (W1.setCell ⟨k, 0, none⟩ v') := by
  have hv0 : Boxed W k 72 v := hv
  have h1 : Boxed W1 k 72 v := (hg.by_.block k hv0.lt (hv0.not_row (by decide) ho)).trans hv
  refine ⟨h1, Boxed.set v' h1, World.ownsRow.kept ho' (grownBy_setCell' W1 k v') (.inr (h1.not_row (by decide) ho').symm), ?_, ?_⟩
  · refine (KeepsOthers.of_grownBy hg.by_ fun j o ej hj => ?_).trans (KeepsOthers.setCell _ _ _)
    rcases ho.2 with ⟨rfl, _⟩ | ⟨g, cap, cur, rfl, _, hgb, _⟩
    · simp [Value.ownBlock] at ej
    · obtain rfl : g = j := by simpa [Value.ownBlock] using ej
      rw [hgb] at hj; cases hj; rfl
  · exact (hg.below ho.base hB).setCell (p := ⟨k, 0, none⟩) hk v'

theorem OwnsB.not_deferred {B : Nat} {w : World} {v : Value} {l : List UInt8} (h : OwnsB B w v l) {D : Nat} {ds : Option (List Deferred)} (hK : w.heap[D]? = some (.deferred ds)) : some D ≠ v.ownBlock := by
  rcases h.2 with ⟨rfl, _⟩ | ⟨g', cap, cur, rfl, hb, hg, _⟩
  · simp [Value.ownBlock]
  · intro e
    obtain rfl : D = g' := by simpa [Value.ownBlock] using e
    rw [hg] at hK; cases hK

/-- What is known of the next record of a list that is right. -/
theorem recsOk_next (b z : Int) (rs : List Rc) (ho : recsOk b z (-1) rs = true) (pre : List Rc) (x : Rc) (hG : pre ++ [x] <+: rs) :
    0 ≤ x.block ∧ x.block < b ∧ ((x.data.size : Int) = if x.free then 0 else z) ∧ recsOk b z (-1) pre = true := by
  obtain ⟨suf, rfl⟩ := hG
  have h := recsOk_at b z _ (-1) ho pre.length (by simp)
  simp only [List.append_assoc, List.getElem_append_right (Nat.le_refl _), Nat.sub_self] at h
  simp only [List.cons_append, List.nil_append, List.getElem_cons_zero] at h
  refine ⟨by omega, h.2.1, h.2.2, ?_⟩
  rw [List.append_assoc, recsOk_append, Bool.and_eq_true] at ho
  exact ho.1

/-- A record that a text can hold. -/
def RecFit (z : Int) (r : Rc) : Prop := 0 ≤ r.block ∧ r.block < 65536 ∧ (r.data.size : Int) = if r.free then 0 else z
theorem recB_fit (z : Int) (hz : z ≤ 64) (r : Rc) (h : RecFit z r) : (recB r).length ≤ 67 := by
  obtain ⟨h0, h1, h2⟩ := h
  unfold recB
  cases hf : r.free with
  | true => simp [lowB_length]
  | false =>
    rw [hf] at h2
    have hs : r.data.data.toList.length = r.data.size := rfl
    simp only [Bool.false_eq_true, if_false, List.length_cons, List.length_append, lowB_length, hs] at h2 ⊢
    omega
theorem recsB_fit (z : Int) (hz : z ≤ 64) (rs : List Rc) (h : ∀ r ∈ rs, RecFit z r) : (recsB rs).length ≤ 67 * rs.length := by
  induction rs with
  | nil => simp [recsB]
  | cons r rs ih =>
    have e : recsB (r :: rs) = recB r ++ recsB rs := by simp [recsB]
    rw [e, List.length_append, List.length_cons]
    have := recB_fit z hz r (h r (by simp))
    have := ih (fun x hx => h x (by simp [hx]))
    omega
theorem recsOk_fit (b z last : Int) (rs : List Rc) (hb : b ≤ 100) (hl : -1 ≤ last) (ho : recsOk b z last rs = true) : ∀ r ∈ rs, RecFit z r := by
  intro r hr
  obtain ⟨k, hk, rfl⟩ := List.mem_iff_getElem.1 hr
  have h := recsOk_at b z rs last ho k hk
  exact ⟨by omega, by omega, h.2.2⟩
/-- Bytes, and their check behind them. -/
def shutB (L : List UInt8) : List UInt8 := L ++ lowB (crc L) 4

set_option maxRecDepth 100000 in
set_option maxHeartbeats 2000000 in
theorem closed_any (B z : Nat) (L0 : List UInt8) (v sv : Value) (rs : List Rc) (Bs : Nat) (w : World) (hB : B ≤ w.heap.size) (hR : Recs B w sv rs) (hBs : w.cell? ⟨Bs, 0, none⟩ = some sv) (hBl : Bs < w.heap.size) (hv : OwnsB B w v L0) (hL1 : 0 < L0.length) (hL0 : L0.length ≤ 1000) (h9 : (z : Int) ≤ 64) (hn : rs.length ≤ 100) (ho : ∀ r ∈ rs, RecFit z r) :
    Calls Try.prog 88 #[v, .func (.func 92) #[] #[.pointer (some ⟨Bs, 0, none⟩)]] w fun e w' => e = .returned (.string ⟨(shutB (L0 ++ recsB rs)).toArray⟩) ∧ Below B w w' := by
  obtain ⟨a, c, rfl⟩ := hR.slice
  obtain ⟨g0, n0, cap0, rfl⟩ := hv.form (by omega)
  refine (callsIn_wide (n := 9)).1 ?_
  refine callsIn_of_wp_marks Try.func88 rfl trivial ?_ rfl
  simp only [Try.ntmps88, List.size_toArray, List.length_cons, List.length_nil, Nat.reduceAdd, Nat.reduceSub, Array.replicate_succ, Array.replicate_zero, List.push_toArray, List.append_toArray, List.nil_append, List.cons_append]
  gi_wp2_with fail
  have hB3 : Below B w (w.alloc (.cells #[.slice (some ⟨g0, 0, none⟩) n0 cap0] 72)) := (Below.refl _ _).alloc hB _
  have hA3 : Below w.heap.size w (w.alloc (.cells #[.slice (some ⟨g0, 0, none⟩) n0 cap0] 72)) := (Below.refl _ _).alloc (Nat.le_refl _) _
  have hO3 : (w.alloc (.cells #[.slice (some ⟨g0, 0, none⟩) n0 cap0] 72)).heap[w.heap.size]? = some (.cells #[.slice (some ⟨g0, 0, none⟩) n0 cap0] 72 (0, 0)) := World.alloc_heap_new _ _
  have hown3 := OwnsB.alloc hv (Obj.cells #[.slice (some ⟨g0, 0, none⟩) n0 cap0] 72)
  have hs3 : (w.alloc (.cells #[.slice (some ⟨g0, 0, none⟩) n0 cap0] 72)).heap.size = w.heap.size + 1 := by simp
  generalize w.alloc (.cells #[.slice (some ⟨g0, 0, none⟩) n0 cap0] 72) = W3 at *
  have hKW : ∀ k, (rs ≠ [] ∧ ∃ off, a = some ⟨k, off, none⟩) → k < B := fun k ⟨hne, off, e⟩ => hR.block_lt hne e
  have hRW : Recs W3.heap.size W3 (.slice a rs.length c) rs := by
    rcases hR with h | ⟨b, off, cap, e, hlt, hc⟩
    · exact .inl h
    · exact .inr ⟨b, off, cap, e, by omega, fun j hj => ⟨(hA3.cell (p := ⟨b, _, none⟩) (by show b < _; omega)).trans (hc j hj).1, (hA3.cell (p := ⟨b, _, none⟩) (by show b < _; omega)).trans (hc j hj).2.1, (hA3.cell (p := ⟨b, _, none⟩) (by show b < _; omega)).trans (hc j hj).2.2⟩⟩
  refine range_law (n := 9) rfl (by decide) (gf := 92) (lb := #[.pointer (some ⟨Bs, 0, none⟩)]) rfl trivial (enters_of Try.func92 (by kernel_rfl) rfl)
    (values_seq 8 (by decide) Bs (.slice a rs.length c) rs (by omega) W3 (by omega) ((hA3.cell (p := ⟨Bs, 0, none⟩) hBl).trans hBs) hRW (fun k => rs ≠ [] ∧ ∃ off, a = some ⟨k, off, none⟩) (fun k hk => by have := hKW k hk; omega) (fun hne b off l cap e => by simp only [Value.slice.injEq] at e; exact ⟨hne, off, e.1⟩))
    (Below.refl _ _) (fun k hk => by have := hKW k hk; omega) (fun b e => by cases e) (fun _ => rfl)
    (fun pre W => (∃ v, W.heap[w.heap.size]? = some (.cells #[v] 72 (0, 0)) ∧ OwnsB B W v (L0 ++ recsB pre)) ∧ Below B w W)
    (fun _ _ _ => False)
    (OwnIt.and (ownIt_out _ _ _ (fun pre => L0 ++ recsB pre)) (ownIt_below hB (by omega)))
    (fun cd => OwnIt.pure _ _ _)
    ⟨⟨_, hO3, by simpa [recsB] using hown3⟩, hB3⟩
    (fun (x : Rc) (a' : Act) (W : World) => ∃ Bx : Nat, W.heap[Bx]? = some (.cells #[.bool x.free, .int .i64 x.block, .string x.data] 34 (0, 0)) ∧ a' = { tmps := #[.slice (some ⟨g0, 0, none⟩) n0 cap0, .func (.func 92) #[] #[.pointer (some ⟨Bs, 0, none⟩)], .pointer (some ⟨w.heap.size, 0, none⟩), undef, .string ⟨#[]⟩, .pointer (some ⟨Bx, 0, none⟩), .func (.func 92) #[] #[.pointer (some ⟨Bs, 0, none⟩)], .agg #[.bool x.free, .int .i64 x.block, .string x.data], undef, undef, undef, undef, undef, undef, undef, undef, undef], defers := [] })
    (fun x a' => ownIt_some _ fun Bx => OwnIt.and (ownIt_block _ _ (fun _ => _) (fun _ => rfl)) (OwnIt.pure _ _ _))
    ?assign ?body ?done ?stop ?panic
  case assign =>
    rintro l pre x W K ⟨⟨v, h1, h2⟩, h5⟩ hK
    have lt := fun {k : Nat} {o : Obj} (e : W.heap[k]? = some o) => (Array.getElem?_eq_some_iff.1 e).1
    gi_wp2
    refine hK _ _ ((KeepsOthers.alloc _ _).from _) ?_ ⟨⟨v, (Below.heap_alloc _ _ _ (lt h1)).trans h1, h2.alloc _⟩, h5.alloc (by have := h5.size; omega) _⟩ ⟨W.heap.size, World.alloc_heap_new _ _, rfl⟩
    exact (KeptOn.refl _ _).alloc (fun k hk => by have := hKW k hk; have := h5.size; omega) _
  case body =>
    rintro l pre x a' W ⟨⟨v, h1, h2⟩, h5⟩ ⟨Bx, hx, rfl⟩ hG
    obtain ⟨e1, e2, e3⟩ := ho x (hG.subset (by simp))
    have e4 : ∀ r ∈ pre, RecFit z r := fun r hr => ho r (hG.subset (by simp [hr]))
    have r0 := boxed_cell (i := 0) hx rfl
    have r1 := boxed_cell (i := 1) hx rfl
    have r2 := boxed_cell (i := 2) hx rfl
    have o0 := boxed_cell (i := 0) h1 rfl
    have HS : Hid (L0 ++ recsB (pre ++ [x]) = (L0 ++ recsB pre) ++ recB x) := by
      show _ = _
      rw [recsB_snoc, List.append_assoc]
    have hll : (L0 ++ recsB pre).length ≤ 90000 := by
      rw [List.length_append]
      have := recsB_fit z h9 pre e4
      have hpl := hG.length_le
      rw [List.length_append] at hpl
      omega
    gi_wp2_with fail
    refine ⟨trivial, (CallsIn.inRound l (callsIn_wide.2 (appRec_any B v _ x _ z h9 (by omega) (by omega) e3 hll (by have := h5.size; omega) h2))).mono ?_⟩
    rintro e W1 ⟨v', rfl, ho', hg'⟩
    obtain ⟨k1, k2, k3, k4, k5⟩ := out_stored h1 h2 ho' hg' (by have := h5.size; omega) (by omega)
    rw [← HS.out] at k3
    obtain ⟨g', n', cap', rfl⟩ := ho'.form (by have := recB_pos x; rw [List.length_append]; omega)
    have p0 := boxed_cell (i := 0) k1 rfl
    have pf := boxed_frozen (i := 0) k1
    have hfin := fun a0 : Act => show roundEnd W3.heap.size (fun k => rs ≠ [] ∧ ∃ off, a = some ⟨k, off, none⟩) (fun pre W => (∃ v, W.heap[w.heap.size]? = some (.cells #[v] 72 (0, 0)) ∧ OwnsB B W v (L0 ++ recsB pre)) ∧ Below B w W) (fun _ _ _ => False) (pre ++ [x]) W .normal a0 _ from
      ⟨k4.from _, KeptOn.of_below k5 hKW, ⟨_, k2, k3⟩, h5.trans k5⟩
    have HF : Hid _ := hfin
    clear hfin hx h1 h2 k1 k2 k3 k4 k5 ho' hg' r0 r1 r2 o0
    gi_wp2
    exact HF.out _
  case done =>
    rintro D ys W hD rfl ⟨⟨v, h1, h2⟩, h5⟩ hK
    have o0 := boxed_cell (i := 0) h1 rfl
    have hll : (L0 ++ recsB ys).length ≤ 90000 := by
      rw [List.length_append]
      have := recsB_fit z h9 ys ho
      omega
    obtain ⟨g1, n1, cap1, rfl⟩ := h2.form (by rw [List.length_append]; omega)
    have hcr := crc_lt (L0 ++ recsB ys)
    obtain ⟨L, hLe⟩ : ∃ L, L = L0 ++ recsB ys := ⟨_, rfl⟩
    have HA2 : Hid (shutB (L0 ++ recsB ys) = L ++ lowB (crc L) 4) := by rw [← hLe]; rfl
    rw [← hLe] at h2 hll hcr
    clear hLe
    have hcv := conv_own h2.drew
    gi_wp2
    refine wpIn_wide.2 (wp_region_noPanic ?_)
    dsimp only [marked]
    go_region_with (first | (go_at_call 118; refine (pcheck_any _ _ ?_).mono ?_; exact (show L.length ≤ 100000 by omega); rintro e w' ⟨rfl, rfl⟩) | (go_at_call 117; refine (num_int B _ _ _ _ _ ?_ ?_ ?_ ?_ ?_ ?_ h2.drew).mono ?_; omega; omega; omega; omega; omega; (have := h5.size; exact Nat.le_trans hB this); rintro e w4 ⟨v4, rfl, ho4, hg4⟩; have hcv4 := conv_own ho4))
    all_goals
      refine NoPanic.normal ?_
      gi_wp2
      have hK4 : w4.heap[D]? = some (.deferred (some [])) := (hg4.by_.block D (Array.getElem?_eq_some_iff.1 hK).1 (h2.not_deferred hK)).trans hK
      refine ⟨by simp, .inl ⟨_, _, rfl, run_takeDeferred hK4, ?_⟩⟩
      refine ⟨_, results_tmp rfl _ _ _, by rw [HA2.out]; rfl, ?_⟩
      exact (h5.trans (hg4.ofDrew.below h2.base (Nat.le_trans hB h5.size))).trans (belowK_b (w := w) hB _ D _ _ (by omega) hK4 rfl rfl)
  case stop =>
    rintro D cd pre W _ _ h
    exact h.elim
  case panic =>
    rintro D ch xs W _ hp
    exact hp.elim
end Go.Proofs.Ytkmeingnhaomaaa
