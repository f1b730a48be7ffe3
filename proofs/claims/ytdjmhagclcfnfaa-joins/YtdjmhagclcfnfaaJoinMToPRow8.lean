/- JoinM, PSplit1, PChunkW, PPieces, PChunkR, PChunkR2, PRow8 -/
import Derived.Test.YtdjmhagclcfnfaaLExact2ToRJoinM
import Derived.Test.YtdjmhagclcfnfaaPFace
import Derived.Test.YtdjmhagclcfnfaaPWrite2
import Derived.Test.YtdjmhagclcfnfaaSplitMToLWrites3
import Derived.Shelf.RegionOpen
import Derived.Test.YtdjmhagclcfnfaaPParse
/- Join, purely: the chunks sorted by their numbers. -/
namespace Go.Proofs.Ytdjmhagclcfnfaa
open Go.RowKit Go.Shelf

theorem chunkR_nu (l : List UInt8) (c : Ck) (h : chunkR l = .inr c) : c.nu < c.many := by
  unfold chunkR at h
  split at h
  · cases h
  · split at h
    · cases h
    · rename_i hn
      split at h
      · cases h
      · split at h
        · cases h
        · simp only [Sum.inr.injEq] at h
          rw [← h]
          show num ((l.drop 18).take 2) < num ((l.drop 20).take 2)
          omega
theorem chunksOf_nu : ∀ (xs : List (List UInt8)) (cs : List Ck), chunksOf xs = .inr cs → ∀ c ∈ cs, c.nu < c.many
  | [], cs, h, c, hc => by
    simp only [chunksOf, Sum.inr.injEq] at h
    subst h
    simp at hc
  | x :: xs, cs, h, c, hc => by
    rw [chunksOf] at h
    cases hx : chunkR x with
    | inl k => rw [hx] at h; cases h
    | inr c0 =>
      rw [hx] at h
      simp only [] at h
      cases h2 : chunksOf xs with
      | inl k => rw [h2] at h; cases h
      | inr cs0 =>
        rw [h2] at h
        simp only [Sum.inr.injEq] at h
        subst h
        rcases List.mem_cons.1 hc with rfl | hc
        · exact chunkR_nu x _ hx
        · exact chunksOf_nu xs cs0 h2 c hc

/-- In ascending order and each number once: each stands at its number. -/
theorem asc_ge : ∀ (ds : List Ck) (s : Nat), ds.Pairwise (fun a b => a.nu < b.nu) → (∀ c ∈ ds, s ≤ c.nu) → ∀ (k : Nat) (c : Ck), ds[k]? = some c → s + k ≤ c.nu
  | [], _, _, _, k, c, h => by simp at h
  | d :: ds, s, hp, hs, 0, c, h => by
    simp only [List.getElem?_cons_zero, Option.some.injEq] at h
    subst h
    exact hs d (by simp)
  | d :: ds, s, hp, hs, k + 1, c, h => by
    rw [List.getElem?_cons_succ] at h
    rw [List.pairwise_cons] at hp
    have := asc_ge ds (s + 1) hp.2 (fun c hc => by have := hp.1 c hc; have := hs d (by simp); omega) k c h
    omega
theorem asc_le (ds : List Ck) (N : Nat) (hp : ds.Pairwise (fun a b => a.nu < b.nu)) (hN : ∀ c ∈ ds, c.nu < N) : ∀ (k : Nat) (c : Ck), ds[k]? = some c → c.nu + (ds.length - k) ≤ N := by
  induction ds with
  | nil => intro k c h; simp at h
  | cons d ds ih =>
    rw [List.pairwise_cons] at hp
    intro k c h
    cases k with
    | zero =>
      simp only [List.getElem?_cons_zero, Option.some.injEq] at h
      subst h
      cases ds with
      | nil => have := hN d (by simp); simp; omega
      | cons e es =>
        have h1 := ih hp.2 (fun c hc => hN c (by simp at hc ⊢; exact .inr hc)) 0 e rfl
        have h2 := hp.1 e (by simp)
        simp only [List.length_cons] at h1 ⊢
        omega
    | succ k =>
      rw [List.getElem?_cons_succ] at h
      have h1 := ih hp.2 (fun c hc => hN c (List.mem_cons_of_mem _ hc)) k c h
      simp only [List.length_cons]
      omega
theorem asc_at (ds : List Ck) (hp : ds.Pairwise (fun a b => a.nu < b.nu)) (hN : ∀ c ∈ ds, c.nu < ds.length) (k : Nat) (c : Ck) (h : ds[k]? = some c) : c.nu = k := by
  have h1 := asc_ge ds 0 hp (fun _ _ => Nat.zero_le _) k c h
  have h2 := asc_le ds ds.length hp hN k c h
  have h3 := (List.getElem?_eq_some_iff.1 h).1
  omega
theorem once_ne : ∀ (ds : List Ck), (∀ c ∈ ds, (ds.filter (fun x => x.nu == c.nu)).length ≤ 1) → ds.Pairwise (fun a b => a.nu ≠ b.nu)
  | [], _ => List.Pairwise.nil
  | d :: ds, h => by
    rw [List.pairwise_cons]
    refine ⟨fun e he hne => ?_, once_ne ds fun c hc => ?_⟩
    · have h1 := h d (by simp)
      rw [List.filter_cons, if_pos (by simp), List.length_cons] at h1
      have : e ∈ ds.filter (fun x => x.nu == d.nu) := List.mem_filter.2 ⟨he, by simp [hne]⟩
      have := List.length_pos_of_mem this
      omega
    · have h1 := h c (by simp [hc])
      rw [List.filter_cons] at h1
      split at h1
      · rw [List.length_cons] at h1; omega
      · exact h1
/-- Each at its number: of each number just that one. -/
theorem filter_at (ds : List Ck) (h : ∀ (k : Nat) (c : Ck), ds[k]? = some c → c.nu = k) (n : Nat) (c : Ck) (hc : ds[n]? = some c) : ds.filter (fun x => x.nu == n) = [c] := by
  obtain ⟨hn, rfl⟩ := List.getElem?_eq_some_iff.1 hc
  have e : ds = ds.take n ++ (ds[n] :: ds.drop (n + 1)) := by rw [← List.drop_eq_getElem_cons hn, List.take_append_drop]
  have h1 : (ds.take n).filter (fun x => x.nu == n) = [] := by
    rw [List.filter_eq_nil_iff]
    intro a ha
    obtain ⟨i, hi, rfl⟩ := List.mem_iff_getElem.1 ha
    rw [List.length_take] at hi
    have := h i _ (List.getElem?_eq_getElem (by omega : i < ds.length))
    rw [List.getElem_take]
    simp
    omega
  have h2 : (ds.drop (n + 1)).filter (fun x => x.nu == n) = [] := by
    rw [List.filter_eq_nil_iff]
    intro a ha
    obtain ⟨i, hi, rfl⟩ := List.mem_iff_getElem.1 ha
    rw [List.length_drop] at hi
    have := h (n + 1 + i) _ (List.getElem?_eq_getElem (by omega : n + 1 + i < ds.length))
    rw [List.getElem_drop]
    simp
    omega
  have h3 := h n _ (List.getElem?_eq_getElem hn)
  conv => lhs; rw [e]
  rw [List.filter_append, h1, List.nil_append, List.filter_cons, if_pos (by simp [h3]), h2]

/-- The sorted chunks are just those of one stream. -/
def wholeC (ds : List Ck) : Prop := ∀ (k : Nat) (c : Ck), ds[k]? = some c → (∃ a, ds[0]? = some a ∧ (c.f = a.f ∧ c.t = a.t ∧ c.b = a.b ∧ c.z = a.z ∧ c.all = a.all)) ∧ c.many = ds.length ∧ c.nu = k

theorem whole_gather {cs ds : List Ck} (hp : ds.Perm cs) (h : wholeC ds) (n : Nat) (c : Ck) (hc : ds[n]? = some c) : cs.filter (fun x => x.nu == n) = [c] := by
  have h1 := filter_at ds (fun k c hk => (h k c hk).2.2) n c hc
  have h2 := hp.filter (fun x => x.nu == n)
  rw [h1] at h2
  exact (List.perm_singleton.1 h2.symm)
theorem gather_all {cs ds : List Ck} (hp : ds.Perm cs) (h : wholeC ds) : gatherAll cs ds.length = ds.flatMap Ck.rs := by
  unfold gatherAll
  rw [List.flatMap_def, List.flatMap_def]
  congr 1
  apply List.ext_getElem
  · simp
  · intro i h1 h2
    rw [List.length_map] at h2
    rw [List.getElem_map, List.getElem_map, List.getElem_range]
    unfold gathered
    rw [whole_gather hp h i _ (List.getElem?_eq_getElem h2)]
    simp
theorem whole_ok {cs ds : List Ck} (a : Ck) (ha : a ∈ cs) (hp : ds.Perm cs) (h : wholeC ds) (hm : ∀ c, ds[0]? = some c → recsOk c.b c.z (-1) (ds.flatMap Ck.rs) = true ∧ (ds.flatMap Ck.rs).length = c.all) : joinOk a cs = true := by
  obtain ⟨i, hi, hia⟩ := List.mem_iff_getElem.1 (hp.mem_iff.2 ha)
  obtain ⟨⟨a0, h0, e1, e2, e3, e4, e5⟩, e6, e7⟩ := h i a (by rw [List.getElem?_eq_getElem hi, hia])
  have hl := hp.length_eq
  rw [joinOk_iff, e6, gather_all hp h, e3, e4, e5]
  refine ⟨hl.symm, fun c hc => ?_, fun n hn => ?_, (hm a0 h0).1, (hm a0 h0).2⟩
  · obtain ⟨j, hj, hjc⟩ := List.mem_iff_getElem.1 (hp.mem_iff.2 hc)
    obtain ⟨⟨a1, h1, d1, d2, d3, d4, d5⟩, d6, d7⟩ := h j c (by rw [List.getElem?_eq_getElem hj, hjc])
    rw [h0] at h1
    cases h1
    unfold sameHead
    exact decide_eq_true ⟨by omega, by omega, by omega, by omega, by omega, by omega⟩
  · rw [whole_gather hp h n _ (List.getElem?_eq_getElem hn)]
    rfl
theorem ok_whole {cs ds : List Ck} (a : Ck) (ha : a ∈ cs) (hp : ds.Perm cs) (hs : ds.Pairwise (fun a b => a.nu ≤ b.nu)) (hnu : ∀ c ∈ cs, c.nu < c.many) (hok : joinOk a cs = true) : wholeC ds ∧ ∃ c, ds[0]? = some c ∧ recsOk c.b c.z (-1) (ds.flatMap Ck.rs) = true ∧ (ds.flatMap Ck.rs).length = c.all := by
  obtain ⟨h1, h2, h3, h4, h5⟩ := (joinOk_iff a cs).1 hok
  have hl := hp.length_eq
  have hsame : ∀ c ∈ ds, c.f = a.f ∧ c.t = a.t ∧ c.b = a.b ∧ c.z = a.z ∧ c.all = a.all ∧ c.many = a.many := fun c hc => of_decide_eq_true (h2 c (hp.mem_iff.1 hc))
  have hlt : ∀ c ∈ ds, c.nu < ds.length := fun c hc => by
    have := hnu c (hp.mem_iff.1 hc)
    have := (hsame c hc).2.2.2.2.2
    omega
  have hne : ds.Pairwise (fun a b => a.nu ≠ b.nu) := once_ne ds fun c hc => by
    have := h3 c.nu (by have := hlt c hc; omega)
    rw [(hp.filter (fun x => x.nu == c.nu)).length_eq]
    omega
  have hasc : ds.Pairwise (fun a b => a.nu < b.nu) := (hs.and hne).imp (fun ⟨h, h'⟩ => by omega)
  have hat := asc_at ds hasc hlt
  have hpos : 0 < ds.length := by rw [hl]; exact List.length_pos_of_mem ha
  have hw : wholeC ds := fun k c hk => by
    have hc : c ∈ ds := List.mem_of_getElem? hk
    obtain ⟨c1, c2, c3, c4, c5, c6⟩ := hsame c hc
    obtain ⟨d1, d2, d3, d4, d5, d6⟩ := hsame ds[0] (List.getElem_mem hpos)
    exact ⟨⟨ds[0], List.getElem?_eq_getElem hpos, by omega, by omega, by omega, by omega, by omega⟩, by omega, hat k c hk⟩
  obtain ⟨d1, d2, d3, d4, d5, d6⟩ := hsame ds[0] (List.getElem_mem hpos)
  refine ⟨hw, ds[0], List.getElem?_eq_getElem hpos, ?_, ?_⟩
  · rw [d3, d4, ← gather_all hp hw, hl, h1]
    exact h4
  · rw [d5, ← gather_all hp hw, hl, h1]
    exact h5
theorem join_good {cs ds : List Ck} (hp : ds.Perm cs) (h : wholeC ds) (d : Ck) (hd : ds[0]? = some d) (h1 : recsOk d.b d.z (-1) (ds.flatMap Ck.rs) = true) (h2 : (ds.flatMap Ck.rs).length = d.all) : joinC (.inr cs) = .inr (d.f, d.t, d.b, d.z, ds.flatMap Ck.rs) := by
  have hpos : 0 < ds.length := (List.getElem?_eq_some_iff.1 hd).1
  cases cs with
  | nil => have := hp.length_eq; rw [List.length_nil] at this; omega
  | cons a cs =>
    have hok : joinOk a (a :: cs) = true := whole_ok a (by simp) hp h (fun c hc => by rw [hd] at hc; cases hc; exact ⟨h1, h2⟩)
    obtain ⟨i, hi, hia⟩ := List.mem_iff_getElem.1 (hp.mem_iff.2 (by simp : a ∈ a :: cs))
    obtain ⟨⟨a0, h0, e1, e2, e3, e4, e5⟩, e6, e7⟩ := h i a (by rw [List.getElem?_eq_getElem hi, hia])
    rw [hd] at h0
    cases h0
    show (if joinOk a (a :: cs) = true then _ else _) = _
    rw [if_pos hok, e6, gather_all hp h, e1, e2, e3, e4]
theorem join_bad {cs ds : List Ck} (hp : ds.Perm cs) (hs : ds.Pairwise (fun a b => a.nu ≤ b.nu)) (hnu : ∀ c ∈ cs, c.nu < c.many) (h1 : 1 ≤ cs.length) (h : ¬ (wholeC ds ∧ ∃ c, ds[0]? = some c ∧ recsOk c.b c.z (-1) (ds.flatMap Ck.rs) = true ∧ (ds.flatMap Ck.rs).length = c.all)) : joinC (.inr cs) = .inl 13 := by
  cases cs with
  | nil => simp at h1
  | cons a cs =>
    show (if joinOk a (a :: cs) = true then _ else _) = _
    rw [if_neg (fun hok => h (ok_whole a (by simp) hp hs hnu hok))]
end Go.Proofs.Ytdjmhagclcfnfaa
/- The program's recordBytes and longest. -/
namespace Go.Proofs.Ytdjmhagclcfnfaa
open Go.RowKit Go.Shelf

attribute [local go_sem] Oper.semAt_some

theorem lenR_fit (z : Int) (r : Rc) (h : RecFit z r) : lenR r = 3 + r.data.size := by
  obtain ⟨_, _, h2⟩ := h
  unfold lenR recB
  cases hf : r.free with
  | true =>
    rw [hf] at h2
    simp at h2
    simp [lowB_length, h2]
  | false =>
    have hs : r.data.data.toList.length = r.data.size := rfl
    simp only [Bool.false_eq_true, if_false, List.length_cons, List.length_append, lowB_length, hs]
    omega

set_option maxRecDepth 100000 in
set_option maxHeartbeats 400000 in
theorem recordBytes_any (r : Rc) (w : World) (hs : r.data.size ≤ 1000) :
    Calls Try.prog 97 #[.agg #[.bool r.free, .int .i64 r.block, .string r.data]] w fun e w' => e = .returned (.int .i64 ((3 + r.data.size : Nat) : Int)) ∧ Below w.heap.size w w' := by
  go_enter Try.func97, Try.ntmps97
  go_wp2
  go_ret
  exact ⟨by simp, (Below.refl _ _).alloc (Nat.le_refl _) _⟩

theorem fit_size (z : Int) (hz : z ≤ 64) (r : Rc) (h : RecFit z r) : r.data.size ≤ 64 := by
  have := h.2.2
  split at this <;> omega

theorem mostR_fit (z : Int) (hz : z ≤ 64) (rs : List Rc) (h : ∀ r ∈ rs, RecFit z r) : mostR rs ≤ 67 := by
  have key : ∀ (xs : List Rc) (m : Nat), (∀ r ∈ xs, lenR r ≤ 67) → m ≤ 67 → xs.foldl (fun m r => max m (lenR r)) m ≤ 67 := by
    intro xs
    induction xs with
    | nil => exact fun m _ h => h
    | cons x xs ih =>
      intro m hx hm
      have := hx x (by simp)
      exact ih (max m (lenR x)) (fun r hr => hx r (by simp [hr])) (by omega)
  refine key rs 0 (fun r hr => ?_) (by omega)
  rw [lenR_fit z r (h r hr)]
  have := fit_size z hz r (h r hr)
  omega

set_option maxRecDepth 100000 in
set_option maxHeartbeats 2000000 in
theorem longest_any (z : Nat) (sv : Value) (rs : List Rc) (Bs : Nat) (w : World) (hR : Recs w.heap.size w sv rs) (hBs : w.cell? ⟨Bs, 0, none⟩ = some sv) (hBl : Bs < w.heap.size) (h9 : (z : Int) ≤ 64) (hn : rs.length ≤ 100) (ho : ∀ r ∈ rs, RecFit z r) :
    Calls Try.prog 66 #[.func (.func 93) #[] #[.pointer (some ⟨Bs, 0, none⟩)]] w fun e w' => e = .returned (.int .i64 (mostR rs : Nat)) ∧ Below w.heap.size w w' := by
  obtain ⟨a, c, rfl⟩ := hR.slice
  refine (callsIn_wide (n := 9)).1 ?_
  refine callsIn_of_wp_marks Try.func66 rfl trivial ?_ rfl
  simp only [Try.ntmps66, List.size_toArray, List.length_cons, List.length_nil, Nat.reduceAdd, Nat.reduceSub, Array.replicate_succ, Array.replicate_zero, List.push_toArray, List.append_toArray, List.nil_append, List.cons_append]
  gi_wp2_with fail
  have hB3 : Below w.heap.size w (w.alloc (.cells #[.int .i64 0] 3)) := (Below.refl _ _).alloc (Nat.le_refl _) _
  have hO3 : (w.alloc (.cells #[.int .i64 0] 3)).heap[w.heap.size]? = some (.cells #[.int .i64 0] 3 (0, 0)) := World.alloc_heap_new _ _
  have hs3 : (w.alloc (.cells #[.int .i64 0] 3)).heap.size = w.heap.size + 1 := by simp
  generalize w.alloc (.cells #[.int .i64 0] 3) = W3 at *
  have hKW : ∀ k, (rs ≠ [] ∧ ∃ off, a = some ⟨k, off, none⟩) → k < w.heap.size := fun k ⟨hne, off, e⟩ => hR.block_lt hne e
  refine range_law (n := 9) rfl (by decide) (gf := 93) (lb := #[.pointer (some ⟨Bs, 0, none⟩)]) rfl trivial (enters_of Try.func93 (by kernel_rfl) rfl)
    (values_seq 8 (by decide) Bs (.slice a rs.length c) rs (by omega) W3 (by omega) ((hB3.cell (p := ⟨Bs, 0, none⟩) hBl).trans hBs) (hR.moved hB3) (fun k => rs ≠ [] ∧ ∃ off, a = some ⟨k, off, none⟩) (fun k hk => by have := hKW k hk; omega) (fun hne b off l cap e => by simp only [Value.slice.injEq] at e; exact ⟨hne, off, e.1⟩))
    (Below.refl _ _) (fun k hk => by have := hKW k hk; omega) (fun b e => by cases e) (fun _ => rfl)
    (fun pre W => W.heap[w.heap.size]? = some (.cells #[.int .i64 (mostR pre : Nat)] 3 (0, 0)) ∧ Below w.heap.size w W)
    (fun _ _ _ => False)
    (OwnIt.and (ownIt_block _ _ (fun pre => .cells #[.int .i64 (mostR pre : Nat)] 3 (0, 0)) (fun _ => rfl)) (ownIt_below (Nat.le_refl _) (by omega)))
    (fun cd => OwnIt.pure _ _ _)
    ⟨hO3, hB3⟩
    (fun (x : Rc) (a' : Act) (W : World) => ∃ Bx : Nat, W.heap[Bx]? = some (.cells #[.bool x.free, .int .i64 x.block, .string x.data] 34 (0, 0)) ∧ a' = { tmps := #[.func (.func 93) #[] #[.pointer (some ⟨Bs, 0, none⟩)], undef, .int .i64 0, .pointer (some ⟨w.heap.size, 0, none⟩), .pointer (some ⟨Bx, 0, none⟩), .func (.func 93) #[] #[.pointer (some ⟨Bs, 0, none⟩)], .agg #[.bool x.free, .int .i64 x.block, .string x.data], undef, undef, undef, undef, undef], defers := [] })
    (fun x a' => ownIt_some _ fun Bx => OwnIt.and (ownIt_block _ _ (fun _ => _) (fun _ => rfl)) (OwnIt.pure _ _ _))
    ?assign ?body ?done ?stop ?panic
  case assign =>
    rintro l pre x W K ⟨h1, h5⟩ hK
    have lt := fun {k : Nat} {o : Obj} (e : W.heap[k]? = some o) => (Array.getElem?_eq_some_iff.1 e).1
    gi_wp2
    refine hK _ _ ((KeepsOthers.alloc _ _).from _) ?_ ⟨(Below.heap_alloc _ _ _ (lt h1)).trans h1, h5.alloc h5.size _⟩ ⟨W.heap.size, World.alloc_heap_new _ _, rfl⟩
    exact (KeptOn.refl _ _).alloc (fun k hk => by have := hKW k hk; have := h5.size; omega) _
  case body =>
    rintro l pre x a' W ⟨h1, h5⟩ ⟨Bx, hx, rfl⟩ hG
    have lt := fun {k : Nat} {o : Obj} (e : W.heap[k]? = some o) => (Array.getElem?_eq_some_iff.1 e).1
    have hfx := ho x (hG.subset (by simp))
    have hpf := mostR_fit z h9 pre (fun r hr => ho r (hG.subset (by simp [hr])))
    have hlx := lenR_fit z x hfx
    have hsx := fit_size z h9 x hfx
    have HM : Hid (mostR (pre ++ [x]) = max (mostR pre) (3 + x.data.size)) := by
      show _ = _
      rw [mostR_snoc, hlx]
    have r0 := boxed_cell (i := 0) hx rfl
    have r1 := boxed_cell (i := 1) hx rfl
    have r2 := boxed_cell (i := 2) hx rfl
    have o0 := boxed_cell (i := 0) h1 rfl
    generalize mostR pre = mp at *
    have hm : Try.prog.follows .mixedOrders = true := by kernel_rfl
    have HW1 : Hid (∀ W1, Below W.drew.heap.size W.drew W1 → W1.heap[w.heap.size]? = some (.cells #[.int .i64 (mp : Nat)] 3 (0, 0)) ∧ KeepsFrom W3.heap.size W W1 ∧ Below w.heap.size w W1 ∧ Below w.heap.size W W1) := fun W1 hb0 => by
      have hb : Below W.heap.size W W1 := (Below.refl _ _).drew.trans hb0
      exact ⟨(hb.block _ (lt h1)).trans h1, ⟨hb.size, fun k o _ hk _ => (hb.block k (lt hk)).trans hk⟩, h5.trans (hb.mono h5.size), hb.mono h5.size⟩
    have hlt := lt h1
    have zf := boxed_frozen (i := 0) h1
    clear h1 hx lt
    gi_wp2_with fail
    gi_region_with_o (refine ⟨trivial, (CallsIn.inRound l (callsIn_wide.2 (recordBytes_any x _ (by omega)))).mono ?_⟩; rintro e W1 ⟨rfl, hb1⟩; obtain ⟨g1, g2, g3, g4⟩ := HW1.out W1 hb1; have o1 := boxed_cell (i := 0) g1 rfl; have z1 := boxed_frozen (i := 0) g1)
    all_goals
      refine ⟨g2.trans ((KeepsOthers.setCell _ _ _).from _), KeptOn.of_below (g4.setCell (p := ⟨w.heap.size, 0, none⟩) (by simp) _) hKW, ?_, g3.setCell (p := ⟨w.heap.size, 0, none⟩) (by simp) _⟩
      first
        | (rw [show ((mostR (pre ++ [x]) : Nat) : Int) = (if (mp : Int) < 3 + (x.data.size : Int) then 3 + (x.data.size : Int) else (mp : Int)) from by rw [HM.out]; split <;> omega]
           exact block_set (i := 0) g1 _)
        | (rw [show ((mostR (pre ++ [x]) : Nat) : Int) = max (mp : Int) (3 + (x.data.size : Int)) from by rw [HM.out]; omega]
           exact block_set (i := 0) g1 _)
  case done =>
    rintro D ys W hD rfl ⟨h1, h5⟩ hK
    have o0 := boxed_cell (i := 0) h1 rfl
    gi_wp2
    refine ⟨by simp, .inl ⟨_, _, rfl, run_takeDeferred hK, ?_⟩⟩
    exact ⟨_, results_tmp rfl _ _ _, rfl, h5.trans (belowK_b (w := w) (Nat.le_refl _) _ D _ _ (by omega) hK rfl rfl)⟩
  case stop =>
    rintro D cd pre W _ _ h
    exact h.elim
  case panic =>
    rintro D ch xs W _ hp
    exact hp.elim
end Go.Proofs.Ytdjmhagclcfnfaa
/- The program's writeChunk. -/
namespace Go.Proofs.Ytdjmhagclcfnfaa
open Go.RowKit Go.Shelf

theorem chunkB_shut (f t b z all nu many : Nat) (rs : List Rc) : chunkB f t b z all nu many rs = shutB (((([83, 84, 82, 67] ++ headB f t b z all) ++ lowB nu 2) ++ lowB many 2 ++ lowB rs.length 2) ++ recsB rs) := rfl

/-- The head of a chunk, the first k of its last numbers written. -/
def chHead (L : List UInt8) (nu many n : Nat) : Nat → List UInt8
  | 0 => L
  | 1 => L ++ lowB nu 2
  | 2 => L ++ lowB nu 2 ++ lowB many 2
  | _ => L ++ lowB nu 2 ++ lowB many 2 ++ lowB n 2

set_option maxRecDepth 100000 in
set_option maxHeartbeats 4000000 in
theorem writeChunk_any (f t b z all nu many : Nat) (sv : Value) (rs : List Rc) (w : World) (hR : Recs w.heap.size w sv rs) (hf : f < 4294967296) (ht : t < 4294967296) (hb : b < 4294967296) (h9 : (z : Int) ≤ 64) (hall : all < 4294967296) (hnu : nu < 4294967296) (hmany : many < 4294967296) (hn : rs.length ≤ 100) (ho : ∀ r ∈ rs, RecFit z r) :
    Calls Try.prog 98 #[.agg #[.int .i64 f, .int .i64 t, .int .i64 b, .int .i64 z, .int .i64 all, .int .i64 nu, .int .i64 many, sv]] w fun e w' => e = .returned (.string ⟨(chunkB f t b z all nu many rs).toArray⟩) ∧ Below w.heap.size w w' := by
  obtain ⟨a, c, rfl⟩ := hR.slice
  have hzz : z < 4294967296 := by omega
  have hlb := lowB_length
  have HW1 : ∀ W : World, W = w.alloc (.cells #[.int .i64 f, .int .i64 t, .int .i64 b, .int .i64 z, .int .i64 all, .int .i64 nu, .int .i64 many, .slice a rs.length c] 108) → W.heap.size = w.heap.size + 1 ∧ Below w.heap.size w W ∧ W.heap[w.heap.size]? = some (.cells #[.int .i64 f, .int .i64 t, .int .i64 b, .int .i64 z, .int .i64 all, .int .i64 nu, .int .i64 many, .slice a rs.length c] 108 (0, 0)) := by
    rintro W rfl
    exact ⟨by simp, (Below.refl _ _).alloc (Nat.le_refl _) _, World.alloc_heap_new _ _⟩
  have e1 : IntKind.u32.wrap (nu : Int) = nu := by rw [IntKind.wrap_u32]; omega
  have e2 : IntKind.u32.wrap (many : Int) = many := by rw [IntKind.wrap_u32]; omega
  have e3 : IntKind.u32.wrap (rs.length : Int) = rs.length := by rw [IntKind.wrap_u32]; omega
  have e1' : (nu : Int) % 4294967296 = nu := by omega
  have e2' : (many : Int) % 4294967296 = many := by omega
  have e3' : (rs.length : Int) % 4294967296 = rs.length := by omega
  go_enter Try.func98, Try.ntmps98
  go_wp2_with fail
  obtain ⟨w1, hw1⟩ : ∃ w1, w1 = w.alloc (.cells #[.int .i64 f, .int .i64 t, .int .i64 b, .int .i64 z, .int .i64 all, .int .i64 nu, .int .i64 many, .slice a rs.length c] 108) := ⟨_, rfl⟩
  obtain ⟨hs1, hB1, hx1⟩ := HW1 w1 hw1
  rw [← hw1]
  clear hw1 HW1
  have hsl : w.heap.size < w1.heap.size := by omega
  have HX : Hid (∀ W, Below w1.heap.size w1 W → W.heap[w.heap.size]? = some (.cells #[.int .i64 f, .int .i64 t, .int .i64 b, .int .i64 z, .int .i64 all, .int .i64 nu, .int .i64 many, .slice a rs.length c] 108 (0, 0))) := fun W h => (h.block _ hsl).trans hx1
  have HR : Hid (∀ W, Below w1.heap.size w1 W → Recs W.heap.size W (.slice a rs.length c) rs) := fun W h => (hR.moved hB1).moved h
  clear hR hx1
  refine (headText_any [83, 84, 82, 67] rfl f t b z all w1 hf ht hb hzz hall).mono ?_
  rintro e w2 ⟨rfl, hb2⟩
  have hl2 : ([83, 84, 82, 67] ++ headB f t b z all).length = 18 := by simp [headB_length]
  have HCH : Hid (chunkB f t b z all nu many rs = shutB (chHead ([83, 84, 82, 67] ++ headB f t b z all) nu many rs.length 3 ++ recsB rs)) := by
    show _ = _
    rw [chunkB_shut]
    simp [chHead]
  generalize [83, 84, 82, 67] ++ headB f t b z all = L2 at *
  have x2 := boxed_cell (i := 5) (HX.out _ hb2) rfl
  have x3 := boxed_cell (i := 6) (HX.out _ hb2) rfl
  have x4 := boxed_cell (i := 7) (HX.out _ hb2) rfl
  have hz2 : w.heap.size < w2.heap.size := Nat.lt_of_lt_of_le hsl hb2.size
  have HB2 : Hid (Below w1.heap.size w1 w2) := hb2
  clear hb2
  go_wp2
  obtain ⟨w3, hw3⟩ : ∃ w3, w3 = w2.alloc (.cells #[.int .i64 nu, .int .i64 many, .int .i64 rs.length] 3) := ⟨_, rfl⟩
  have hb3 : Below w1.heap.size w1 w3 := by rw [hw3]; exact HB2.out.alloc HB2.out.size _
  have hi3 : w3.heap[w2.heap.size]? = some (.cells #[.int .i64 nu, .int .i64 many, .int .i64 rs.length] 3 (0, 0)) := by rw [hw3]; exact World.alloc_heap_new _ _
  rw [← hw3]
  clear hw3 x2 x3 x4
  go_loopw [3, 18] (fun h i wr => ∃ k : Nat, k ≤ 3 ∧ i = .int .i64 k ∧ h = .string ⟨(chHead L2 nu many rs.length k).toArray⟩ ∧ wr.heap[w2.heap.size]? = some (.cells #[.int .i64 nu, .int .i64 many, .int .i64 rs.length] 3 (0, 0)) ∧ Below w1.heap.size w1 wr) (fun _ i _ => 3 - (intOf i).toNat)
  case atStart => exact ⟨0, by omega, rfl, rfl, hi3, hb3⟩
  case round =>
    obtain ⟨k, hk, rfl, rfl, hi, hbr⟩ := hrel
    have q0 := boxed_cell (i := 0) (v := .int .i64 nu) hi rfl
    have q1 := boxed_cell (i := 1) (v := .int .i64 many) hi rfl
    have q2 := boxed_cell (i := 2) (v := .int .i64 rs.length) hi rfl
    have HI : Hid _ := hi
    have HBR : Hid (Below w1.heap.size w1 wr) := hbr
    clear hi hbr hi3 hb3
    have hk4 : k = 0 ∨ k = 1 ∨ k = 2 ∨ k = 3 := by omega
    rcases hk4 with rfl | rfl | rfl | rfl
    · simp only [chHead]
      go_wp2_with (go_at_call 124; refine (ntext_int _ _ _ ?_ ?_ ?_ ?_).mono ?_; omega; omega; omega; omega; rintro e w4 ⟨rfl, hb4⟩)
      go_roundw
      case rel =>
        refine ⟨1, by omega, by go_num, ?_, (hb4.block _ (Array.getElem?_eq_some_iff.1 HI.out).1).trans HI.out, HBR.out.trans (hb4.mono HBR.out.size)⟩
        exact congrArg Value.string (by apply ByteArray.ext; simp)
      case measure => simp [intOf]
    · simp only [chHead]
      have hl3 : (L2 ++ lowB nu 2).length = 20 := by rw [List.length_append, lowB_length]; omega
      generalize hL3 : L2 ++ lowB nu 2 = L3 at *
      have HL3 : Hid _ := hL3
      clear hL3
      go_wp2_with (go_at_call 124; refine (ntext_int _ _ _ ?_ ?_ ?_ ?_).mono ?_; omega; omega; omega; omega; rintro e w4 ⟨rfl, hb4⟩)
      go_roundw
      case rel =>
        refine ⟨2, by omega, by go_num, ?_, (hb4.block _ (Array.getElem?_eq_some_iff.1 HI.out).1).trans HI.out, HBR.out.trans (hb4.mono HBR.out.size)⟩
        exact congrArg Value.string (by apply ByteArray.ext; simp [← HL3.out])
      case measure => simp [intOf]
    · simp only [chHead]
      have hl4 : (L2 ++ lowB nu 2 ++ lowB many 2).length = 22 := by rw [List.length_append, List.length_append, lowB_length, lowB_length]; omega
      generalize hL4 : L2 ++ lowB nu 2 ++ lowB many 2 = L4 at *
      have HL4 : Hid _ := hL4
      clear hL4
      go_wp2_with (go_at_call 124; refine (ntext_int _ _ _ ?_ ?_ ?_ ?_).mono ?_; omega; omega; omega; omega; rintro e w4 ⟨rfl, hb4⟩)
      go_roundw
      case rel =>
        refine ⟨3, by omega, by go_num, ?_, (hb4.block _ (Array.getElem?_eq_some_iff.1 HI.out).1).trans HI.out, HBR.out.trans (hb4.mono HBR.out.size)⟩
        exact congrArg Value.string (by apply ByteArray.ext; simp [← HL4.out])
      case measure => simp [intOf]
    · have hl5 : (chHead L2 nu many rs.length 3).length = 24 := by
        simp only [chHead, List.length_append, lowB_length]
        omega
      generalize chHead L2 nu many rs.length 3 = L5 at *
      have x5 := boxed_cell (i := 7) (HX.out _ HBR.out) rfl
      have hzr : w.heap.size < wr.heap.size := Nat.lt_of_lt_of_le hsl HBR.out.size
      clear q0 q1 q2
      go_wp2_with fail
      refine (values_any _ _ _ _).mono ?_
      rintro e w6 ⟨rfl, rfl⟩
      have hb6 : Below w1.heap.size w1 (wr.alloc (.cells #[.slice a rs.length c] 22)) := HBR.out.alloc HBR.out.size _
      have hv6 : (wr.alloc (.cells #[.slice a rs.length c] 22)).cell? ⟨wr.heap.size, 0, none⟩ = some (.slice a rs.length c) := by simp [go_sem]
      have HCL : Hid (∀ u : Unit, _) := fun _ => closed_any z L5 (.slice a rs.length c) rs wr.heap.size _ (HR.out _ hb6) hv6 (by simp) (by omega) h9 (by omega) ho
      have HB6 : Hid _ := hb6
      clear hb6 hv6
      go_wp2_with fail
      refine (HCL.out ()).mono ?_
      rintro e w7 ⟨rfl, hb7⟩
      have HB7 : Hid (Below w.heap.size w w7) := hB1.trans ((HB6.out.trans (hb7.mono HB6.out.size)).mono hB1.size)
      clear hb7
      go_wp2
      go_ret
      exact ⟨by rw [HCH.out]; rfl, HB7.out⟩
end Go.Proofs.Ytdjmhagclcfnfaa
/- The program's pieces. -/
namespace Go.Proofs.Ytdjmhagclcfnfaa
open Go.RowKit Go.Shelf

attribute [local go_sem] Oper.semAt_some

/-- A row of one's own abides an iterator without cells. -/
theorem row_it {B B' sz n : Nat} {e : TypeId} {W W' : World} {v : Value} {xs : List Value} {row : Option Nat} (ho : W.ownsRow B e sz v n xs) (hg : W.grownBy W' row) (hr : ItRow none B' W row) : W'.ownsRow B e sz v n xs := by
  refine World.ownsRow.kept ho hg ?_
  rcases ho.2 with ⟨rfl, _⟩ | ⟨g, cap, cur, rfl, _, hgb, _⟩
  · exact .inl rfl
  · refine .inr fun e => ?_
    rcases hr g (by simpa [Value.ownBlock] using e.symm) with e2 | ⟨_, o, ho', hc⟩
    · cases e2
    · rw [hgb] at ho'; cases ho'; cases hc
/-- A piece that is closed: its records, in a block below N. -/
def Pie (B N : Nat) (W : World) (q : Value × List Rc) : Prop := OwnsR B W q.1 q.2 ∧ ∀ g, q.1.ownBlock = some g → g < N
/-- Closed pieces stay where a block is written that is from N on or of another type. -/
theorem Pie.kept {B N N' : Nat} {W W' : World} {q : Value × List Rc} {row : Option Nat} (h : Pie B N W q) (hN : N ≤ N') (hg : W.grownBy W' row) (hr : ∀ r, row = some r → N ≤ r ∨ ∀ cs fr, W.heap[r]? ≠ some (.cells cs 34 fr)) : Pie B N' W' q := by
  refine ⟨World.ownsRow.kept h.1 hg ?_, fun g e => Nat.lt_of_lt_of_le (h.2 g e) hN⟩
  obtain ⟨v, rs⟩ := q
  rcases h.1.2 with ⟨e, _⟩ | ⟨g, cap, cur, e, _, hgb, _⟩
  · exact .inl (by rw [show v = _ from e]; rfl)
  · refine .inr fun e2 => ?_
    have hgl : v.ownBlock = some g := by rw [show v = _ from e]; rfl
    have hlt := h.2 g hgl
    rcases hr g (by rw [← hgl]; exact e2.symm) with h3 | h3
    · omega
    · exact h3 _ _ hgb

/-- The state between two records: the boxes, what they hold, the closed pieces. -/
structure PSt (S0 : Nat) (w : World) (limit : Int) (qs : List (Value × List Rc)) (vl vp : Value) (cur : List Rc) (by_ N : Nat) (W : World) : Prop where
  lim : W.heap[S0]? = some (.cells #[.int .i64 limit] 3 (0, 0))
  lis : W.heap[S0 + 1]? = some (.cells #[vl] 29 (0, 0))
  pie : W.heap[S0 + 2]? = some (.cells #[vp] 22 (0, 0))
  byt : W.heap[S0 + 3]? = some (.cells #[.int .i64 (by_ : Nat)] 3 (0, 0))
  row : Own1 22 (S0 + 4) W vl (qs.map Prod.fst)
  own : OwnsR N W vp cur
  lo : S0 + 4 ≤ N
  hi : N ≤ W.heap.size
  old : ∀ q ∈ qs, Pie S0 N W q
  bel : Below S0 w W

theorem OwnsR.row_ne {B : Nat} {W : World} {v : Value} {rs : List Rc} (h : OwnsR B W v rs) : ∀ r, v.ownBlock = some r → B ≤ r ∧ ∃ cs, W.heap[r]? = some (.cells cs 34 (0, 0)) := by
  intro r e
  rcases h.2 with ⟨rfl, _⟩ | ⟨g, cap, cur, rfl, hb, hgb, _⟩
  · simp [Value.ownBlock] at e
  · obtain rfl : g = r := by simpa [Value.ownBlock] using e
    exact ⟨hb, cur, hgb⟩
theorem Own1.row_ne {t : TypeId} {B : Nat} {W : World} {v : Value} {xs : List Value} (h : Own1 t B W v xs) : ∀ r, v.ownBlock = some r → B ≤ r ∧ ∃ cs, W.heap[r]? = some (.cells cs t (0, 0)) := by
  intro r e
  rcases h.2 with ⟨rfl, _⟩ | ⟨g, cap, cur, rfl, hb, hgb, _⟩
  · simp [Value.ownBlock] at e
  · obtain rfl : g = r := by simpa [Value.ownBlock] using e
    exact ⟨hb, cur, hgb⟩
/-- Two rows of different types: where the one is written the other stays. -/
theorem row_beside {B sz n : Nat} {e e' : TypeId} {W W' : World} {v : Value} {xs : List Value} {row : Option Nat} (ho : W.ownsRow B e sz v n xs) (hg : W.grownBy W' row) (hr : ∀ r, row = some r → ∃ cs, W.heap[r]? = some (.cells cs e' (0, 0))) (hne : e ≠ e') : W'.ownsRow B e sz v n xs := by
  refine World.ownsRow.kept ho hg ?_
  rcases ho.2 with ⟨rfl, _⟩ | ⟨g, cap, cur, rfl, _, hgb, _⟩
  · exact .inl rfl
  · refine .inr fun e2 => ?_
    obtain ⟨cs, h⟩ := hr g (by simpa [Value.ownBlock] using e2.symm)
    rw [hgb] at h
    simp only [Option.some.injEq, Obj.cells.injEq] at h
    exact hne h.2.1

variable {S0 : Nat} {w : World} {limit : Int} {qs : List (Value × List Rc)} {vl vp : Value} {cur : List Rc} {by_ N : Nat} {W : World}

/-- Only new blocks. -/
theorem PSt.more (h : PSt S0 w limit qs vl vp cur by_ N W) {W' : World} (hb : Below W.heap.size W W') : PSt S0 w limit qs vl vp cur by_ N W' := by
  have lt := fun {k : Nat} {o : Obj} (e : W.heap[k]? = some o) => (Array.getElem?_eq_some_iff.1 e).1
  have hg : W.grownBy W' none := gbelow hb
  exact ⟨(hb.block _ (lt h.lim)).trans h.lim, (hb.block _ (lt h.lis)).trans h.lis, (hb.block _ (lt h.pie)).trans h.pie, (hb.block _ (lt h.byt)).trans h.byt, h.row.kept hg, OwnsR.keptN h.own hg, h.lo, Nat.le_trans h.hi hb.size, fun q hq => (h.old q hq).kept (Nat.le_refl _) hg (fun r e => by cases e), h.bel.trans (hb.mono (by have := h.lo; have := h.hi; omega))⟩
/-- An iterator without cells. -/
theorem PSt.it (h : PSt S0 w limit qs vl vp cur by_ N W) {W' : World} {row : Option Nat} {B' : Nat} (hB : S0 ≤ B') (hS : S0 ≤ w.heap.size) (hg : W.grownBy W' row) (hr : ItRow none B' W row) : PSt S0 w limit qs vl vp cur by_ N W' := by
  have bl : ∀ {k : Nat} {cs : Array Value} {t : TypeId} {fr : Nat × Nat}, W.heap[k]? = some (.cells cs t fr) → W'.heap[k]? = some (.cells cs t fr) := fun {k cs t fr} e => (hg.block k (Array.getElem?_eq_some_iff.1 e).1 (fun e2 => by
    rcases hr k e2.symm with e3 | ⟨_, o, ho, hc⟩
    · cases e3
    · rw [e] at ho; cases ho; cases hc)).trans e
  refine ⟨bl h.lim, bl h.lis, bl h.pie, bl h.byt, row_it h.row hg hr, row_it h.own hg hr, h.lo, Nat.le_trans h.hi hg.size, fun q hq => ⟨row_it (h.old q hq).1 hg hr, (h.old q hq).2⟩, h.bel.grown hg (Nat.le_trans hS h.bel.size) (fun k e => ?_)⟩
  rcases hr k e with e2 | ⟨h2, _⟩
  · cases e2
  · omega
/-- The open piece is closed. -/
theorem PSt.shut (h : PSt S0 w limit qs vl vp cur by_ N W) {A W3 : World} {v' : Value} (hA : Below W.heap.size W A) (hown : W3.ownsRow (S0 + 4) 22 1 v' (qs.length + 1) (qs.map Prod.fst ++ [vp])) (hg : A.grownBy W3 vl.ownBlock) (hw : S0 ≤ w.heap.size) :
    PSt S0 w limit (qs ++ [(vp, cur)]) v' (.slice none 0 0) [] 28 W3.heap.size (((W3.setCell ⟨S0 + 1, 0, none⟩ v').setCell ⟨S0 + 2, 0, none⟩ (.slice none 0 0)).setCell ⟨S0 + 3, 0, none⟩ (.int .i64 28)) ∧ W3.heap[S0 + 1]? = some (.cells #[vl] 29 (0, 0)) ∧ (W3.setCell ⟨S0 + 1, 0, none⟩ v').heap[S0 + 2]? = some (.cells #[vp] 22 (0, 0)) ∧ ((W3.setCell ⟨S0 + 1, 0, none⟩ v').setCell ⟨S0 + 2, 0, none⟩ (.slice none 0 0)).heap[S0 + 3]? = some (.cells #[.int .i64 (by_ : Nat)] 3 (0, 0)) ∧ (∀ k cs, S0 + 4 ≤ k → W.heap[k]? = some (.cells cs 34 (0, 0)) → (((W3.setCell ⟨S0 + 1, 0, none⟩ v').setCell ⟨S0 + 2, 0, none⟩ (.slice none 0 0)).setCell ⟨S0 + 3, 0, none⟩ (.int .i64 28)).heap[k]? = some (.cells cs 34 (0, 0))) := by
  have h1 := h.more hA
  have hrow := h1.row.row_ne
  have bl : ∀ {k : Nat} {o : Obj}, k < S0 + 4 → A.heap[k]? = some o → W3.heap[k]? = some o := fun {k o} hk e => (hg.block k (Array.getElem?_eq_some_iff.1 e).1 (fun e2 => by have := (hrow k e2.symm).1; omega)).trans e
  have l3 := bl (by omega) h1.lis
  have p3 := bl (by omega) h1.pie
  have b3 := bl (by omega) h1.byt
  have m3 := bl (by omega) h1.lim
  have hO3 : OwnsR N W3 vp cur := row_beside h1.own hg (fun r e => (hrow r e).2) (by decide)
  have hs : A.heap.size ≤ W3.heap.size := hg.size
  have hlo := h1.lo
  have hhi := h1.hi
  have ne := fun (a b : Nat) (hne : a ≠ b) => hne
  have p4 : (W3.setCell ⟨S0 + 1, 0, none⟩ v').heap[S0 + 2]? = _ := (Below.heap_setCell _ _ _ _ (by show S0 + 2 ≠ S0 + 1; omega)).trans p3
  have b5 : ((W3.setCell ⟨S0 + 1, 0, none⟩ v').setCell ⟨S0 + 2, 0, none⟩ (.slice none 0 0)).heap[S0 + 3]? = _ := (Below.heap_setCell _ _ _ _ (by show S0 + 3 ≠ S0 + 2; omega)).trans ((Below.heap_setCell _ _ _ _ (by show S0 + 3 ≠ S0 + 1; omega)).trans b3)
  have far : ∀ {k : Nat} {o : Obj}, k ≠ S0 + 1 → k ≠ S0 + 2 → k ≠ S0 + 3 → W3.heap[k]? = some o → (((W3.setCell ⟨S0 + 1, 0, none⟩ v').setCell ⟨S0 + 2, 0, none⟩ (.slice none 0 0)).setCell ⟨S0 + 3, 0, none⟩ (.int .i64 28)).heap[k]? = some o := fun {k o} n1 n2 n3 e => (Below.heap_setCell _ _ _ _ n3).trans ((Below.heap_setCell _ _ _ _ n2).trans ((Below.heap_setCell _ _ _ _ n1).trans e))
  have hgs : ∀ (X : World) (k : Nat) (v : Value), X.grownBy (X.setCell ⟨k, 0, none⟩ v) (some k) := fun X k v => gset X k 0 v
  have hbel : Below S0 w W3 := h1.bel.grown hg (Nat.le_trans hw h1.bel.size) (fun k e => by have := (hrow k e).1; omega)
  have keepR : ∀ {B sz n : Nat} {t : TypeId} {v : Value} {xs : List Value}, (∀ g, v.ownBlock = some g → S0 + 4 ≤ g) → W3.ownsRow B t sz v n xs → (((W3.setCell ⟨S0 + 1, 0, none⟩ v').setCell ⟨S0 + 2, 0, none⟩ (.slice none 0 0)).setCell ⟨S0 + 3, 0, none⟩ (.int .i64 28)).ownsRow B t sz v n xs := fun {B sz n t v xs} hge ho => by
    have nb : ∀ k, k < S0 + 4 → v.ownBlock ≠ some k := fun k hk e => by have := hge k e; omega
    exact World.ownsRow.kept (World.ownsRow.kept (World.ownsRow.kept ho (hgs _ _ _) (.inr (nb _ (by omega)))) (hgs _ _ _) (.inr (nb _ (by omega)))) (hgs _ _ _) (.inr (nb _ (by omega)))
  have hge' : ∀ g, v'.ownBlock = some g → S0 + 4 ≤ g := by
    intro g e
    rcases hown.2 with ⟨rfl, _⟩ | ⟨g', cap, cu, rfl, hb, _⟩
    · simp [Value.ownBlock] at e
    · obtain rfl : g' = g := by simpa [Value.ownBlock] using e
      exact hb
  refine ⟨⟨far (by omega) (by omega) (by omega) m3, ?_, ?_, block_set (i := 0) b5 _, ?_, World.ownsRow_nil _ _ _ _, by omega, by simp, ?_, ?_⟩, l3, p4, b5, fun k cs hk e => ?_⟩
  · exact (Below.heap_setCell _ _ _ _ (by show S0 + 1 ≠ S0 + 3; omega)).trans ((Below.heap_setCell _ _ _ _ (by show S0 + 1 ≠ S0 + 2; omega)).trans (block_set (i := 0) l3 _))
  · exact (Below.heap_setCell _ _ _ _ (by show S0 + 2 ≠ S0 + 3; omega)).trans (block_set (i := 0) p4 _)
  · rw [List.map_append]
    refine keepR hge' (own1_snoc ?_)
    rw [List.length_map]
    exact hown
  · intro q hq
    rw [List.mem_append, List.mem_singleton] at hq
    have q3 : Pie S0 W3.heap.size W3 q := by
      rcases hq with hq | rfl
      · refine (h1.old q hq).kept (by omega) hg (fun r e => .inr fun cs fr e2 => ?_)
        obtain ⟨cs', h3⟩ := (hrow r e).2
        rw [h3] at e2
        simp only [Option.some.injEq, Obj.cells.injEq] at e2
        exact absurd e2.2.1 (by decide)
      · refine ⟨OwnsR.base hO3 (by omega), fun g e => ?_⟩
        obtain ⟨_, cs, hcs⟩ := hO3.row_ne g e
        exact (Array.getElem?_eq_some_iff.1 hcs).1
    refine ⟨?_, fun g e => by have := q3.2 g e; simpa using this⟩
    refine keepR ?_ q3.1
    intro g e
    rcases hq with hq | rfl
    · obtain ⟨hgb, cs, hcs⟩ := (h1.old q hq).1.row_ne g e
      have : ∀ k, k < S0 + 4 → S0 ≤ k → k ≠ g := by
        intro k hk hk2 e2
        subst e2
        have hc : ∀ {cs' : Array Value} {t : TypeId}, A.heap[k]? = some (.cells cs' t (0, 0)) → t = 34 := fun e3 => by
          rw [hcs] at e3
          simp only [Option.some.injEq, Obj.cells.injEq] at e3
          exact e3.2.1.symm
        rcases (show k = S0 ∨ k = S0 + 1 ∨ k = S0 + 2 ∨ k = S0 + 3 by omega) with rfl | rfl | rfl | rfl
        · exact absurd (hc h1.lim) (by decide)
        · exact absurd (hc h1.lis) (by decide)
        · exact absurd (hc h1.pie) (by decide)
        · exact absurd (hc h1.byt) (by decide)
      by_cases hlt : g < S0 + 4
      · exact absurd rfl (this g hlt hgb)
      · omega
    · have := (hO3.row_ne g e).1
      omega
  · exact ((hbel.setCell (p := ⟨S0 + 1, 0, none⟩) (by simp) _).setCell (p := ⟨S0 + 2, 0, none⟩) (by simp) _).setCell (p := ⟨S0 + 3, 0, none⟩) (by simp) _
  · have e1 : A.heap[k]? = _ := (hA.block k (Array.getElem?_eq_some_iff.1 e).1).trans e
    refine far (by omega) (by omega) (by omega) ((hg.block k (Array.getElem?_eq_some_iff.1 e1).1 (fun e2 => ?_)).trans e1)
    obtain ⟨cs', h3⟩ := (hrow k e2.symm).2
    rw [e1] at h3
    simp only [Option.some.injEq, Obj.cells.injEq] at h3
    exact absurd h3.2.1 (by decide)
/-- One more record in the open piece. -/
theorem PSt.put (h : PSt S0 w limit qs vl vp cur by_ N W) {A W3 : World} {v' : Value} {x : Rc} (m : Nat) (hA : Below W.heap.size W A) (hown : W3.ownsRow N 34 3 v' (cur.length + 1) (recVals cur ++ [.bool x.free, .int .i64 x.block, .string x.data])) (hg : A.grownBy W3 vp.ownBlock) (hw : S0 ≤ w.heap.size) :
    PSt S0 w limit qs vl v' (cur ++ [x]) m N ((W3.setCell ⟨S0 + 2, 0, none⟩ v').setCell ⟨S0 + 3, 0, none⟩ (.int .i64 (m : Nat))) ∧ W3.heap[S0 + 2]? = some (.cells #[vp] 22 (0, 0)) ∧ (W3.setCell ⟨S0 + 2, 0, none⟩ v').heap[S0 + 3]? = some (.cells #[.int .i64 (by_ : Nat)] 3 (0, 0)) := by
  have h1 := h.more hA
  have hrow := h1.own.row_ne
  have hlo := h1.lo
  have hhi := h1.hi
  have bl : ∀ {k : Nat} {o : Obj}, k < S0 + 4 → A.heap[k]? = some o → W3.heap[k]? = some o := fun {k o} hk e => (hg.block k (Array.getElem?_eq_some_iff.1 e).1 (fun e2 => by have := (hrow k e2.symm).1; omega)).trans e
  have l3 := bl (by omega) h1.lis
  have p3 := bl (by omega) h1.pie
  have b3 := bl (by omega) h1.byt
  have m3 := bl (by omega) h1.lim
  have hs : A.heap.size ≤ W3.heap.size := hg.size
  have b4 : (W3.setCell ⟨S0 + 2, 0, none⟩ v').heap[S0 + 3]? = _ := (Below.heap_setCell _ _ _ _ (by show S0 + 3 ≠ S0 + 2; omega)).trans b3
  have hbel : Below S0 w W3 := h1.bel.grown hg (Nat.le_trans hw h1.bel.size) (fun k e => by have := (hrow k e).1; omega)
  have far : ∀ {k : Nat} {o : Obj}, k ≠ S0 + 2 → k ≠ S0 + 3 → W3.heap[k]? = some o → ((W3.setCell ⟨S0 + 2, 0, none⟩ v').setCell ⟨S0 + 3, 0, none⟩ (.int .i64 (m : Nat))).heap[k]? = some o := fun {k o} n2 n3 e => (Below.heap_setCell _ _ _ _ n3).trans ((Below.heap_setCell _ _ _ _ n2).trans e)
  have hgs : ∀ (X : World) (k : Nat) (v : Value), X.grownBy (X.setCell ⟨k, 0, none⟩ v) (some k) := fun X k v => gset X k 0 v
  have keepR : ∀ {B sz n : Nat} {t : TypeId} {v : Value} {xs : List Value}, (∀ g, v.ownBlock = some g → g ≠ S0 + 2 ∧ g ≠ S0 + 3) → W3.ownsRow B t sz v n xs → ((W3.setCell ⟨S0 + 2, 0, none⟩ v').setCell ⟨S0 + 3, 0, none⟩ (.int .i64 (m : Nat))).ownsRow B t sz v n xs := fun {B sz n t v xs} hge ho =>
    World.ownsRow.kept (World.ownsRow.kept ho (hgs _ _ _) (.inr (fun e => (hge _ e).1 rfl))) (hgs _ _ _) (.inr (fun e => (hge _ e).2 rfl))
  refine ⟨⟨far (by omega) (by omega) m3, far (by omega) (by omega) l3, (Below.heap_setCell _ _ _ _ (by show S0 + 2 ≠ S0 + 3; omega)).trans (block_set (i := 0) p3 _), block_set (i := 0) b4 _, ?_, ?_, hlo, by simp; omega, ?_, ?_⟩, p3, b4⟩
  · refine keepR (fun g e => ?_) (row_beside h1.row hg (fun r e => (hrow r e).2) (by decide))
    have := (h1.row.row_ne g e).1
    exact ⟨by omega, by omega⟩
  · refine keepR (fun g e => ?_) (ownsR_snoc hown)
    rcases hown.2 with ⟨rfl, _⟩ | ⟨g', cap, cu, rfl, hb, _⟩
    · simp [Value.ownBlock] at e
    · obtain rfl : g' = g := by simpa [Value.ownBlock] using e
      exact ⟨by omega, by omega⟩
  · intro q hq
    have q3 := (h1.old q hq).kept (Nat.le_refl N) hg (fun r e => .inl (hrow r e).1)
    refine ⟨keepR (fun g e => ?_) q3.1, q3.2⟩
    obtain ⟨hgb, cs, hcs⟩ := q3.1.row_ne g e
    refine ⟨fun e2 => ?_, fun e2 => ?_⟩
    · rw [e2, p3] at hcs
      simp only [Option.some.injEq, Obj.cells.injEq] at hcs
      exact absurd hcs.2.1 (by decide)
    · rw [e2, b3] at hcs
      simp only [Option.some.injEq, Obj.cells.injEq] at hcs
      exact absurd hcs.2.1 (by decide)
  · exact (hbel.setCell (p := ⟨S0 + 2, 0, none⟩) (by simp) _).setCell (p := ⟨S0 + 3, 0, none⟩) (by simp) _

theorem OwnsR.alloc1 {B : Nat} {W : World} {v : Value} {rs : List Rc} (h : OwnsR B W v rs) (o : Obj) : OwnsR B (W.alloc o) v rs := World.ownsRow.alloc h o
theorem keeps_row {A W3 : World} {row : Option Nat} (hg : A.grownBy W3 row) (hr : ∀ r, row = some r → ∃ t cs, A.heap[r]? = some (.cells cs t (0, 0))) : KeepsOthers A W3 :=
  KeepsOthers.of_grownBy hg fun j o ej hj => by
    obtain ⟨t, cs, h⟩ := hr j ej
    rw [h] at hj
    cases hj
    rfl
theorem PSt.keptOn (h : PSt S0 w limit qs vl vp cur by_ N W) {qs' : List (Value × List Rc)} {vl' vp' : Value} {cur' : List Rc} {by' N' : Nat} {W' : World} (h' : PSt S0 w limit qs' vl' vp' cur' by' N' W') {K : Nat → Prop} (hK : ∀ k, K k → k < S0) : KeptOn K W W' :=
  fun k hk => (h'.bel.block k (hK k hk)).trans (h.bel.block k (hK k hk)).symm
end Go.Proofs.Ytdjmhagclcfnfaa
/- The program's chunkHead. -/
namespace Go.Proofs.Ytdjmhagclcfnfaa
open Go.RowKit Go.Shelf

/-- What a chunk's first bytes tell: the error, or its numbers. -/
def chunkO (l : List UInt8) : Int ⊕ (Nat × Nat × Nat × Nat × Nat) :=
  match openG [83, 84, 82, 67] 24 0 l with
  | .inl k => .inl k
  | .inr (f, t, b, z, all) => if num ((l.drop 20).take 2) ≤ num ((l.drop 18).take 2) ∨ all < num ((l.drop 22).take 2) then .inl 4 else .inr (f, t, b, z, all)

set_option maxRecDepth 100000 in
set_option maxHeartbeats 4000000 in
theorem chunkHead_any (R : Nat) (l : List UInt8) (w : World) (hr : Rd w R l 0) (hl : l.length ≤ 4611686018427387904) :
    Calls Try.prog 102 #[.pointer (some ⟨R, 0, none⟩)] w fun e w' => w.grownBy w' (some R) ∧
      ((∃ k, chunkO l = .inl k ∧ e = .panicked (gave k)) ∨
       (∃ f t b z all : Nat, chunkO l = .inr (f, t, b, z, all) ∧ 24 ≤ l.length ∧ headOk f t b z all = true ∧ num ((l.drop 22).take 2) ≤ all ∧ e = .returned (.tuple #[.agg #[.int .i64 f, .int .i64 t, .int .i64 b, .int .i64 z, .int .i64 all, .int .i64 (num ((l.drop 18).take 2) : Nat), .int .i64 (num ((l.drop 20).take 2) : Nat), .slice none 0 0], .int .i64 (num ((l.drop 22).take 2) : Nat)]) ∧ Rd w' R l 24)) := by
  have hlt := hr.lt
  have HB : Hid (∀ o : Obj, _) := fun o => pbegin R l [83, 84, 82, 67] rfl 24 (w.alloc o) (Rd.alloc hr o) hl (by omega)
  clear hr
  go_enter Try.func102, Try.ntmps102
  go_wp2_with fail
  refine (HB.out _).mono ?_
  rintro e w1 ⟨hg1, (⟨h1, rfl⟩ | ⟨h1, h2, rfl⟩ | ⟨h1, h2, f, t, b, z, all, hh, rfl, hr1⟩)⟩
  · exact ⟨rfl, gtrans (galloc _ _ _) hg1, .inl ⟨2, by unfold chunkO openG; rw [if_pos h1], rfl⟩⟩
  · exact ⟨rfl, gtrans (galloc _ _ _) hg1, .inl ⟨3, by unfold chunkO openG; rw [if_neg (by omega), if_pos h2], rfl⟩⟩
  have HO2 : Hid (chunkO l = if headOk f t b z all = true then (if num ((l.drop 20).take 2) ≤ num ((l.drop 18).take 2) ∨ all < num ((l.drop 22).take 2) then .inl 4 else .inr (f, t, b, z, all)) else .inl 4) := by
    show _ = _
    unfold chunkO openG
    rw [if_neg (by omega), if_neg (by simpa using h2), hh]
    simp only [if_true]
    unfold headOk
    cases hk : (wellHead f t b z && decide (all ≤ b)) with
    | true =>
      have : (wellHead (f : Int) t b z && decide ((all : Int) ≤ b)) = true := by simpa using hk
      rw [this]
      rfl
    | false =>
      have : (wellHead (f : Int) t b z && decide ((all : Int) ≤ b)) = false := by
        rw [← hk]
        simp
      rw [this]
      rfl
  obtain ⟨hb1, hlb1⟩ := resBox hlt hg1 (⟨rfl, rfl, rfl, Nat.le_refl _, fun _ _ _ => rfl⟩ : w1.grownBy w1 (some R))
  have c0 := boxed_cell (i := 0) hb1 rfl
  have f0 := boxed_frozen (i := 0) hb1
  have c1 := boxed_cell (i := 1) hb1 rfl
  have f1 := boxed_frozen (i := 1) hb1
  have c2 := boxed_cell (i := 2) hb1 rfl
  have f2 := boxed_frozen (i := 2) hb1
  have c3 := boxed_cell (i := 3) hb1 rfl
  have f3 := boxed_frozen (i := 3) hb1
  have c4 := boxed_cell (i := 4) hb1 rfl
  have f4 := boxed_frozen (i := 4) hb1
  have G1 : Hid (w.grownBy w1 (some R)) := gtrans (galloc _ _ _) hg1
  have R1 : Hid (Rd w1 R l 18) := hr1
  have B1 : Hid _ := hb1
  have n1 := num2_lt l 18
  have n2 := num2_lt l 20
  have n3 := num2_lt l 22
  have H1 : Hid (∀ W, Rd W R l 18 → _) := fun W h => number_ok R l 18 2 W h hl (by omega) (by omega)
  have H2 : Hid (∀ W, Rd W R l 20 → _) := fun W h => number_ok R l 20 2 W h hl (by omega) (by omega)
  have H3 : Hid (∀ W, Rd W R l 22 → _) := fun W h => number_ok R l 22 2 W h hl (by omega) (by omega)
  clear hg1 hr1 hb1 HB hh h2
  obtain ⟨nu, hnu⟩ : ∃ x, x = num ((l.drop 18).take 2) := ⟨_, rfl⟩
  obtain ⟨many, hmany⟩ : ∃ x, x = num ((l.drop 20).take 2) := ⟨_, rfl⟩
  obtain ⟨here, hhere⟩ : ∃ x, x = num ((l.drop 22).take 2) := ⟨_, rfl⟩
  rw [← hnu] at H1 n1 HO2
  rw [← hmany] at H2 n2 HO2
  rw [← hhere] at H3 n3 HO2
  have HNU : Hid _ := hnu
  have HMA : Hid _ := hmany
  have HHE : Hid _ := hhere
  clear hnu hmany hhere
  go_wp2_with fail
  obtain ⟨X1, hX1⟩ : ∃ X1, X1 = ((((w1.setCell ⟨w.heap.size, 0, none⟩ (.int .i64 f)).setCell ⟨w.heap.size, 1, none⟩ (.int .i64 t)).setCell ⟨w.heap.size, 2, none⟩ (.int .i64 b)).setCell ⟨w.heap.size, 3, none⟩ (.int .i64 z)).setCell ⟨w.heap.size, 4, none⟩ (.int .i64 all) := ⟨_, rfl⟩
  have x1 : Hid (X1.heap[w.heap.size]? = some (.cells #[.int .i64 f, .int .i64 t, .int .i64 b, .int .i64 z, .int .i64 all, .int .i64 0, .int .i64 0, .slice none 0 0] 108 (0, 0))) := by
    rw [hX1]
    exact block_set (i := 4) (block_set (i := 3) (block_set (i := 2) (block_set (i := 1) (block_set (i := 0) B1.out _) _) _) _) _
  have xr : Rd X1 R l 18 := by rw [hX1]; exact Rd.set (Rd.set (Rd.set (Rd.set (Rd.set R1.out (by omega)) (by omega)) (by omega)) (by omega)) (by omega)
  have xg : w.grownBy X1 (some R) := by rw [hX1]; exact gfresh (gfresh (gfresh (gfresh (gfresh G1.out (Nat.le_refl _)) (Nat.le_refl _)) (Nat.le_refl _)) (Nat.le_refl _)) (Nat.le_refl _)
  rw [← hX1]
  have XG : Hid _ := xg
  clear c0 c1 c2 c3 c4 f0 f1 f2 f3 f4 hX1 B1 R1 G1 xg
  refine (H1.out _ xr).mono ?_
  rintro e w2 ⟨rfl, hr2, hg2⟩
  have R2 : Hid (Rd w2 R l 20) := hr2
  have G2 : Hid (w.grownBy w2 (some R)) := gtrans XG.out hg2
  have B2 : Hid _ := box5_grown x1.out hg2 (by simp; omega)
  have c5 := boxed_cell (i := 5) B2.out rfl
  have f5 := boxed_frozen (i := 5) B2.out
  clear hr2 hg2 xr
  go_wp2_with fail
  obtain ⟨X2, hX2⟩ : ∃ X2, X2 = w2.setCell ⟨w.heap.size, 5, none⟩ (.int .i64 nu) := ⟨_, rfl⟩
  have x2 : Hid (X2.heap[w.heap.size]? = some (.cells #[.int .i64 f, .int .i64 t, .int .i64 b, .int .i64 z, .int .i64 all, .int .i64 nu, .int .i64 0, .slice none 0 0] 108 (0, 0))) := by
    rw [hX2]
    exact block_set (i := 5) B2.out _
  have xr : Rd X2 R l 20 := by rw [hX2]; exact Rd.set R2.out (by omega)
  have xg : w.grownBy X2 (some R) := by rw [hX2]; exact gfresh G2.out (Nat.le_refl _)
  rw [← hX2]
  have XG2 : Hid _ := xg
  clear c5 f5 hX2 B2 R2 G2 xg
  refine (H2.out _ xr).mono ?_
  rintro e w3 ⟨rfl, hr3, hg3⟩
  have R3 : Hid (Rd w3 R l 22) := hr3
  have G3 : Hid (w.grownBy w3 (some R)) := gtrans XG2.out hg3
  have B3 : Hid _ := box5_grown x2.out hg3 (by simp; omega)
  have c6 := boxed_cell (i := 6) B3.out rfl
  have f6 := boxed_frozen (i := 6) B3.out
  clear hr3 hg3 xr
  go_wp2_with fail
  obtain ⟨X3, hX3⟩ : ∃ X3, X3 = w3.setCell ⟨w.heap.size, 6, none⟩ (.int .i64 many) := ⟨_, rfl⟩
  have x3 : Hid (X3.heap[w.heap.size]? = some (.cells #[.int .i64 f, .int .i64 t, .int .i64 b, .int .i64 z, .int .i64 all, .int .i64 nu, .int .i64 many, .slice none 0 0] 108 (0, 0))) := by
    rw [hX3]
    exact block_set (i := 6) B3.out _
  have xr : Rd X3 R l 22 := by rw [hX3]; exact Rd.set R3.out (by omega)
  have xg : w.grownBy X3 (some R) := by rw [hX3]; exact gfresh G3.out (Nat.le_refl _)
  rw [← hX3]
  have XG3 : Hid _ := xg
  clear c6 f6 hX3 B3 R3 G3 xg
  refine (H3.out _ xr).mono ?_
  rintro e w4 ⟨rfl, hr4, hg4⟩
  have R4 : Hid (Rd w4 R l 24) := hr4
  have G4 : Hid (w.grownBy w4 (some R)) := gtrans XG3.out hg4
  have B4 : Hid (w4.heap[w.heap.size]? = some (.cells #[.int .i64 f, .int .i64 t, .int .i64 b, .int .i64 z, .int .i64 all, .int .i64 nu, .int .i64 many, .slice none 0 0] 108 (0, 0))) := box5_grown x3.out hg4 (by simp; omega)
  have c0 := boxed_cell (i := 0) B4.out rfl
  have c1 := boxed_cell (i := 1) B4.out rfl
  have c2 := boxed_cell (i := 2) B4.out rfl
  have c3 := boxed_cell (i := 3) B4.out rfl
  have c4 := boxed_cell (i := 4) B4.out rfl
  clear hr4 hg4 xr
  go_wp2_with fail
  refine (hwell_any f t b z all _).mono ?_
  rintro e w5 ⟨rfl, hb5⟩
  have G5 : Hid (w.grownBy w5 (some R)) := gtrans G4.out (gbelow hb5)
  have R5 : Hid (Rd w5 R l 24) := R4.out.of (hb5.block R R4.out.lt) (hb5.block (R - 1) (by have := R4.out.lt; omega))
  have b5 := (hb5.block _ (Array.getElem?_eq_some_iff.1 B4.out).1).trans B4.out
  clear c0 c1 c2 c3 c4 hb5
  have c0 := boxed_cell (i := 0) (v := .int .i64 f) b5 rfl
  have c1 := boxed_cell (i := 1) (v := .int .i64 t) b5 rfl
  have c2 := boxed_cell (i := 2) (v := .int .i64 b) b5 rfl
  have c3 := boxed_cell (i := 3) (v := .int .i64 z) b5 rfl
  have c4 := boxed_cell (i := 4) (v := .int .i64 all) b5 rfl
  have c5 := boxed_cell (i := 5) (v := .int .i64 nu) b5 rfl
  have c6 := boxed_cell (i := 6) (v := .int .i64 many) b5 rfl
  have c7 := boxed_cell (i := 7) (v := .slice none 0 0) b5 rfl
  have y0 := boxed_frozen (i := 0) b5
  have y1 := boxed_frozen (i := 1) b5
  have y2 := boxed_frozen (i := 2) b5
  have y3 := boxed_frozen (i := 3) b5
  have y4 := boxed_frozen (i := 4) b5
  have y5 := boxed_frozen (i := 5) b5
  have y6 := boxed_frozen (i := 6) b5
  have y7 := boxed_frozen (i := 7) b5
  have B5 : Hid _ := b5
  clear b5
  cases hok : headOk f t b z all with
  | false =>
    have HX : Hid (chunkO l = .inl 4) := by show _ = _; rw [HO2.out, hok]; rfl
    clear hok
    go_wp2
    exact ⟨rfl, G5.out, .inl ⟨4, HX.out, rfl⟩⟩
  | true =>
    have HK : Hid (headOk f t b z all = true) := hok
    by_cases hm : many ≤ nu
    · have e1 : decide ((many : Int) ≤ nu) = true := by simp; omega
      have HX : Hid (chunkO l = .inl 4) := by show _ = _; rw [HO2.out, hok, if_pos rfl, if_pos (.inl hm)]
      clear hok
      go_wp2
      exact ⟨rfl, G5.out, .inl ⟨4, HX.out, rfl⟩⟩
    · have e1 : decide ((many : Int) ≤ nu) = false := by simp; omega
      by_cases hq : all < here
      · have e2 : decide ((all : Int) < here) = true := by simp; omega
        have HX : Hid (chunkO l = .inl 4) := by show _ = _; rw [HO2.out, hok, if_pos rfl, if_pos (.inr hq)]
        clear hok
        go_wp2
        exact ⟨rfl, G5.out, .inl ⟨4, HX.out, rfl⟩⟩
      · have e2 : decide ((all : Int) < here) = false := by simp; omega
        have HX : Hid (chunkO l = .inr (f, t, b, z, all)) := by show _ = _; rw [HO2.out, hok, if_pos rfl, if_neg (by omega)]
        clear hok
        go_wp2
        refine bodyPost_ret (v := .tuple #[.agg #[.int .i64 f, .int .i64 t, .int .i64 b, .int .i64 z, .int .i64 all, .int .i64 nu, .int .i64 many, .slice none 0 0], .int .i64 here]) (by simp [results, Try.results102, go_sem, c0, c1, c2, c3, c4, c5, c6, c7]) rfl ?_
        exact ⟨gfresh (gfresh (gfresh (gfresh (gfresh (gfresh (gfresh (gfresh (G5.out) (Nat.le_refl _)) (Nat.le_refl _)) (Nat.le_refl _)) (Nat.le_refl _)) (Nat.le_refl _)) (Nat.le_refl _)) (Nat.le_refl _)) (Nat.le_refl _), .inr ⟨f, t, b, z, all, HX.out, h1, HK.out, by rw [← HHE.out]; omega, by rw [← HHE.out, ← HMA.out, ← HNU.out], Rd.set (Rd.set (Rd.set (Rd.set (Rd.set (Rd.set (Rd.set (Rd.set (R5.out) (by omega)) (by omega)) (by omega)) (by omega)) (by omega)) (by omega)) (by omega)) (by omega)⟩⟩
end Go.Proofs.Ytdjmhagclcfnfaa
/- The program's readChunk. -/
namespace Go.Proofs.Ytdjmhagclcfnfaa
open Go.RowKit Go.Shelf

theorem chunkR_recs (l : List UInt8) : chunkR l = match chunkO l with
    | .inl k => .inl k
    | .inr (f, t, b, z, all) => match recsR b z (num ((l.drop 22).take 2)) 24 l with
      | .inl k => .inl k
      | .inr rs => .inr ⟨f, t, b, z, all, num ((l.drop 18).take 2), num ((l.drop 20).take 2), rs⟩ := by
  unfold chunkR chunkO recsR
  rcases openG [83, 84, 82, 67] 24 0 l with k | ⟨f, t, b, z, all⟩
  · rfl
  · simp only []
    by_cases h : num ((l.drop 20).take 2) ≤ num ((l.drop 18).take 2) ∨ all < num ((l.drop 22).take 2)
    · rw [if_pos h, if_pos h]
    · rw [if_neg h, if_neg h]
      simp only []
      rcases walkR b z (num ((l.drop 22).take 2)) (-1) (l.drop 24) with ⟨rs, (k | q)⟩
      · rfl
      · simp only []
        cases endR l (l.length - q.length) with
        | none => rfl
        | some k => rfl

set_option maxRecDepth 100000 in
set_option maxHeartbeats 4000000 in
theorem readChunk_any (l : List UInt8) (w : World) (hl : l.length ≤ 4611686018427387904) :
    Calls Try.prog 71 #[.string ⟨l.toArray⟩] w fun e w' => w.grownBy w' none ∧
      ((∃ k, chunkR l = .inl k ∧ e = .panicked (gave k)) ∨ (∃ c v, chunkR l = .inr c ∧ e = .returned (.agg #[.int .i64 c.f, .int .i64 c.t, .int .i64 c.b, .int .i64 c.z, .int .i64 c.all, .int .i64 c.nu, .int .i64 c.many, v]) ∧ OwnsR w.heap.size w' v c.rs)) := by
  go_enter Try.func71, Try.ntmps71
  go_wp2_with fail
  refine (overText_at l _ (w.heap.size + 2) (by simp)).mono ?_
  rintro e W1 ⟨rfl, hr1, hbl, hs1⟩
  have hb1 : W1.heap[w.heap.size]? = some (.cells #[.int .i64 0, .int .i64 0, .int .i64 0, .int .i64 0, .int .i64 0, .int .i64 0, .int .i64 0, .slice none 0 0] 108 (0, 0)) := (hbl.block _ (by simp)).trans (World.alloc_heap_new _ _)
  have hg1 : w.grownBy W1 none := gtrans (galloc _ _ _) (gbelow hbl)
  have HR1 : Hid (Rd W1 (w.heap.size + 2) l 0) := hr1
  clear hbl hr1
  go_wp2_with fail
  refine (chunkHead_any (w.heap.size + 2) l W1 HR1.out hl).mono ?_
  clear HR1
  rintro e W2 ⟨hg2, (⟨k, hk, rfl⟩ | ⟨f, t, b, z, all, ho, h24, hok, hhe, rfl, hr2⟩)⟩
  · refine ⟨rfl, grown_fresh hg1 hg2 (by omega), .inl ⟨k, ?_, rfl⟩⟩
    rw [chunkR_recs, hk]
  have HCR : Hid (chunkR l = match recsR b z (num ((l.drop 22).take 2)) 24 l with
      | .inl k => .inl k
      | .inr rs => .inr ⟨f, t, b, z, all, num ((l.drop 18).take 2), num ((l.drop 20).take 2), rs⟩) := by
    show _ = _
    rw [chunkR_recs, ho]
  have HB2 : Hid (W2.heap[w.heap.size]? = _) := (hg2.block w.heap.size (by omega) (by simp)).trans hb1
  have HG2 : Hid (w.grownBy W2 none) := grown_fresh hg1 hg2 (by omega)
  have HR2 : Hid (Rd W2 (w.heap.size + 2) l 24) := hr2
  have hs2 : w.heap.size + 3 ≤ W2.heap.size := by have := hg2.size; omega
  have hhd := hok
  simp only [headOk, wellHead, Bool.and_eq_true, decide_eq_true_eq] at hhd
  obtain ⟨nu, hnu⟩ : ∃ x, x = num ((l.drop 18).take 2) := ⟨_, rfl⟩
  obtain ⟨many, hmany⟩ : ∃ x, x = num ((l.drop 20).take 2) := ⟨_, rfl⟩
  obtain ⟨here, hhere⟩ : ∃ x, x = num ((l.drop 22).take 2) := ⟨_, rfl⟩
  rw [← hnu, ← hmany, ← hhere] at HCR
  rw [← hhere] at hhe
  rw [← hnu, ← hmany, ← hhere]
  have hm100 : here ≤ 100 := by omega
  have hz64 : z ≤ 64 := by omega
  clear ho hg2 hg1 hr2 hb1 hok hhd hnu hmany hhere
  go_wp2_with fail
  obtain ⟨W3, hW3⟩ : ∃ W3, W3 = W2.alloc (.cells #[.int .i64 f, .int .i64 t, .int .i64 b, .int .i64 z, .int .i64 all, .int .i64 nu, .int .i64 many, .slice none 0 0] 108) := ⟨_, rfl⟩
  have hg3 : W2.grownBy W3 none := by rw [hW3]; exact galloc _ _ _
  have hc3 : W3.heap[W2.heap.size]? = some (.cells #[.int .i64 f, .int .i64 t, .int .i64 b, .int .i64 z, .int .i64 all, .int .i64 nu, .int .i64 many, .slice none 0 0] 108 (0, 0)) := by rw [hW3]; exact World.alloc_heap_new _ _
  have hs3 : W3.heap.size = W2.heap.size + 1 := by rw [hW3]; simp
  rw [← hW3]
  clear hW3
  refine (records_told (w.heap.size + 2) f t b z all here 24 l W3 (Rd.kept HR2.out hg3) h24 (by decide) hl hz64 hm100).mono ?_
  rintro e W4 ⟨fv, rfl, hg4, hC⟩
  have HC : Hid (∀ u : Unit, _) := fun _ => hC
  have G4 : Hid (w.grownBy W4 none) := gtrans HG2.out (gtrans hg3 hg4)
  have C4 : Hid (W4.heap[W2.heap.size]? = some (.cells #[.int .i64 f, .int .i64 t, .int .i64 b, .int .i64 z, .int .i64 all, .int .i64 nu, .int .i64 many, .slice none 0 0] 108 (0, 0))) := box5_grown hc3 hg4 (by simp)
  have B4 : Hid (W4.heap[w.heap.size]? = _) := box5_grown (box5_grown HB2.out hg3 (by simp)) hg4 (by simp)
  have hs4 : W2.heap.size < W4.heap.size := by have := hg4.size; omega
  clear hC hg4 hg3 hc3
  go_wp2_with fail
  refine (HC.out ()).mono ?_
  rintro e W5 ⟨hg5, (⟨k, hk, rfl⟩ | ⟨rs, v, hk, rfl, hown⟩)⟩
  · exact ⟨rfl, grown_fresh G4.out hg5 (by omega), .inl ⟨k, by rw [HCR.out, hk], rfl⟩⟩
  have HP : Hid (chunkR l = .inr ⟨f, t, b, z, all, nu, many, rs⟩) := by
    show _ = _
    rw [HCR.out, hk]
  obtain ⟨a, ln, cp, rfl⟩ : ∃ a ln cp, v = .slice a ln cp := by
    rcases hown.2 with ⟨rfl, _⟩ | ⟨g, cap, cur, rfl, _⟩
    · exact ⟨_, _, _, rfl⟩
    · exact ⟨_, _, _, rfl⟩
  have c5 := box5_grown C4.out hg5 (by simp; omega)
  have b5 := box5_grown B4.out hg5 (by simp)
  have HOW : Hid (OwnsR W4.heap.size W5 (.slice a ln cp) rs) := hown
  have G5 : Hid (w.grownBy W5 none) := grown_fresh G4.out hg5 (by omega)
  have hl5 : w.heap.size < W5.heap.size := by have := hg5.size; omega
  have d0 := boxed_cell (i := 0) c5 rfl
  have d1 := boxed_cell (i := 1) c5 rfl
  have d2 := boxed_cell (i := 2) c5 rfl
  have d3 := boxed_cell (i := 3) c5 rfl
  have d4 := boxed_cell (i := 4) c5 rfl
  have d5 := boxed_cell (i := 5) c5 rfl
  have d6 := boxed_cell (i := 6) c5 rfl
  have d7 := boxed_cell (i := 7) c5 rfl
  have df := boxed_frozen (i := 7) c5
  have r0 := boxed_cell (i := 0) b5 rfl
  have z0 := boxed_frozen (i := 0) b5
  have r1 := boxed_cell (i := 1) b5 rfl
  have z1 := boxed_frozen (i := 1) b5
  have r2 := boxed_cell (i := 2) b5 rfl
  have z2 := boxed_frozen (i := 2) b5
  have r3 := boxed_cell (i := 3) b5 rfl
  have z3 := boxed_frozen (i := 3) b5
  have r4 := boxed_cell (i := 4) b5 rfl
  have z4 := boxed_frozen (i := 4) b5
  have r5 := boxed_cell (i := 5) b5 rfl
  have z5 := boxed_frozen (i := 5) b5
  have r6 := boxed_cell (i := 6) b5 rfl
  have z6 := boxed_frozen (i := 6) b5
  have r7 := boxed_cell (i := 7) b5 rfl
  have z7 := boxed_frozen (i := 7) b5
  clear hown hg5 c5 b5 hk
  go_wp2
  refine bodyPost_ret (v := .agg #[.int .i64 f, .int .i64 t, .int .i64 b, .int .i64 z, .int .i64 all, .int .i64 nu, .int .i64 many, .slice a ln cp]) (by simp [results, Try.results71, go_sem, r0, r1, r2, r3, r4, r5, r6, r7]) rfl ?_
  have hs5 : w.heap.size < W4.heap.size := by omega
  exact ⟨gfresh (gfresh (gfresh (gfresh (gfresh (gfresh (gfresh (gfresh (gfresh G5.out (by omega)) (Nat.le_refl _)) (Nat.le_refl _)) (Nat.le_refl _)) (Nat.le_refl _)) (Nat.le_refl _)) (Nat.le_refl _)) (Nat.le_refl _)) (Nat.le_refl _), .inr ⟨⟨f, t, b, z, all, nu, many, rs⟩, _, HP.out, rfl, OwnsR.base (OwnsR.set (OwnsR.set (OwnsR.set (OwnsR.set (OwnsR.set (OwnsR.set (OwnsR.set (OwnsR.set (OwnsR.set HOW.out hs4) hs5) hs5) hs5) hs5) hs5) hs5) hs5) hs5) (by omega)⟩⟩
end Go.Proofs.Ytdjmhagclcfnfaa
/- Rows of chunks, eight cells each. -/
namespace Go.Proofs.Ytdjmhagclcfnfaa
open Go.RowKit Go.Shelf

/-- A chunk's cells, as the program lays them. -/
def pcCells (p : Ck × Value) : List Value := [.int .i64 p.1.f, .int .i64 p.1.t, .int .i64 p.1.b, .int .i64 p.1.z, .int .i64 p.1.all, .int .i64 p.1.nu, .int .i64 p.1.many, p.2]
def OwnsP (B : Nat) (w : World) (v : Value) (ps : List (Ck × Value)) : Prop := w.ownsRow B 108 8 v ps.length (ps.flatMap pcCells)
def pcZero : Ck × Value := (⟨0, 0, 0, 0, 0, 0, 0, []⟩, .slice none 0 0)
theorem Try.infoChunk : (Try.prog.info? 108).map (fun i => (i.zero, i.size, i.bytes)) = some (some (.agg #[.int .i64 0, .int .i64 0, .int .i64 0, .int .i64 0, .int .i64 0, .int .i64 0, .int .i64 0, .slice none 0 0]), 8, 80) := by kernel_rfl

theorem pcCells_length (ps : List (Ck × Value)) : (ps.flatMap pcCells).length = ps.length * 8 := by
  induction ps with
  | nil => rfl
  | cons p ps ih => rw [List.flatMap_cons, List.length_append, ih, List.length_cons]; simp [pcCells]; omega
theorem pcCells_at : ∀ (ps : List (Ck × Value)) (k : Nat) (h : k < ps.length) (j : Nat) (_ : j < 8), (ps.flatMap pcCells)[k * 8 + j]? = (pcCells ps[k])[j]?
  | p :: ps, 0, _, j, hj => by
    rw [List.flatMap_cons, List.getElem?_append_left (by simp [pcCells]; omega)]
    simp
  | p :: ps, k + 1, h, j, hj => by
    rw [List.flatMap_cons, List.getElem?_append_right (by simp [pcCells]; omega)]
    rw [show (k + 1) * 8 + j - (pcCells p).length = k * 8 + j from by simp [pcCells]; omega]
    rw [pcCells_at ps k (by simpa using h) j hj]
    rfl
/-- One after the other, from o on. -/
def seqSet (l : List Value) (o : Nat) : List Value → List Value
  | [] => l
  | y :: ys => seqSet (l.set o y) (o + 1) ys
theorem seqSet_eq : ∀ (ys l : List Value) (o : Nat), o + ys.length ≤ l.length → seqSet l o ys = l.take o ++ ys ++ l.drop (o + ys.length)
  | [], l, o, _ => by simp [seqSet]
  | y :: ys, l, o, h => by
    rw [List.length_cons] at h
    rw [seqSet, seqSet_eq ys (l.set o y) (o + 1) (by rw [List.length_set]; omega), List.take_set, List.drop_set_of_lt (by omega), List.length_cons]
    rw [List.take_succ_eq_append_getElem (by omega), List.set_append_right _ _ (by rw [List.length_take]; omega), List.length_take, Nat.min_eq_left (by omega), Nat.sub_self, List.set_cons_zero, show o + 1 + ys.length = o + (ys.length + 1) from by omega]
    simp
theorem pcCells_set (ps : List (Ck × Value)) (k : Nat) (h : k < ps.length) (p : Ck × Value) : seqSet (ps.flatMap pcCells) (k * 8) (pcCells p) = (ps.set k p).flatMap pcCells := by
  have hl := pcCells_length ps
  rw [seqSet_eq _ _ _ (by rw [hl]; show k * 8 + 8 ≤ _; omega)]
  have e1 : (ps.flatMap pcCells).take (k * 8) = (ps.take k).flatMap pcCells := by
    conv => lhs; rw [← List.take_append_drop k ps, List.flatMap_append]
    rw [List.take_append_of_le_length (by rw [pcCells_length, List.length_take]; omega), List.take_of_length_le (by rw [pcCells_length, List.length_take]; omega)]
  have e2 : (ps.flatMap pcCells).drop (k * 8 + (pcCells p).length) = (ps.drop (k + 1)).flatMap pcCells := by
    conv => lhs; rw [← List.take_append_drop (k + 1) ps, List.flatMap_append]
    have : ((ps.take (k + 1)).flatMap pcCells).length = k * 8 + (pcCells p).length := by
      rw [pcCells_length, List.length_take]
      show min (k + 1) ps.length * 8 = k * 8 + 8
      omega
    rw [← this, List.drop_left]
  rw [e1, e2, List.set_eq_take_append_cons_drop, if_pos h, List.flatMap_append, List.flatMap_cons, List.append_assoc]

theorem OwnsP.at {B : Nat} {W : World} {g l cp : Nat} {ps : List (Ck × Value)} (h : OwnsP B W (.slice (some ⟨g, 0, none⟩) l cp) ps) {k : Nat} (hk : k < ps.length) :
    ∃ cur, W.heap[g]? = some (.cells cur 108 (0, 0)) ∧ ∀ j v, (pcCells ps[k])[j]? = some v → j < 8 → cur[k * 8 + j]? = some v := by
  rcases h.2 with ⟨e0, h0⟩ | ⟨g', cap, cur, e0, hb, hg, hc, hm, hs, ht⟩
  · cases e0
  · have e1 := e0
    simp only [Value.slice.injEq, Option.some.injEq, Addr.mk.injEq] at e1
    obtain ⟨⟨rfl, -, -⟩, -, -⟩ := e1
    refine ⟨cur, hg, fun j v hv hj => ?_⟩
    have h2 : (cur.toList.take (ps.length * 8))[k * 8 + j]? = some v := by
      rw [ht, pcCells_at ps k hk j hj, hv]
    rw [List.getElem?_take_of_lt (by omega)] at h2
    simpa using h2
theorem OwnsP.set {B : Nat} {W : World} {g l cp : Nat} {ps : List (Ck × Value)} (h : OwnsP B W (.slice (some ⟨g, 0, none⟩) l cp) ps) (k : Nat) (hk : k < ps.length) (p : Ck × Value) :
    OwnsP B ((((((((W.setCell ⟨g, k * 8, none⟩ (.int .i64 p.1.f)).setCell ⟨g, k * 8 + 1, none⟩ (.int .i64 p.1.t)).setCell ⟨g, k * 8 + 2, none⟩ (.int .i64 p.1.b)).setCell ⟨g, k * 8 + 3, none⟩ (.int .i64 p.1.z)).setCell ⟨g, k * 8 + 4, none⟩ (.int .i64 p.1.all)).setCell ⟨g, k * 8 + 5, none⟩ (.int .i64 p.1.nu)).setCell ⟨g, k * 8 + 6, none⟩ (.int .i64 p.1.many)).setCell ⟨g, k * 8 + 7, none⟩ p.2) (.slice (some ⟨g, 0, none⟩) l cp) (ps.set k p) := by
  rcases h.2 with ⟨e0, h0⟩ | ⟨g', cap, cur, e0, hb, hg, hc, hm, hs, ht⟩
  · cases e0
  · have e1 := e0
    simp only [Value.slice.injEq, Option.some.injEq, Addr.mk.injEq] at e1
    obtain ⟨⟨rfl, -, -⟩, -, -⟩ := e1
    refine ⟨pcCells_length _, .inr ⟨g, cap, _, by simpa using e0, hb, block_set (block_set (block_set (block_set (block_set (block_set (block_set (block_set hg _) _) _) _) _) _) _) _, by simpa using hc, hm, by simpa using hs, ?_⟩⟩
    rw [List.length_set, ← pcCells_set ps k hk p, ← ht]
    simp only [Array.toList_setIfInBounds]
    show _ = seqSet _ _ [_, _, _, _, _, _, _, _]
    simp only [seqSet, ← List.take_set]
end Go.Proofs.Ytdjmhagclcfnfaa
