/- JoinM, KPick, KMade, KText, KInts, KData, KMade2, PSplit1 -/
import Derived.Test.YtdjmhagclcfnfabGreatRWriteToRJoinM
import Derived.Test.YtdjmhagclcfnfabGreatPRead
import Derived.Deep.AppendLies
import Derived.Test.YtdjmhagclcfnfabGreatLOwn
import Derived.Deep.RegionLaw
import Derived.ChangeSlices
import Derived.Test.YtdjmhagclcfnfabGreatPFace
import Derived.Test.YtdjmhagclcfnfabGreatPWrite2
import Derived.Shelf.RegionOpen
/- Join, purely: the chunks sorted by their numbers. -/
namespace Go.Proofs.YtdjmhagclcfnfabGreat
open Go.RowKit Go.Shelf

theorem chunkR_nu (l : List UInt8) (c : Ck) (h : chunkR l = .inr c) : c.nu < c.many := by
  unfold chunkR at h
  split at h
  · cases h
  · split at h
    · cases h
    · rename_i hn
      split at h
      · cases h
      · split at h
        · cases h
        · simp only [Sum.inr.injEq] at h
          rw [← h]
          show num ((l.drop 18).take 2) < num ((l.drop 20).take 2)
          omega
theorem chunksOf_nu : ∀ (xs : List (List UInt8)) (cs : List Ck), chunksOf xs = .inr cs → ∀ c ∈ cs, c.nu < c.many
  | [], cs, h, c, hc => by
    simp only [chunksOf, Sum.inr.injEq] at h
    subst h
    simp at hc
  | x :: xs, cs, h, c, hc => by
    rw [chunksOf] at h
    cases hx : chunkR x with
    | inl k => rw [hx] at h; cases h
    | inr c0 =>
      rw [hx] at h
      simp only [] at h
      cases h2 : chunksOf xs with
      | inl k => rw [h2] at h; cases h
      | inr cs0 =>
        rw [h2] at h
        simp only [Sum.inr.injEq] at h
        subst h
        rcases List.mem_cons.1 hc with rfl | hc
        · exact chunkR_nu x _ hx
        · exact chunksOf_nu xs cs0 h2 c hc

/-- In ascending order and each number once: each stands at its number. -/
theorem asc_ge : ∀ (ds : List Ck) (s : Nat), ds.Pairwise (fun a b => a.nu < b.nu) → (∀ c ∈ ds, s ≤ c.nu) → ∀ (k : Nat) (c : Ck), ds[k]? = some c → s + k ≤ c.nu
  | [], _, _, _, k, c, h => by simp at h
  | d :: ds, s, hp, hs, 0, c, h => by
    simp only [List.getElem?_cons_zero, Option.some.injEq] at h
    subst h
    exact hs d (by simp)
  | d :: ds, s, hp, hs, k + 1, c, h => by
    rw [List.getElem?_cons_succ] at h
    rw [List.pairwise_cons] at hp
    have := asc_ge ds (s + 1) hp.2 (fun c hc => by have := hp.1 c hc; have := hs d (by simp); omega) k c h
    omega
theorem asc_le (ds : List Ck) (N : Nat) (hp : ds.Pairwise (fun a b => a.nu < b.nu)) (hN : ∀ c ∈ ds, c.nu < N) : ∀ (k : Nat) (c : Ck), ds[k]? = some c → c.nu + (ds.length - k) ≤ N := by
  induction ds with
  | nil => intro k c h; simp at h
  | cons d ds ih =>
    rw [List.pairwise_cons] at hp
    intro k c h
    cases k with
    | zero =>
      simp only [List.getElem?_cons_zero, Option.some.injEq] at h
      subst h
      cases ds with
      | nil => have := hN d (by simp); simp; omega
      | cons e es =>
        have h1 := ih hp.2 (fun c hc => hN c (by simp at hc ⊢; exact .inr hc)) 0 e rfl
        have h2 := hp.1 e (by simp)
        simp only [List.length_cons] at h1 ⊢
        omega
    | succ k =>
      rw [List.getElem?_cons_succ] at h
      have h1 := ih hp.2 (fun c hc => hN c (List.mem_cons_of_mem _ hc)) k c h
      simp only [List.length_cons]
      omega
theorem asc_at (ds : List Ck) (hp : ds.Pairwise (fun a b => a.nu < b.nu)) (hN : ∀ c ∈ ds, c.nu < ds.length) (k : Nat) (c : Ck) (h : ds[k]? = some c) : c.nu = k := by
  have h1 := asc_ge ds 0 hp (fun _ _ => Nat.zero_le _) k c h
  have h2 := asc_le ds ds.length hp hN k c h
  have h3 := (List.getElem?_eq_some_iff.1 h).1
  omega
theorem once_ne : ∀ (ds : List Ck), (∀ c ∈ ds, (ds.filter (fun x => x.nu == c.nu)).length ≤ 1) → ds.Pairwise (fun a b => a.nu ≠ b.nu)
  | [], _ => List.Pairwise.nil
  | d :: ds, h => by
    rw [List.pairwise_cons]
    refine ⟨fun e he hne => ?_, once_ne ds fun c hc => ?_⟩
    · have h1 := h d (by simp)
      rw [List.filter_cons, if_pos (by simp), List.length_cons] at h1
      have : e ∈ ds.filter (fun x => x.nu == d.nu) := List.mem_filter.2 ⟨he, by simp [hne]⟩
      have := List.length_pos_of_mem this
      omega
    · have h1 := h c (by simp [hc])
      rw [List.filter_cons] at h1
      split at h1
      · rw [List.length_cons] at h1; omega
      · exact h1
/-- Each at its number: of each number just that one. -/
theorem filter_at (ds : List Ck) (h : ∀ (k : Nat) (c : Ck), ds[k]? = some c → c.nu = k) (n : Nat) (c : Ck) (hc : ds[n]? = some c) : ds.filter (fun x => x.nu == n) = [c] := by
  obtain ⟨hn, rfl⟩ := List.getElem?_eq_some_iff.1 hc
  have e : ds = ds.take n ++ (ds[n] :: ds.drop (n + 1)) := by rw [← List.drop_eq_getElem_cons hn, List.take_append_drop]
  have h1 : (ds.take n).filter (fun x => x.nu == n) = [] := by
    rw [List.filter_eq_nil_iff]
    intro a ha
    obtain ⟨i, hi, rfl⟩ := List.mem_iff_getElem.1 ha
    rw [List.length_take] at hi
    have := h i _ (List.getElem?_eq_getElem (by omega : i < ds.length))
    rw [List.getElem_take]
    simp
    omega
  have h2 : (ds.drop (n + 1)).filter (fun x => x.nu == n) = [] := by
    rw [List.filter_eq_nil_iff]
    intro a ha
    obtain ⟨i, hi, rfl⟩ := List.mem_iff_getElem.1 ha
    rw [List.length_drop] at hi
    have := h (n + 1 + i) _ (List.getElem?_eq_getElem (by omega : n + 1 + i < ds.length))
    rw [List.getElem_drop]
    simp
    omega
  have h3 := h n _ (List.getElem?_eq_getElem hn)
  conv => lhs; rw [e]
  rw [List.filter_append, h1, List.nil_append, List.filter_cons, if_pos (by simp [h3]), h2]

/-- The sorted chunks are just those of one stream. -/
def wholeC (ds : List Ck) : Prop := ∀ (k : Nat) (c : Ck), ds[k]? = some c → (∃ a, ds[0]? = some a ∧ (c.f = a.f ∧ c.t = a.t ∧ c.b = a.b ∧ c.z = a.z ∧ c.all = a.all)) ∧ c.many = ds.length ∧ c.nu = k

theorem whole_gather {cs ds : List Ck} (hp : ds.Perm cs) (h : wholeC ds) (n : Nat) (c : Ck) (hc : ds[n]? = some c) : cs.filter (fun x => x.nu == n) = [c] := by
  have h1 := filter_at ds (fun k c hk => (h k c hk).2.2) n c hc
  have h2 := hp.filter (fun x => x.nu == n)
  rw [h1] at h2
  exact (List.perm_singleton.1 h2.symm)
theorem gather_all {cs ds : List Ck} (hp : ds.Perm cs) (h : wholeC ds) : gatherAll cs ds.length = ds.flatMap Ck.rs := by
  unfold gatherAll
  rw [List.flatMap_def, List.flatMap_def]
  congr 1
  apply List.ext_getElem
  · simp
  · intro i h1 h2
    rw [List.length_map] at h2
    rw [List.getElem_map, List.getElem_map, List.getElem_range]
    unfold gathered
    rw [whole_gather hp h i _ (List.getElem?_eq_getElem h2)]
    simp
theorem whole_ok {cs ds : List Ck} (a : Ck) (ha : a ∈ cs) (hp : ds.Perm cs) (h : wholeC ds) (hm : ∀ c, ds[0]? = some c → recsOk c.b c.z (-1) (ds.flatMap Ck.rs) = true ∧ (ds.flatMap Ck.rs).length = c.all) : joinOk a cs = true := by
  obtain ⟨i, hi, hia⟩ := List.mem_iff_getElem.1 (hp.mem_iff.2 ha)
  obtain ⟨⟨a0, h0, e1, e2, e3, e4, e5⟩, e6, e7⟩ := h i a (by rw [List.getElem?_eq_getElem hi, hia])
  have hl := hp.length_eq
  rw [joinOk_iff, e6, gather_all hp h, e3, e4, e5]
  refine ⟨hl.symm, fun c hc => ?_, fun n hn => ?_, (hm a0 h0).1, (hm a0 h0).2⟩
  · obtain ⟨j, hj, hjc⟩ := List.mem_iff_getElem.1 (hp.mem_iff.2 hc)
    obtain ⟨⟨a1, h1, d1, d2, d3, d4, d5⟩, d6, d7⟩ := h j c (by rw [List.getElem?_eq_getElem hj, hjc])
    rw [h0] at h1
    cases h1
    unfold sameHead
    exact decide_eq_true ⟨by omega, by omega, by omega, by omega, by omega, by omega⟩
  · rw [whole_gather hp h n _ (List.getElem?_eq_getElem hn)]
    rfl
theorem ok_whole {cs ds : List Ck} (a : Ck) (ha : a ∈ cs) (hp : ds.Perm cs) (hs : ds.Pairwise (fun a b => a.nu ≤ b.nu)) (hnu : ∀ c ∈ cs, c.nu < c.many) (hok : joinOk a cs = true) : wholeC ds ∧ ∃ c, ds[0]? = some c ∧ recsOk c.b c.z (-1) (ds.flatMap Ck.rs) = true ∧ (ds.flatMap Ck.rs).length = c.all := by
  obtain ⟨h1, h2, h3, h4, h5⟩ := (joinOk_iff a cs).1 hok
  have hl := hp.length_eq
  have hsame : ∀ c ∈ ds, c.f = a.f ∧ c.t = a.t ∧ c.b = a.b ∧ c.z = a.z ∧ c.all = a.all ∧ c.many = a.many := fun c hc => of_decide_eq_true (h2 c (hp.mem_iff.1 hc))
  have hlt : ∀ c ∈ ds, c.nu < ds.length := fun c hc => by
    have := hnu c (hp.mem_iff.1 hc)
    have := (hsame c hc).2.2.2.2.2
    omega
  have hne : ds.Pairwise (fun a b => a.nu ≠ b.nu) := once_ne ds fun c hc => by
    have := h3 c.nu (by have := hlt c hc; omega)
    rw [(hp.filter (fun x => x.nu == c.nu)).length_eq]
    omega
  have hasc : ds.Pairwise (fun a b => a.nu < b.nu) := (hs.and hne).imp (fun ⟨h, h'⟩ => by omega)
  have hat := asc_at ds hasc hlt
  have hpos : 0 < ds.length := by rw [hl]; exact List.length_pos_of_mem ha
  have hw : wholeC ds := fun k c hk => by
    have hc : c ∈ ds := List.mem_of_getElem? hk
    obtain ⟨c1, c2, c3, c4, c5, c6⟩ := hsame c hc
    obtain ⟨d1, d2, d3, d4, d5, d6⟩ := hsame ds[0] (List.getElem_mem hpos)
    exact ⟨⟨ds[0], List.getElem?_eq_getElem hpos, by omega, by omega, by omega, by omega, by omega⟩, by omega, hat k c hk⟩
  obtain ⟨d1, d2, d3, d4, d5, d6⟩ := hsame ds[0] (List.getElem_mem hpos)
  refine ⟨hw, ds[0], List.getElem?_eq_getElem hpos, ?_, ?_⟩
  · rw [d3, d4, ← gather_all hp hw, hl, h1]
    exact h4
  · rw [d5, ← gather_all hp hw, hl, h1]
    exact h5
theorem join_good {cs ds : List Ck} (hp : ds.Perm cs) (h : wholeC ds) (d : Ck) (hd : ds[0]? = some d) (h1 : recsOk d.b d.z (-1) (ds.flatMap Ck.rs) = true) (h2 : (ds.flatMap Ck.rs).length = d.all) : joinC (.inr cs) = .inr (d.f, d.t, d.b, d.z, ds.flatMap Ck.rs) := by
  have hpos : 0 < ds.length := (List.getElem?_eq_some_iff.1 hd).1
  cases cs with
  | nil => have := hp.length_eq; rw [List.length_nil] at this; omega
  | cons a cs =>
    have hok : joinOk a (a :: cs) = true := whole_ok a (by simp) hp h (fun c hc => by rw [hd] at hc; cases hc; exact ⟨h1, h2⟩)
    obtain ⟨i, hi, hia⟩ := List.mem_iff_getElem.1 (hp.mem_iff.2 (by simp : a ∈ a :: cs))
    obtain ⟨⟨a0, h0, e1, e2, e3, e4, e5⟩, e6, e7⟩ := h i a (by rw [List.getElem?_eq_getElem hi, hia])
    rw [hd] at h0
    cases h0
    show (if joinOk a (a :: cs) = true then _ else _) = _
    rw [if_pos hok, e6, gather_all hp h, e1, e2, e3, e4]
theorem join_bad {cs ds : List Ck} (hp : ds.Perm cs) (hs : ds.Pairwise (fun a b => a.nu ≤ b.nu)) (hnu : ∀ c ∈ cs, c.nu < c.many) (h1 : 1 ≤ cs.length) (h : ¬ (wholeC ds ∧ ∃ c, ds[0]? = some c ∧ recsOk c.b c.z (-1) (ds.flatMap Ck.rs) = true ∧ (ds.flatMap Ck.rs).length = c.all)) : joinC (.inr cs) = .inl 13 := by
  cases cs with
  | nil => simp at h1
  | cons a cs =>
    show (if joinOk a (a :: cs) = true then _ else _) = _
    rw [if_neg (fun hok => h (ok_whole a (by simp) hp hs hnu hok))]
end Go.Proofs.YtdjmhagclcfnfabGreat
/- strandkeep's pick, nth and shape. -/
namespace Go.Proofs.YtdjmhagclcfnfabGreat
open Go.RowKit

/-- An int as there are. -/
def I64 (c : Int) : Prop := -9223372036854775808 ≤ c ∧ c ≤ 9223372036854775807
/-- Which of n things. -/
def pickN (c : Int) (n : Nat) : Nat := (if c < 0 then (-(c + 1)) else c).toNat % n

theorem pickN_lt (c : Int) (n : Nat) (hn : 0 < n) : pickN c n < n := Nat.mod_lt _ hn

set_option maxRecDepth 100000 in
theorem pick_any (c : Int) (n : Nat) (w : World) (hc : I64 c) (h0 : 0 < n) (hn : n ≤ 2147483647) :
    Calls Tryz.prog 7 #[.int .i64 c, .int .i64 n] w fun e w' => e = .returned (.int .i64 (pickN c n : Nat)) ∧ w' = w := by
  obtain ⟨hc1, hc2⟩ := hc
  go_enter Tryz.func7, Tryz.ntmps7
  by_cases hlt : c < 0
  · obtain ⟨m, rfl⟩ : ∃ m : Nat, c = -(m : Int) - 1 := ⟨(-(c + 1)).toNat, by omega⟩
    have e : (pickN (-(m : Int) - 1) n : Int) = (m : Int) % n := by
      unfold pickN
      rw [if_pos hlt, Int.natCast_emod]
      congr 1
      omega
    rw [e]
    go_wp2
    go_ret
    exact ⟨rfl, rfl⟩
  · obtain ⟨m, rfl⟩ := Int.eq_ofNat_of_zero_le (show 0 ≤ c by omega)
    have e : (pickN (m : Int) n : Int) = (m : Int) % n := by
      unfold pickN
      rw [if_neg hlt, Int.natCast_emod]
      rfl
    rw [e]
    go_wp2
    go_ret
    exact ⟨rfl, rfl⟩

/-- A list of ints that lies below B. -/
def Ints (B : Nat) (W : World) (v : Value) (xs : List Int) : Prop :=
  (xs = [] ∧ ∃ a cap, v = .slice a 0 cap) ∨ ∃ b o cap, v = .slice (some ⟨b, o, none⟩) xs.length cap ∧ b < B ∧ ∀ j (h : j < xs.length), W.cell? ⟨b, o + j, none⟩ = some (.int .i64 xs[j])
theorem Ints.below {B : Nat} {W W' : World} {v : Value} {xs : List Int} (h : Ints B W v xs) (hb : Below B W W') : Ints B W' v xs := by
  rcases h with h | ⟨b, o, cap, e, hlt, hc⟩
  · exact .inl h
  · exact .inr ⟨b, o, cap, e, hlt, fun j hj => (hb.cell (p := ⟨b, o + j, none⟩) hlt).trans (hc j hj)⟩
theorem Ints.slice {B : Nat} {W : World} {v : Value} {xs : List Int} (h : Ints B W v xs) : ∃ a cap, v = .slice a xs.length cap := by
  rcases h with ⟨rfl, a, cap, e⟩ | ⟨b, o, cap, e, _⟩
  · exact ⟨a, cap, e⟩
  · exact ⟨_, cap, e⟩

set_option maxRecDepth 100000 in
theorem nth_any (B : Nat) (v : Value) (xs : List Int) (i : Nat) (w : World) (h : Ints B w v xs) (_hi : i ≤ 1000) (hl : xs.length ≤ 9223372036854775807) :
    Calls Tryz.prog 9 #[v, .int .i64 i] w fun e w' => e = .returned (.int .i64 (xs.getD i 0)) ∧ w' = w := by
  obtain ⟨a, cap, rfl⟩ := h.slice
  go_enter Tryz.func9, Tryz.ntmps9
  by_cases hlt : i < xs.length
  · obtain ⟨b, o, rfl, hc⟩ : ∃ b o, a = some ⟨b, o, none⟩ ∧ w.cell? ⟨b, o + i, none⟩ = some (.int .i64 xs[i]) := by
      rcases h with ⟨rfl, _⟩ | ⟨b, o, cap', e, _, hc⟩
      · simp at hlt
      · simp only [Value.slice.injEq] at e
        exact ⟨b, o, e.1, hc i hlt⟩
    rw [List.getD_eq_getElem?_getD, List.getElem?_eq_getElem hlt, Option.getD_some]
    clear h
    go_wp2
    go_ret
    exact ⟨rfl, rfl⟩
  · rw [List.getD_eq_getElem?_getD, List.getElem?_eq_none (by omega), Option.getD_none]
    clear h
    go_wp2
    go_ret
    exact ⟨rfl, rfl⟩

theorem pick_at (c n : Int) (m : Nat) (w : World) (hc : I64 c) (e : n = m) (h0 : 0 < m) (hn : m ≤ 2147483647) :
    Calls Tryz.prog 7 #[.int .i64 c, .int .i64 n] w fun e w' => e = .returned (.int .i64 (pickN c m : Nat)) ∧ w' = w := by
  subst e
  exact pick_any c m w hc h0 hn

set_option maxRecDepth 100000 in
set_option maxHeartbeats 1000000 in
theorem shape_any (x y : Int) (w : World) (hx : I64 x) (hy : I64 y) :
    Calls Tryz.prog 4 #[.int .i64 x, .int .i64 y] w fun e w' => e = .returned (.tuple #[.int .i64 (pickN x 100 + 1 : Nat), .int .i64 (pickN y 64 + 1 : Nat)]) ∧ w' = w := by
  have H1 : Hid (∀ u : Unit, Calls Tryz.prog 7 #[.int .i64 x, .int .i64 100] w fun e w' => e = .returned (.int .i64 (pickN x 100 : Nat)) ∧ w' = w) := fun _ => pick_at x 100 100 w hx rfl (by omega) (by omega)
  have H2 : Hid (∀ u : Unit, Calls Tryz.prog 7 #[.int .i64 y, .int .i64 64] w fun e w' => e = .returned (.int .i64 (pickN y 64 : Nat)) ∧ w' = w) := fun _ => pick_at y 64 64 w hy rfl (by omega) (by omega)
  have h1 := pickN_lt x 100 (by omega)
  have h2 := pickN_lt y 64 (by omega)
  generalize pickN x 100 = n1 at *
  generalize pickN y 64 = n2 at *
  go_enter Tryz.func4, Tryz.ntmps4
  go_wp2_with fail
  go_at_call 7
  refine (H1.out ()).mono ?_
  rintro _ _ ⟨rfl, rfl⟩
  go_wp2_with fail
  go_at_call 7
  refine (H2.out ()).mono ?_
  rintro _ _ ⟨rfl, rfl⟩
  go_wp2
  refine bodyPost_ret (results_tmp2 rfl _ _ _) rfl ?_
  refine ⟨?_, rfl⟩
  simp
  omega

set_option maxRecDepth 100000 in
set_option maxHeartbeats 1000000 in
theorem data_any (c : Int) (z : Nat) (w : World) (hc : -4611686018427387904 ≤ c ∧ c ≤ 4611686018427387904) (hz : z ≤ 64) :
    Calls Tryz.prog 11 #[.int .i64 c, .int .i64 z] w fun e w' => ∃ bs : List UInt8, bs.length = z ∧ e = .returned (.string ⟨bs.toArray⟩) ∧ w.grownBy w' none := by
  obtain ⟨hc1, hc2⟩ := hc
  go_enter Tryz.func11, Tryz.ntmps11
  go_wp2
  go_loopw [5, 6] (fun b i wr => ∃ (k : Nat) (bs : List UInt8), k ≤ z ∧ i = .int .i64 k ∧ bs.length = k ∧ OwnsB w.heap.size wr b bs ∧ w.grownBy wr none) (fun _ i _ => z - (intOf i).toNat)
  case atStart => exact ⟨0, [], Nat.zero_le _, rfl, rfl, World.ownsRow_nil _ _ _ _, drew_grown w 0 _⟩
  case round =>
    obtain ⟨k, bs, hk, rfl, hbl, hown, hg⟩ := hrel
    by_cases hlt : k < z
    · have H1 : Hid (∀ W, _) := fun W => pick_at (c + k) 26 26 W ⟨by omega, by omega⟩ rfl (by omega) (by omega)
      have h1 := pickN_lt (c + k) 26 (by omega)
      have HR : Hid (∀ x : Int, x = ((97 + pickN (c + k) 26 : Nat) : Int) → ∀ v' w1, w1.ownsRow w.heap.size 5 1 v' (bs.length + 1) (byteVals bs ++ [.int .u8 x]) → OwnsB w.heap.size w1 v' (bs ++ [UInt8.ofNat (97 + pickN (c + k) 26)])) := by
        intro x hx v' w1 ho
        unfold OwnsB
        rw [byteVals_append, List.length_append]
        rw [hx] at ho
        have e : ((UInt8.ofNat (97 + pickN (c + k) 26)).toNat : Int) = ((97 + pickN (c + k) 26 : Nat) : Int) := by
          rw [UInt8.toNat_ofNat']
          omega
        unfold byteVals at *
        rw [List.map_cons, List.map_nil, e]
        exact ho
      have HO : Hid (wr.ownsRow w.heap.size 5 1 _ bs.length (byteVals bs)) := hown
      have HG : Hid _ := hg
      have hsz : w.heap.size ≤ wr.heap.size := hg.size
      clear hown hg
      generalize pickN (c + k) 26 = n1 at *
      obtain ⟨i0, hi, hz0, hz1, hz2⟩ := info_parts Tryz.infoU8
      go_wp2_with (first
        | (go_at_call 7; refine (H1.out _).mono ?_; rintro _ _ ⟨rfl, rfl⟩)
        | (at_builtin; refine wpList_append_own_at _ rfl _ _ 63 rfl w.heap.size 5 i0 (.int .u8 0) 1 1 Tryz.underlying63 hi hz0 hz1 hz2 rfl (by decide) _ _ _ rfl (HO.out.alloc _) ⟨_, 0, none⟩ 1 1 [_] rfl rfl (cell_one_new _ _ _) (by intro u hu; simp at hu; subst hu; rfl) (by unfold maxLen; omega) (by omega) (by simp; omega) ?_; intro v' w1 hown' hgrow _ hat))
      refine ⟨⟨k + 1, _, by omega, by go_num, by simp; omega, HR.out _ (by go_num) _ _ hown', ?_⟩, by simp [intOf]; omega⟩
      have g1 := Grew.of_alloc hgrow hat
      exact ⟨g1.by_.os.trans HG.out.os, g1.by_.tape.trans HG.out.tape, g1.by_.output.trans HG.out.output, Nat.le_trans HG.out.size g1.by_.size, fun j hj hne => (g1.by_.block j (Nat.lt_of_lt_of_le hj HG.out.size) (fun e => by have := OwnsB.base (l := bs) HO.out j e.symm; omega)).trans (HG.out.block j hj hne)⟩
    · have HC := conv_own hown
      obtain rfl : k = z := by omega
      go_wp2
      go_ret
      exact ⟨bs, hbl, rfl, hg⟩
end Go.Proofs.YtdjmhagclcfnfabGreat
/- strandkeep's made and text. -/
namespace Go.Proofs.YtdjmhagclcfnfabGreat
open Go.RowKit Go.Shelf

/-- 'append(l, r)' at a step of a region that draws its order. -/
theorem step_rec {w : World} {ops : Array Oper} {o : Oper} {a : Act} {K : Act → World → Prop} {Q : Exit → Act → World → Prop} {E : Prop} (hgd : o.guard = none) (sl x : Operand)
    (ho : o.op = .call { callee := .builtin .append, args := #[sl, x], argTypes := #[25, 25] })
    (B : Nat) (v : Value) (rs : List Rc) (r : Rc) (nb : Nat) (hs : a.eval sl = v) (hown : OwnsR B w v rs) (hx : a.eval x = .slice (some ⟨nb, 0, none⟩) 1 1)
    (hc : ∀ j u, [Value.bool r.free, .int .i64 r.block, .string r.data][j]? = some u → w.cell? (Addr.add ⟨nb, 0, none⟩ j) = some u) (hl : rs.length ≤ 2000) (hB : B ≤ w.heap.size)
    (h : ∀ v' w', OwnsR B w' v' (rs ++ [r]) → w.grownBy w' v.ownBlock → K (a.put o.dst v') w') :
    if Region.wanted o (yielded ops a.tmps) = true then Oper.wp Tryz.prog o a w K Q else E := by
  obtain ⟨i0, hi, hz0, hz1, hz2⟩ := info_parts Tryz.infoRec
  have hml : rs.length + 1 ≤ maxLen := Nat.le_trans (show rs.length + 1 ≤ 2001 by omega) (by decide)
  refine step_append_lies w hgd sl x 25 ho B 40 i0 _ 3 32 Tryz.underlying25 hi hz0 hz1 hz2 rfl (by decide) v rs.length (recVals rs) hs hown ⟨nb, 0, none⟩ 1 1 _ hx rfl hc (by simp [Value.oneCell']) (by decide) hml (by omega) hB w.heap.size rfl ?_
  intro g cap w1 ho1 hg _ _
  exact h _ w1 (ownsR_snoc ho1) hg

theorem made_step {w wr w3 : World} {v0 v1 v2 v3 sv v' : Value} {rs rs' : List Rc} {cs : Array Value}
    (h0 : wr.heap[w.heap.size]? = some (.cells cs 27 (0, 0))) (h1 : wr.heap[w.heap.size + 1]? = some (.cells #[v0, v1, v2, v3, sv] 27 (0, 0))) (ho : OwnsR (w.heap.size + 2) wr sv rs) (hw : w.grownBy wr none)
    (hg : wr.grownBy w3 sv.ownBlock) (ho' : OwnsR (w.heap.size + 2) w3 v' rs') :
    (w3.setCell ⟨w.heap.size + 1, 4, none⟩ v').heap[w.heap.size]? = some (.cells cs 27 (0, 0)) ∧ (w3.setCell ⟨w.heap.size + 1, 4, none⟩ v').heap[w.heap.size + 1]? = some (.cells #[v0, v1, v2, v3, v'] 27 (0, 0)) ∧ OwnsR (w.heap.size + 2) (w3.setCell ⟨w.heap.size + 1, 4, none⟩ v') v' rs' ∧ w.grownBy (w3.setCell ⟨w.heap.size + 1, 4, none⟩ v') none := by
  have hge := ho.own_ge
  have hn : ∀ k, k < w.heap.size + 2 → some k ≠ sv.ownBlock := fun k hk e => by have := hge k e.symm; omega
  have l0 := (Array.getElem?_eq_some_iff.1 h0).1
  have l1 := (Array.getElem?_eq_some_iff.1 h1).1
  have b0 := (hg.block w.heap.size l0 (hn _ (by omega))).trans h0
  have b1 := (hg.block (w.heap.size + 1) l1 (hn _ (by omega))).trans h1
  refine ⟨?_, ?_, ho'.set (by omega), ?_⟩
  · exact (Below.heap_setCell _ _ _ _ (by show w.heap.size ≠ w.heap.size + 1; omega)).trans b0
  · exact block_set (i := 4) b1 v'
  · have g3 : w.grownBy w3 none := ⟨hg.os.trans hw.os, hg.tape.trans hw.tape, hg.output.trans hw.output, Nat.le_trans hw.size hg.size, fun j hj hne => (hg.block j (Nat.lt_of_lt_of_le hj hw.size) (hn _ (by omega))).trans (hw.block j hj hne)⟩
    exact gfresh g3 (by omega)

theorem made_kept {W w2 w3 : World} {B k : Nat} {sv : Value} {rs : List Rc} {o : Obj} (h : W.heap[k]? = some o) (hk : k < B) (ho : OwnsR B W sv rs) (h2 : W.grownBy w2 none) (hg : w2.grownBy w3 sv.ownBlock) : w3.heap[k]? = some o := by
  have hl := (Array.getElem?_eq_some_iff.1 h).1
  refine (hg.block k (Nat.lt_of_lt_of_le hl h2.size) (fun e => ?_)).trans ((h2.block k hl (by simp)).trans h)
  have := ho.own_ge k e.symm
  omega
theorem gwiden {A B C : World} {r : Option Nat} (h : A.grownBy B none) (k : B.grownBy C r) : A.grownBy C r :=
  ⟨k.os.trans h.os, k.tape.trans h.tape, k.output.trans h.output, Nat.le_trans h.size k.size, fun j hj hne => (k.block j (Nat.lt_of_lt_of_le hj h.size) hne).trans (h.block j hj (by simp))⟩

theorem quo4 (c : Int) (h1 : -9223372036854775808 ≤ c) (h2 : c ≤ 9223372036854775807) : -4611686018427387904 ≤ IntKind.i64.wrap (c.tdiv 4) ∧ IntKind.i64.wrap (c.tdiv 4) ≤ 4611686018427387904 := by
  rw [IntKind.wrap_i64]
  have : -2305843009213693952 ≤ c.tdiv 4 ∧ c.tdiv 4 ≤ 2305843009213693952 := by
    rcases Int.le_total 0 c with h | h
    · rw [Int.tdiv_eq_ediv_of_nonneg h]
      omega
    · have e : c.tdiv 4 = -((-c) / 4) := by
        conv => lhs; rw [show c = -(-c) by omega]
        rw [Int.neg_tdiv, Int.tdiv_eq_ediv_of_nonneg (by omega)]
      rw [e]
      omega
  omega
theorem keepM {wr W W' : World} {k : Nat} {v : Value} {r : Option Nat} (HM : ∀ W', wr.grownBy W' r → W'.cell? ⟨k, 4, none⟩ = some v ∧ W'.frozen? ⟨k, 4, none⟩ = false) (hS : W.cell? ⟨k, 4, none⟩ = some v ∧ W.frozen? ⟨k, 4, none⟩ = false ∧ wr.grownBy W r) (hg : W.grownBy W' r) :
    W'.cell? ⟨k, 4, none⟩ = some v ∧ W'.frozen? ⟨k, 4, none⟩ = false ∧ wr.grownBy W' r :=
  have h := gtrans hS.2.2 hg
  ⟨(HM W' h).1, (HM W' h).2, h⟩

set_option maxRecDepth 100000 in
set_option maxHeartbeats 4000000 in
theorem made_any (f t : Int) (n z : Nat) (v : Value) (xs : List Int) (wh : Bool) (w : World) (hv : Ints w.heap.size w v xs) (hxs : ∀ x ∈ xs, I64 x) (hxl : xs.length ≤ 9223372036854775807) (hn : n ≤ 100) (hz : z ≤ 64) :
    Calls Tryz.prog 5 #[.int .i64 f, .int .i64 t, .int .i64 n, .int .i64 z, v, .bool wh] w fun e w' => ∃ sv rs, e = .returned (.agg #[.int .i64 f, .int .i64 t, .int .i64 n, .int .i64 z, sv]) ∧ recsOk n z (-1) rs = true ∧ (wh = true → ∀ r ∈ rs, r.free = false) ∧ OwnsR w.heap.size w' sv rs ∧ w.grownBy w' none := by
  obtain ⟨a, cap, rfl⟩ := hv.slice
  have HV : Hid (∀ W, w.grownBy W none → Ints w.heap.size W (.slice a xs.length cap) xs) := fun W hW => hv.below ⟨hW.os, hW.tape, hW.output, hW.size, fun k hk => hW.block k hk (by simp)⟩
  have HX : Hid (∀ k, I64 (xs.getD k 0)) := by
    intro k
    rw [List.getD_eq_getElem?_getD]
    by_cases hk : k < xs.length
    · rw [List.getElem?_eq_getElem hk, Option.getD_some]
      exact hxs _ (List.getElem_mem hk)
    · rw [List.getElem?_eq_none (by omega), Option.getD_none]
      exact ⟨by omega, by omega⟩
  clear hv hxs
  go_enter Tryz.func5, Tryz.ntmps5
  go_wp2
  go_loopw [14] (fun b wr => ∃ (k : Nat) (sv : Value) (rs : List Rc), k ≤ n ∧ b = .int .i64 k ∧ wr.heap[w.heap.size]? = some (.cells #[.int .i64 0, .int .i64 0, .int .i64 0, .int .i64 0, .slice none 0 0] 27 (0, 0)) ∧ wr.heap[w.heap.size + 1]? = some (.cells #[.int .i64 f, .int .i64 t, .int .i64 n, .int .i64 z, sv] 27 (0, 0)) ∧ OwnsR (w.heap.size + 2) wr sv rs ∧ recsOk n z (-1) rs = true ∧ lastOf (-1) rs < k ∧ (wh = true → ∀ r ∈ rs, r.free = false) ∧ w.grownBy wr none) (fun b _ => n - (intOf b).toNat)
  case atStart =>
    obtain ⟨h1, h2, hB⟩ := two_boxes w #[.int .i64 0, .int .i64 0, .int .i64 0, .int .i64 0, .slice none 0 0] #[.int .i64 f, .int .i64 t, .int .i64 n, .int .i64 z, .slice none 0 0] 27
    exact ⟨0, _, [], Nat.zero_le _, rfl, h1, h2, World.ownsRow_nil _ _ _ _, rfl, by simp [lastOf], (fun _ r hr => by cases hr), gbelow hB⟩
  case round =>
    obtain ⟨k, sv, rs, hk, rfl, h0, h1, ho, hok, hla, hfr, hg⟩ := hrel
    obtain ⟨sa, sl, sc, rfl⟩ := ho.slice
    by_cases hlt : k < n
    · have HI := HX.out k
      have HN : Hid (∀ u : Unit, _) := fun _ => nth_any w.heap.size _ xs k wr (HV.out _ hg) (by omega) hxl
      generalize xs.getD k 0 = c at *
      have HP : Hid (∀ u : Unit, _) := fun _ => pick_at c 4 4 wr HI rfl (by omega) (by omega)
      have hp := pickN_lt c 4 (by omega)
      generalize pickN c 4 = p at *
      have hrl := recsOk_length n z rs hok (by omega)
      obtain ⟨c0, c1, c2, c3, c4, f0, f1, f2, f3, f4⟩ := box5 h1
      have H0 : Hid _ := h0
      have H1 : Hid _ := h1
      have HO : Hid _ := ho
      have HG : Hid _ := hg
      have HK : Hid (∀ fr d, (d.size : Int) = (if fr then 0 else (z : Int)) → (wh = true → fr = false) → recsOk n z (-1) (rs ++ [⟨fr, (k : Int), d⟩]) = true ∧ lastOf (-1) (rs ++ [⟨fr, (k : Int), d⟩]) < ((k + 1 : Nat) : Int) ∧ (wh = true → ∀ r ∈ rs ++ [⟨fr, (k : Int), d⟩], r.free = false)) := by
        intro fr d hd hf
        refine ⟨?_, ?_, ?_⟩
        · rw [recsOk_append, hok, Bool.true_and, recsOk, Bool.and_eq_true]
          exact ⟨decide_eq_true ⟨hla, by simp only; omega, hd⟩, rfl⟩
        · rw [lastOf_snoc]
          simp only
          omega
        · intro hw r hr
          rcases List.mem_append.1 hr with h | h
          · exact hfr hw r h
          · rw [List.mem_singleton.1 h]
            exact hf hw
      clear h0 h1 ho hg
      go_wp2_with fail
      go_at_call 9
      refine (HN.out ()).mono ?_
      rintro _ w1 ⟨rfl, rfl⟩
      go_wp2_with fail
      go_at_call 7
      refine (HP.out ()).mono ?_
      rintro _ wr ⟨rfl, rfl⟩
      clear HP HN
      have hz2 : w.heap.size + 1 < wr.heap.size := (Array.getElem?_eq_some_iff.1 H1.out).1
      obtain rfl | rfl | h23 : p = 0 ∨ p = 1 ∨ (p = 2 ∨ p = 3) := by omega
      · go_wp2
        exact ⟨⟨k + 1, _, rs, by omega, by go_num, H0.out, H1.out, HO.out, hok, by omega, hfr, HG.out⟩, by simp [intOf]; omega⟩
      · cases wh
        · go_wp2_with (at_builtin; refine wpList_append_rec _ rfl _ _ rfl (w.heap.size + 2) _ rs rfl (OwnsR.alloc HO.out _) ⟨_, 0, none⟩ ⟨true, k, ⟨#[]⟩⟩ rfl (cells_new2 _ _ _ _ (by simp)) (by omega) (by simp; omega) ?_; intro v' w3 hO3 hg3 _ _; obtain ⟨a3, l3, c3', rfl⟩ := hO3.slice; have G3 : Hid _ := hg3; have O3 : Hid _ := hO3; obtain ⟨-, -, -, -, d4, -, -, -, -, z4⟩ := box5 (made_kept H1.out (by omega) HO.out (World.grownBy_alloc _ _ none) hg3); clear hg3 hO3)
          obtain ⟨p0, p1, p2, p3⟩ := made_step H0.out H1.out HO.out HG.out (gwiden (World.grownBy_alloc _ _ none) G3.out) O3.out
          obtain ⟨q0, q1, q2⟩ := HK.out true ⟨#[]⟩ rfl (fun h => by cases h)
          exact ⟨⟨k + 1, _, _, by omega, by go_num, p0, p1, p2, q0, q1, q2, p3⟩, by simp [intOf]; omega⟩
        · go_wp2
          exact ⟨⟨k + 1, _, rs, by omega, by go_num, H0.out, H1.out, HO.out, hok, by omega, hfr, HG.out⟩, by simp [intOf]; omega⟩
      · have HD : Hid (∀ c', -4611686018427387904 ≤ c' ∧ c' ≤ 4611686018427387904 → ∀ W, _) := fun c' hc' W => data_any c' z W hc' hz
        have HM : Hid (∀ W', wr.drew.grownBy W' (Value.slice sa sl sc).ownBlock → W'.cell? ⟨w.heap.size + 1, 4, none⟩ = some (.slice sa sl sc) ∧ W'.frozen? ⟨w.heap.size + 1, 4, none⟩ = false) := by
          intro W' hW'
          have hb := made_kept H1.out (by omega) HO.out (w2 := wr.drew) ⟨rfl, rfl, rfl, Nat.le_refl _, fun _ _ _ => rfl⟩ hW'
          obtain ⟨-, -, -, -, d4, -, -, -, -, z4⟩ := box5 hb
          exact ⟨d4, z4⟩
        have HB2 : Hid (∀ W' o, wr.drew.grownBy W' none → w.heap.size + 2 ≤ (World.alloc W' o).heap.size) := fun W' o hW' => by
          have h1 : wr.heap.size ≤ W'.heap.size := hW'.size
          simp
          omega
        have HO2 : Hid (∀ W' o, wr.drew.grownBy W' none → OwnsR (w.heap.size + 2) (World.alloc W' o) (.slice sa sl sc) rs) := fun W' o hW' => OwnsR.alloc (OwnsR.kept (W := wr.drew) HO.out hW') o
        have HC2 : Hid (∀ (W : World) (d : ByteArray) j u, [Value.bool false, .int .i64 k, .string d][j]? = some u → (W.alloc (.cells #[.bool false, .int .i64 k, .string d] 40)).cell? (Addr.add ⟨W.heap.size, 0, none⟩ j) = some u) := fun W d => cells_new2 W [.bool false, .int .i64 k, .string d] 40 _ rfl
        have hr2 : rs.length ≤ 2000 := by omega
        have HW : Hid (wr.grownBy wr.drew none) := ⟨rfl, rfl, rfl, Nat.le_refl _, fun _ _ _ => rfl⟩
        obtain ⟨hi1, hi2⟩ := HI
        have HQ : -4611686018427387904 ≤ IntKind.i64.wrap (c.tdiv 4) ∧ IntKind.i64.wrap (c.tdiv 4) ≤ 4611686018427387904 := quo4 c hi1 hi2
        rcases h23 with rfl | rfl
        all_goals
          go_wp2_with fail
          go_region_law (first | (refine step_rec ?_ (.tmp 46) (.tmp 53) ?_ (w.heap.size + 2) (.slice sa sl sc) rs ⟨false, k, ⟨bs.toArray⟩⟩ w2.heap.size ?_ ?_ ?_ ?_ ?_ ?_ ?_; rfl; rfl; rfl; exact HO2.out _ _ G2.out; rfl; exact HC2.out _ _; exact hr2; exact HB2.out _ _ G2.out; intro v' w3 hO3 hg3; obtain ⟨a3, l3, c3', rfl⟩ := hO3.slice; have O3 : Hid _ := hO3; have G3 : Hid _ := hg3; obtain ⟨e4, y4⟩ := HM.out _ (gwiden (gtrans G2.out (World.grownBy_alloc _ _ none)) hg3); clear hO3 hg3) | (go_simp; go_at_call 11; refine (HD.out _ HQ _).mono ?_; rintro e w2 ⟨bs, hbs, rfl, hg2⟩; have G2 : Hid _ := hg2; obtain ⟨d4, z4⟩ := HM.out _ (gnone hg2); have hl2 : w.heap.size + 1 < w2.heap.size := Nat.lt_of_lt_of_le hz2 hg2.size; clear hg2; dsimp only))
          all_goals
            go_wp2
            obtain ⟨p0, p1, p2, p3⟩ := made_step H0.out H1.out HO.out HG.out (gwiden HW.out (gwiden (gtrans G2.out (World.grownBy_alloc _ _ none)) G3.out)) O3.out
            obtain ⟨q0, q1, q2⟩ := HK.out false ⟨bs.toArray⟩ (by simp [ByteArray.size, hbs]) (fun _ => rfl)
            exact ⟨⟨k + 1, _, _, by omega, by go_num, p0, p1, p2, q0, q1, q2, p3⟩, by simp [intOf]; omega⟩
    · obtain rfl : k = n := by omega
      obtain ⟨c0, c1, c2, c3, c4, f0, f1, f2, f3, f4⟩ := box5 h1
      obtain ⟨d0, d1, d2, d3, d4, g0, g1, g2, g3, g4⟩ := box5 h0
      have hz1 : w.heap.size < wr.heap.size := (Array.getElem?_eq_some_iff.1 h0).1
      have HO : Hid _ := ho
      have HG : Hid _ := hg
      clear h0 h1 ho hg
      go_wp2
      refine bodyPost_ret (v := .agg #[.int .i64 f, .int .i64 t, .int .i64 k,   .int .i64 z, .slice sa sl sc]) (by simp [results, Tryz.results5, go_sem, d0, d1, d2, d3, d4]) rfl ?_
      exact ⟨_, rs, rfl, hok, hfr, OwnsR.base (OwnsR.set (OwnsR.set (OwnsR.set (OwnsR.set (OwnsR.set HO.out (by omega)) (by omega)) (by omega)) (by omega)) (by omega)) (by omega), gfresh (gfresh (gfresh (gfresh (gfresh HG.out (by omega)) (by omega)) (by omega)) (by omega)) (by omega)⟩
end Go.Proofs.YtdjmhagclcfnfabGreat
/- strandkeep's text. -/
namespace Go.Proofs.YtdjmhagclcfnfabGreat
open Go.RowKit Go.Shelf

theorem serB_length (f t b z : Nat) (rs : List Rc) : (serB f t b z rs).length = 22 + (recsB rs).length := by
  simp [serB, aheadB, headB_length, lowB_length]
  omega
theorem serB_small (f t b z : Nat) (rs : List Rc) (hb : b ≤ 100) (hz : z ≤ 64) (ho : recsOk b z (-1) rs = true) : 22 ≤ (serB f t b z rs).length ∧ (serB f t b z rs).length ≤ 10000 := by
  have h1 := recsB_length b z (by omega) rs (-1) ho
  have h2 := recsOk_length b z rs ho (by omega)
  rw [serB_length]
  omega

set_option maxRecDepth 100000 in
set_option maxHeartbeats 1000000 in
theorem text_good (f t b z : Nat) (sv : Value) (rs : List Rc) (w : World) (hR : Recs w.heap.size w sv rs) (hw : wellHead f t b z = true) (ho : recsOk b z (-1) rs = true) :
    Calls Tryz.prog 6 #[.agg #[.int .i64 f, .int .i64 t, .int .i64 b, .int .i64 z, sv]] w fun e w' => e = .returned (.string ⟨(serB f t b z rs).toArray⟩) ∧ w.grownBy w' none := by
  obtain ⟨a, c, rfl⟩ := hR.slice
  have HS : Hid (∀ W, Below w.heap.size w W → _) := fun W hb => pser_good f t b z (.slice a rs.length c) rs W (hR.moved hb) hw ho
  clear hR hw ho
  generalize serB f t b z rs = L at *
  go_enter Tryz.func6, Tryz.ntmps6
  go_wp2_with fail
  refine (HS.out _ ((Below.refl _ _).alloc (Nat.le_refl _) _)).mono ?_
  rintro e w3 ⟨rfl, hb3⟩
  have G3 : Hid _ := hb3
  clear hb3
  go_wp2
  go_ret
  exact ⟨rfl, gtrans (galloc _ _ _) (gbelow G3.out)⟩
end Go.Proofs.YtdjmhagclcfnfabGreat
/- Lists of ints and ints, opened. -/
namespace Go.Proofs.YtdjmhagclcfnfabGreat
open Go.ChangeShapes Go.WideShapes Go.ChangeAt Go.RowKit

theorem wf_i64 {n : Int} (h : (Lit.int .i64 n).wf = true) : I64 n := by
  simp only [Lit.wf, Bool.and_eq_true, decide_eq_true_eq] at h
  exact ⟨h.1, h.2⟩
theorem getD_at (zs : List Int) (j : Nat) (h : j < zs.length) : zs.getD j 0 = zs[j] := by
  rw [List.getD_eq_getElem?_getD, List.getElem?_eq_getElem h, Option.getD_some]
set_option maxRecDepth 100000 in
theorem open_nums {H : Type} {enc : TypeId × Value → H} {W : World} {base : Nat} {v : Value} {d : DataW H} {p : List MemPlace} (hv : Value.okWide Tryz.prog W .any base 22 v) (h : DataW.Trod enc Tryz.prog W 0 (fun _ => true) true 22 v d p) :
    ∃ xs : List Int, Ints W.heap.size W v xs ∧ (∀ x ∈ xs, I64 x) ∧ xs.length ≤ 9223372036854775807 := by
  obtain ⟨a, len, cap, rfl⟩ := okWide_slice Tryz.underlying22 hv
  obtain ⟨fuel, hf⟩ := h
  rcases open_ints Tryz.underlying22 Tryz.underlying3 Tryz.cellsInt hf with ⟨e, _⟩ | ⟨a', len', cap', zs, e, _, hl, hm, hzl, _, hc, hwf⟩
  · simp [Value.cells] at e
    obtain ⟨rfl, rfl, rfl⟩ := e
    exact ⟨[], .inl ⟨rfl, none, 0, rfl⟩, (fun x hx => by cases hx), by simp⟩
  · simp [Value.cells] at e
    obtain ⟨rfl, rfl, rfl⟩ := e
    simp only [if_true] at hzl
    have hl2 : (zs.take len).length = len := by rw [List.length_take]; omega
    have hm' : cap ≤ 9223372036854775807 := hm
    refine ⟨zs.take len, ?_, fun x hx => wf_i64 (hwf x (List.mem_of_mem_take hx)), by omega⟩
    by_cases h0 : len = 0
    · subst h0
      exact .inl ⟨by simp, some a', cap, rfl⟩
    · have c0 := hc 0 (by omega)
      obtain ⟨b, o, sp⟩ := a'
      obtain rfl : sp = none := by
        have := World.cell?_spot c0
        simpa [Addr.add] using this
      refine .inr ⟨b, o, cap, by rw [hl2], World.block_lt_of_cell? W _ c0, fun j hj => ?_⟩
      rw [hl2] at hj
      have := hc j (by omega)
      rw [Addr.add_lit, getD_at zs j (by omega)] at this
      rw [List.getElem_take]
      exact this
end Go.Proofs.YtdjmhagclcfnfabGreat
/- strandkeep's data and made, as functions. -/
namespace Go.Proofs.YtdjmhagclcfnfabGreat
open Go.RowKit Go.Shelf

/-- The bytes that data makes. -/
def dataR (c : Int) (k : Nat) : List UInt8 := (List.range k).map fun (i : Nat) => UInt8.ofNat (97 + pickN (c + i) 26)
theorem dataR_succ (c : Int) (k : Nat) : dataR c (k + 1) = dataR c k ++ [UInt8.ofNat (97 + pickN (c + k) 26)] := by
  unfold dataR
  rw [List.range_succ, List.map_append]
  rfl
theorem dataR_length (c : Int) (k : Nat) : (dataR c k).length = k := by simp [dataR]

set_option maxRecDepth 100000 in
set_option maxHeartbeats 1000000 in
theorem data_fn (c : Int) (z : Nat) (w : World) (hc : -4611686018427387904 ≤ c ∧ c ≤ 4611686018427387904) (hz : z ≤ 64) :
    Calls Tryz.prog 11 #[.int .i64 c, .int .i64 z] w fun e w' => e = .returned (.string ⟨(dataR c z).toArray⟩) ∧ w.grownBy w' none := by
  obtain ⟨hc1, hc2⟩ := hc
  go_enter Tryz.func11, Tryz.ntmps11
  go_wp2
  go_loopw [5, 6] (fun b i wr => ∃ (k : Nat) (bs : List UInt8), k ≤ z ∧ i = .int .i64 k ∧ bs = dataR c k ∧ OwnsB w.heap.size wr b bs ∧ w.grownBy wr none) (fun _ i _ => z - (intOf i).toNat)
  case atStart => exact ⟨0, [], Nat.zero_le _, rfl, rfl, World.ownsRow_nil _ _ _ _, drew_grown w 0 _⟩
  case round =>
    obtain ⟨k, bs, hk, rfl, hbl, hown, hg⟩ := hrel
    by_cases hlt : k < z
    · have HDR : Hid (bs ++ [UInt8.ofNat (97 + pickN (c + k) 26)] = dataR c (k + 1)) := by
        show _ = _
        rw [hbl, dataR_succ]
      have hbk : bs.length = k := by rw [hbl]; simp [dataR]
      clear hbl
      have H1 : Hid (∀ W, _) := fun W => pick_at (c + k) 26 26 W ⟨by omega, by omega⟩ rfl (by omega) (by omega)
      have h1 := pickN_lt (c + k) 26 (by omega)
      have HR : Hid (∀ x : Int, x = ((97 + pickN (c + k) 26 : Nat) : Int) → ∀ v' w1, w1.ownsRow w.heap.size 5 1 v' (bs.length + 1) (byteVals bs ++ [.int .u8 x]) → OwnsB w.heap.size w1 v' (bs ++ [UInt8.ofNat (97 + pickN (c + k) 26)])) := by
        intro x hx v' w1 ho
        unfold OwnsB
        rw [byteVals_append, List.length_append]
        rw [hx] at ho
        have e : ((UInt8.ofNat (97 + pickN (c + k) 26)).toNat : Int) = ((97 + pickN (c + k) 26 : Nat) : Int) := by
          rw [UInt8.toNat_ofNat']
          omega
        unfold byteVals at *
        rw [List.map_cons, List.map_nil, e]
        exact ho
      have HO : Hid (wr.ownsRow w.heap.size 5 1 _ bs.length (byteVals bs)) := hown
      have HG : Hid _ := hg
      have hsz : w.heap.size ≤ wr.heap.size := hg.size
      clear hown hg
      generalize pickN (c + k) 26 = n1 at *
      obtain ⟨i0, hi, hz0, hz1, hz2⟩ := info_parts Tryz.infoU8
      go_wp2_with (first
        | (go_at_call 7; refine (H1.out _).mono ?_; rintro _ _ ⟨rfl, rfl⟩)
        | (at_builtin; refine wpList_append_own_at _ rfl _ _ 63 rfl w.heap.size 5 i0 (.int .u8 0) 1 1 Tryz.underlying63 hi hz0 hz1 hz2 rfl (by decide) _ _ _ rfl (HO.out.alloc _) ⟨_, 0, none⟩ 1 1 [_] rfl rfl (cell_one_new _ _ _) (by intro u hu; simp at hu; subst hu; rfl) (by unfold maxLen; omega) (by omega) (by simp; omega) ?_; intro v' w1 hown' hgrow _ hat))
      refine ⟨⟨k + 1, _, by omega, by go_num, HDR.out, HR.out _ (by go_num) _ _ hown', ?_⟩, by simp [intOf]; omega⟩
      have g1 := Grew.of_alloc hgrow hat
      exact ⟨g1.by_.os.trans HG.out.os, g1.by_.tape.trans HG.out.tape, g1.by_.output.trans HG.out.output, Nat.le_trans HG.out.size g1.by_.size, fun j hj hne => (g1.by_.block j (Nat.lt_of_lt_of_le hj HG.out.size) (fun e => by have := OwnsB.base (l := bs) HO.out j e.symm; omega)).trans (HG.out.block j hj hne)⟩
    · have HC := conv_own hown
      obtain rfl : k = z := by omega
      go_wp2
      go_ret
      rw [← hbl]
      exact ⟨rfl, hg⟩
end Go.Proofs.YtdjmhagclcfnfabGreat
/- strandkeep's made, as a function. -/
namespace Go.Proofs.YtdjmhagclcfnfabGreat
open Go.RowKit Go.Shelf

/-- The record that made makes of a block, out of a raw number. -/
def recAt (z : Nat) (c : Int) (wh : Bool) (k : Nat) : List Rc :=
  if pickN c 4 = 0 then [] else if pickN c 4 = 1 then (if wh then [] else [⟨true, k, ⟨#[]⟩⟩]) else [⟨false, k, ⟨(dataR (IntKind.i64.wrap (c.tdiv 4)) z).toArray⟩⟩]
def madeR (z : Nat) (xs : List Int) (wh : Bool) (n : Nat) : List Rc := (List.range n).flatMap fun k => recAt z (xs.getD k 0) wh k
theorem madeR_succ (z : Nat) (xs : List Int) (wh : Bool) (k : Nat) : madeR z xs wh (k + 1) = madeR z xs wh k ++ recAt z (xs.getD k 0) wh k := by
  unfold madeR
  rw [List.range_succ, List.flatMap_append]
  simp
theorem madeR_ok (b z : Nat) (xs : List Int) (wh : Bool) : ∀ n, n ≤ b → recsOk b z (-1) (madeR z xs wh n) = true ∧ lastOf (-1) (madeR z xs wh n) < n ∧ (wh = true → ∀ r ∈ madeR z xs wh n, r.free = false)
  | 0, _ => ⟨rfl, by simp [madeR, lastOf], fun _ r hr => by cases hr⟩
  | n + 1, h => by
    obtain ⟨h1, h2, h3⟩ := madeR_ok b z xs wh n (by omega)
    rw [madeR_succ]
    have step : ∀ fr d, (d.size : Int) = (if fr then 0 else (z : Int)) → (wh = true → fr = false) → recsOk b z (-1) (madeR z xs wh n ++ [⟨fr, (n : Int), d⟩]) = true ∧ lastOf (-1) (madeR z xs wh n ++ [⟨fr, (n : Int), d⟩]) < ((n + 1 : Nat) : Int) ∧ (wh = true → ∀ r ∈ madeR z xs wh n ++ [⟨fr, (n : Int), d⟩], r.free = false) := by
      intro fr d hd hf
      refine ⟨?_, ?_, ?_⟩
      · rw [recsOk_append, h1, Bool.true_and, recsOk, Bool.and_eq_true]
        exact ⟨decide_eq_true ⟨h2, by simp only; omega, hd⟩, rfl⟩
      · rw [lastOf_snoc]
        simp only
        omega
      · intro hw r hr
        rcases List.mem_append.1 hr with h | h
        · exact h3 hw r h
        · rw [List.mem_singleton.1 h]
          exact hf hw
    unfold recAt
    split
    · rw [List.append_nil]
      exact ⟨h1, by omega, h3⟩
    · split
      · split
        · rw [List.append_nil]
          exact ⟨h1, by omega, h3⟩
        · rename_i hw
          exact step true ⟨#[]⟩ rfl (fun h => absurd h hw)
      · exact step false _ (by simp [ByteArray.size, dataR_length]) (fun _ => rfl)

set_option maxRecDepth 100000 in
set_option maxHeartbeats 4000000 in
theorem made_fn (f t : Int) (n z : Nat) (v : Value) (xs : List Int) (wh : Bool) (w : World) (hv : Ints w.heap.size w v xs) (hxs : ∀ x ∈ xs, I64 x) (hxl : xs.length ≤ 9223372036854775807) (hn : n ≤ 100) (hz : z ≤ 64) :
    Calls Tryz.prog 5 #[.int .i64 f, .int .i64 t, .int .i64 n, .int .i64 z, v, .bool wh] w fun e w' => ∃ sv, e = .returned (.agg #[.int .i64 f, .int .i64 t, .int .i64 n, .int .i64 z, sv]) ∧ OwnsR w.heap.size w' sv (madeR z xs wh n) ∧ w.grownBy w' none := by
  obtain ⟨a, cap, rfl⟩ := hv.slice
  have HV : Hid (∀ W, w.grownBy W none → Ints w.heap.size W (.slice a xs.length cap) xs) := fun W hW => hv.below ⟨hW.os, hW.tape, hW.output, hW.size, fun k hk => hW.block k hk (by simp)⟩
  have HX : Hid (∀ k, I64 (xs.getD k 0)) := by
    intro k
    rw [List.getD_eq_getElem?_getD]
    by_cases hk : k < xs.length
    · rw [List.getElem?_eq_getElem hk, Option.getD_some]
      exact hxs _ (List.getElem_mem hk)
    · rw [List.getElem?_eq_none (by omega), Option.getD_none]
      exact ⟨by omega, by omega⟩
  clear hv hxs
  go_enter Tryz.func5, Tryz.ntmps5
  go_wp2
  go_loopw [14] (fun b wr => ∃ (k : Nat) (sv : Value) (rs : List Rc), k ≤ n ∧ b = .int .i64 k ∧ wr.heap[w.heap.size]? = some (.cells #[.int .i64 0, .int .i64 0, .int .i64 0, .int .i64 0, .slice none 0 0] 27 (0, 0)) ∧ wr.heap[w.heap.size + 1]? = some (.cells #[.int .i64 f, .int .i64 t, .int .i64 n, .int .i64 z, sv] 27 (0, 0)) ∧ OwnsR (w.heap.size + 2) wr sv rs ∧ rs = madeR z xs wh k ∧ rs.length ≤ k ∧ w.grownBy wr none) (fun b _ => n - (intOf b).toNat)
  case atStart =>
    obtain ⟨h1, h2, hB⟩ := two_boxes w #[.int .i64 0, .int .i64 0, .int .i64 0, .int .i64 0, .slice none 0 0] #[.int .i64 f, .int .i64 t, .int .i64 n, .int .i64 z, .slice none 0 0] 27
    exact ⟨0, _, [], Nat.zero_le _, rfl, h1, h2, World.ownsRow_nil _ _ _ _, rfl, Nat.le_refl _, gbelow hB⟩
  case round =>
    obtain ⟨k, sv, rs, hk, rfl, h0, h1, ho, hrs, hrl, hg⟩ := hrel
    obtain ⟨sa, sl, sc, rfl⟩ := ho.slice
    by_cases hlt : k < n
    · have HI := HX.out k
      have HMS : Hid (madeR z xs wh (k + 1) = rs ++ recAt z (xs.getD k 0) wh k) := by
        show _ = _
        rw [hrs]
        exact madeR_succ z xs wh k
      unfold recAt at HMS
      clear hrs
      have HN : Hid (∀ u : Unit, _) := fun _ => nth_any w.heap.size _ xs k wr (HV.out _ hg) (by omega) hxl
      generalize xs.getD k 0 = c at *
      have HP : Hid (∀ u : Unit, _) := fun _ => pick_at c 4 4 wr HI rfl (by omega) (by omega)
      have hp := pickN_lt c 4 (by omega)
      generalize pickN c 4 = p at *
      obtain ⟨c0, c1, c2, c3, c4, f0, f1, f2, f3, f4⟩ := box5 h1
      have H0 : Hid _ := h0
      have H1 : Hid _ := h1
      have HO : Hid _ := ho
      have HG : Hid _ := hg
      clear h0 h1 ho hg
      go_wp2_with fail
      go_at_call 9
      refine (HN.out ()).mono ?_
      rintro _ w1 ⟨rfl, rfl⟩
      go_wp2_with fail
      go_at_call 7
      refine (HP.out ()).mono ?_
      rintro _ wr ⟨rfl, rfl⟩
      clear HP HN
      have hz2 : w.heap.size + 1 < wr.heap.size := (Array.getElem?_eq_some_iff.1 H1.out).1
      obtain rfl | rfl | h23 : p = 0 ∨ p = 1 ∨ (p = 2 ∨ p = 3) := by omega
      · have HM2 : Hid (madeR z xs wh (k + 1) = rs) := by
          show _ = _
          rw [HMS.out, if_pos rfl, List.append_nil]
        clear HMS
        go_wp2
        exact ⟨⟨k + 1, _, rs, by omega, by go_num, H0.out, H1.out, HO.out, HM2.out.symm, by omega, HG.out⟩, by simp [intOf]; omega⟩
      · cases wh
        · have HM2 : Hid (madeR z xs false (k + 1) = rs ++ [⟨true, k, ⟨#[]⟩⟩]) := by
            show _ = _
            rw [HMS.out, if_neg (by omega), if_pos rfl]
            rfl
          clear HMS
          go_wp2_with (at_builtin; refine wpList_append_rec _ rfl _ _ rfl (w.heap.size + 2) _ rs rfl (OwnsR.alloc HO.out _) ⟨_, 0, none⟩ ⟨true, k, ⟨#[]⟩⟩ rfl (cells_new2 _ _ _ _ (by simp)) (by omega) (by simp; omega) ?_; intro v' w3 hO3 hg3 _ _; obtain ⟨a3, l3, c3', rfl⟩ := hO3.slice; have G3 : Hid _ := hg3; have O3 : Hid _ := hO3; obtain ⟨-, -, -, -, d4, -, -, -, -, z4⟩ := box5 (made_kept H1.out (by omega) HO.out (World.grownBy_alloc _ _ none) hg3); clear hg3 hO3)
          obtain ⟨p0, p1, p2, p3⟩ := made_step H0.out H1.out HO.out HG.out (gwiden (World.grownBy_alloc _ _ none) G3.out) O3.out
          exact ⟨⟨k + 1, _, _, by omega, by go_num, p0, p1, p2, HM2.out.symm, by rw [List.length_append, List.length_singleton]; omega, p3⟩, by simp [intOf]; omega⟩
        · have HM2 : Hid (madeR z xs true (k + 1) = rs) := by
            show _ = _
            rw [HMS.out, if_neg (by omega), if_pos rfl]
            simp
          clear HMS
          go_wp2
          exact ⟨⟨k + 1, _, rs, by omega, by go_num, H0.out, H1.out, HO.out, HM2.out.symm, by omega, HG.out⟩, by simp [intOf]; omega⟩
      · have HD : Hid (∀ c', -4611686018427387904 ≤ c' ∧ c' ≤ 4611686018427387904 → ∀ W, _) := fun c' hc' W => data_fn c' z W hc' hz
        have HM : Hid (∀ W', wr.drew.grownBy W' (Value.slice sa sl sc).ownBlock → W'.cell? ⟨w.heap.size + 1, 4, none⟩ = some (.slice sa sl sc) ∧ W'.frozen? ⟨w.heap.size + 1, 4, none⟩ = false) := by
          intro W' hW'
          have hb := made_kept H1.out (by omega) HO.out (w2 := wr.drew) ⟨rfl, rfl, rfl, Nat.le_refl _, fun _ _ _ => rfl⟩ hW'
          obtain ⟨-, -, -, -, d4, -, -, -, -, z4⟩ := box5 hb
          exact ⟨d4, z4⟩
        have HB2 : Hid (∀ W' o, wr.drew.grownBy W' none → w.heap.size + 2 ≤ (World.alloc W' o).heap.size) := fun W' o hW' => by
          have h1 : wr.heap.size ≤ W'.heap.size := hW'.size
          simp
          omega
        have HO2 : Hid (∀ W' o, wr.drew.grownBy W' none → OwnsR (w.heap.size + 2) (World.alloc W' o) (.slice sa sl sc) rs) := fun W' o hW' => OwnsR.alloc (OwnsR.kept (W := wr.drew) HO.out hW') o
        have HC2 : Hid (∀ (W : World) (d : ByteArray) j u, [Value.bool false, .int .i64 k, .string d][j]? = some u → (W.alloc (.cells #[.bool false, .int .i64 k, .string d] 40)).cell? (Addr.add ⟨W.heap.size, 0, none⟩ j) = some u) := fun W d => cells_new2 W [.bool false, .int .i64 k, .string d] 40 _ rfl
        have hr2 : rs.length ≤ 2000 := by omega
        have HW : Hid (wr.grownBy wr.drew none) := ⟨rfl, rfl, rfl, Nat.le_refl _, fun _ _ _ => rfl⟩
        obtain ⟨hi1, hi2⟩ := HI
        have HQ : -4611686018427387904 ≤ IntKind.i64.wrap (c.tdiv 4) ∧ IntKind.i64.wrap (c.tdiv 4) ≤ 4611686018427387904 := quo4 c hi1 hi2
        have HM2 : Hid (madeR z xs wh (k + 1) = rs ++ [⟨false, k, ⟨(dataR (IntKind.i64.wrap (c.tdiv 4)) z).toArray⟩⟩]) := by
          show _ = _
          rw [HMS.out, if_neg (by omega), if_neg (by omega)]
        clear HMS
        rcases h23 with rfl | rfl
        all_goals
          go_wp2_with fail
          go_region_law (first | (refine step_rec ?_ (.tmp 46) (.tmp 53) ?_ (w.heap.size + 2) (.slice sa sl sc) rs ⟨false, k, ⟨(dataR (IntKind.i64.wrap (c.tdiv 4)) z).toArray⟩⟩ w2.heap.size ?_ ?_ ?_ ?_ ?_ ?_ ?_; rfl; rfl; rfl; exact HO2.out _ _ G2.out; rfl; exact HC2.out _ _; exact hr2; exact HB2.out _ _ G2.out; intro v' w3 hO3 hg3; obtain ⟨a3, l3, c3', rfl⟩ := hO3.slice; have O3 : Hid _ := hO3; have G3 : Hid _ := hg3; obtain ⟨e4, y4⟩ := HM.out _ (gwiden (gtrans G2.out (World.grownBy_alloc _ _ none)) hg3); clear hO3 hg3) | (go_simp; go_at_call 11; refine (HD.out _ HQ _).mono ?_; rintro e w2 ⟨rfl, hg2⟩; have G2 : Hid _ := hg2; obtain ⟨d4, z4⟩ := HM.out _ (gnone hg2); have hl2 : w.heap.size + 1 < w2.heap.size := Nat.lt_of_lt_of_le hz2 hg2.size; clear hg2; dsimp only))
          all_goals
            go_wp2
            obtain ⟨p0, p1, p2, p3⟩ := made_step H0.out H1.out HO.out HG.out (gwiden HW.out (gwiden (gtrans G2.out (World.grownBy_alloc _ _ none)) G3.out)) O3.out
            exact ⟨⟨k + 1, _, _, by omega, by go_num, p0, p1, p2, HM2.out.symm, by rw [List.length_append, List.length_singleton]; omega, p3⟩, by simp [intOf]; omega⟩
    · obtain rfl : k = n := by omega
      obtain ⟨c0, c1, c2, c3, c4, f0, f1, f2, f3, f4⟩ := box5 h1
      obtain ⟨d0, d1, d2, d3, d4, g0, g1, g2, g3, g4⟩ := box5 h0
      have hz1 : w.heap.size < wr.heap.size := (Array.getElem?_eq_some_iff.1 h0).1
      have HO : Hid _ := ho
      have HG : Hid _ := hg
      clear h0 h1 ho hg
      go_wp2
      refine bodyPost_ret (v := .agg #[.int .i64 f, .int .i64 t, .int .i64 k,   .int .i64 z, .slice sa sl sc]) (by simp [results, Tryz.results5, go_sem, d0, d1, d2, d3, d4]) rfl ?_
      rw [← hrs]
      exact ⟨_, rfl, OwnsR.base (OwnsR.set (OwnsR.set (OwnsR.set (OwnsR.set (OwnsR.set HO.out (by omega)) (by omega)) (by omega)) (by omega)) (by omega)) (by omega), gfresh (gfresh (gfresh (gfresh (gfresh HG.out (by omega)) (by omega)) (by omega)) (by omega)) (by omega)⟩
end Go.Proofs.YtdjmhagclcfnfabGreat
/- The program's recordBytes and longest. -/
namespace Go.Proofs.YtdjmhagclcfnfabGreat
open Go.RowKit Go.Shelf

attribute [local go_sem] Oper.semAt_some

theorem lenR_fit (z : Int) (r : Rc) (h : RecFit z r) : lenR r = 3 + r.data.size := by
  obtain ⟨_, _, h2⟩ := h
  unfold lenR recB
  cases hf : r.free with
  | true =>
    rw [hf] at h2
    simp at h2
    simp [lowB_length, h2]
  | false =>
    have hs : r.data.data.toList.length = r.data.size := rfl
    simp only [Bool.false_eq_true, if_false, List.length_cons, List.length_append, lowB_length, hs]
    omega

set_option maxRecDepth 100000 in
set_option maxHeartbeats 400000 in
theorem recordBytes_any (r : Rc) (w : World) (hs : r.data.size ≤ 1000) :
    Calls Tryz.prog 27 #[.agg #[.bool r.free, .int .i64 r.block, .string r.data]] w fun e w' => e = .returned (.int .i64 ((3 + r.data.size : Nat) : Int)) ∧ Below w.heap.size w w' := by
  go_enter Tryz.func27, Tryz.ntmps27
  go_wp2
  go_ret
  exact ⟨by simp, (Below.refl _ _).alloc (Nat.le_refl _) _⟩

theorem fit_size (z : Int) (hz : z ≤ 64) (r : Rc) (h : RecFit z r) : r.data.size ≤ 64 := by
  have := h.2.2
  split at this <;> omega

theorem mostR_fit (z : Int) (hz : z ≤ 64) (rs : List Rc) (h : ∀ r ∈ rs, RecFit z r) : mostR rs ≤ 67 := by
  have key : ∀ (xs : List Rc) (m : Nat), (∀ r ∈ xs, lenR r ≤ 67) → m ≤ 67 → xs.foldl (fun m r => max m (lenR r)) m ≤ 67 := by
    intro xs
    induction xs with
    | nil => exact fun m _ h => h
    | cons x xs ih =>
      intro m hx hm
      have := hx x (by simp)
      exact ih (max m (lenR x)) (fun r hr => hx r (by simp [hr])) (by omega)
  refine key rs 0 (fun r hr => ?_) (by omega)
  rw [lenR_fit z r (h r hr)]
  have := fit_size z hz r (h r hr)
  omega

set_option maxRecDepth 100000 in
set_option maxHeartbeats 2000000 in
theorem longest_any (z : Nat) (sv : Value) (rs : List Rc) (Bs : Nat) (w : World) (hR : Recs w.heap.size w sv rs) (hBs : w.cell? ⟨Bs, 0, none⟩ = some sv) (hBl : Bs < w.heap.size) (h9 : (z : Int) ≤ 64) (hn : rs.length ≤ 100) (ho : ∀ r ∈ rs, RecFit z r) :
    Calls Tryz.prog 14 #[.func (.func 28) #[] #[.pointer (some ⟨Bs, 0, none⟩)]] w fun e w' => e = .returned (.int .i64 (mostR rs : Nat)) ∧ Below w.heap.size w w' := by
  obtain ⟨a, c, rfl⟩ := hR.slice
  refine (callsIn_wide (n := 9)).1 ?_
  refine callsIn_of_wp_marks Tryz.func14 rfl trivial ?_ rfl
  simp only [Tryz.ntmps14, List.size_toArray, List.length_cons, List.length_nil, Nat.reduceAdd, Nat.reduceSub, Array.replicate_succ, Array.replicate_zero, List.push_toArray, List.append_toArray, List.nil_append, List.cons_append]
  gi_wp2_with fail
  have hB3 : Below w.heap.size w (w.alloc (.cells #[.int .i64 0] 3)) := (Below.refl _ _).alloc (Nat.le_refl _) _
  have hO3 : (w.alloc (.cells #[.int .i64 0] 3)).heap[w.heap.size]? = some (.cells #[.int .i64 0] 3 (0, 0)) := World.alloc_heap_new _ _
  have hs3 : (w.alloc (.cells #[.int .i64 0] 3)).heap.size = w.heap.size + 1 := by simp
  generalize w.alloc (.cells #[.int .i64 0] 3) = W3 at *
  have hKW : ∀ k, (rs ≠ [] ∧ ∃ off, a = some ⟨k, off, none⟩) → k < w.heap.size := fun k ⟨hne, off, e⟩ => hR.block_lt hne e
  refine range_law (n := 9) rfl (by decide) (gf := 28) (lb := #[.pointer (some ⟨Bs, 0, none⟩)]) rfl trivial (enters_of Tryz.func28 (by kernel_rfl) rfl)
    (values_seq 8 (by decide) Bs (.slice a rs.length c) rs (by omega) W3 (by omega) ((hB3.cell (p := ⟨Bs, 0, none⟩) hBl).trans hBs) (hR.moved hB3) (fun k => rs ≠ [] ∧ ∃ off, a = some ⟨k, off, none⟩) (fun k hk => by have := hKW k hk; omega) (fun hne b off l cap e => by simp only [Value.slice.injEq] at e; exact ⟨hne, off, e.1⟩))
    (Below.refl _ _) (fun k hk => by have := hKW k hk; omega) (fun b e => by cases e) (fun _ => rfl)
    (fun pre W => W.heap[w.heap.size]? = some (.cells #[.int .i64 (mostR pre : Nat)] 3 (0, 0)) ∧ Below w.heap.size w W)
    (fun _ _ _ => False)
    (OwnIt.and (ownIt_block _ _ (fun pre => .cells #[.int .i64 (mostR pre : Nat)] 3 (0, 0)) (fun _ => rfl)) (ownIt_below (Nat.le_refl _) (by omega)))
    (fun cd => OwnIt.pure _ _ _)
    ⟨hO3, hB3⟩
    (fun (x : Rc) (a' : Act) (W : World) => ∃ Bx : Nat, W.heap[Bx]? = some (.cells #[.bool x.free, .int .i64 x.block, .string x.data] 40 (0, 0)) ∧ a' = { tmps := #[.func (.func 28) #[] #[.pointer (some ⟨Bs, 0, none⟩)], undef, .int .i64 0, .pointer (some ⟨w.heap.size, 0, none⟩), .pointer (some ⟨Bx, 0, none⟩), .func (.func 28) #[] #[.pointer (some ⟨Bs, 0, none⟩)], .agg #[.bool x.free, .int .i64 x.block, .string x.data], undef, undef, undef, undef, undef], defers := [] })
    (fun x a' => ownIt_some _ fun Bx => OwnIt.and (ownIt_block _ _ (fun _ => _) (fun _ => rfl)) (OwnIt.pure _ _ _))
    ?assign ?body ?done ?stop ?panic
  case assign =>
    rintro l pre x W K ⟨h1, h5⟩ hK
    have lt := fun {k : Nat} {o : Obj} (e : W.heap[k]? = some o) => (Array.getElem?_eq_some_iff.1 e).1
    gi_wp2
    refine hK _ _ ((KeepsOthers.alloc _ _).from _) ?_ ⟨(Below.heap_alloc _ _ _ (lt h1)).trans h1, h5.alloc h5.size _⟩ ⟨W.heap.size, World.alloc_heap_new _ _, rfl⟩
    exact (KeptOn.refl _ _).alloc (fun k hk => by have := hKW k hk; have := h5.size; omega) _
  case body =>
    rintro l pre x a' W ⟨h1, h5⟩ ⟨Bx, hx, rfl⟩ hG
    have lt := fun {k : Nat} {o : Obj} (e : W.heap[k]? = some o) => (Array.getElem?_eq_some_iff.1 e).1
    have hfx := ho x (hG.subset (by simp))
    have hpf := mostR_fit z h9 pre (fun r hr => ho r (hG.subset (by simp [hr])))
    have hlx := lenR_fit z x hfx
    have hsx := fit_size z h9 x hfx
    have HM : Hid (mostR (pre ++ [x]) = max (mostR pre) (3 + x.data.size)) := by
      show _ = _
      rw [mostR_snoc, hlx]
    have r0 := boxed_cell (i := 0) hx rfl
    have r1 := boxed_cell (i := 1) hx rfl
    have r2 := boxed_cell (i := 2) hx rfl
    have o0 := boxed_cell (i := 0) h1 rfl
    generalize mostR pre = mp at *
    have hm : Tryz.prog.follows .mixedOrders = true := by kernel_rfl
    have HW1 : Hid (∀ W1, Below W.drew.heap.size W.drew W1 → W1.heap[w.heap.size]? = some (.cells #[.int .i64 (mp : Nat)] 3 (0, 0)) ∧ KeepsFrom W3.heap.size W W1 ∧ Below w.heap.size w W1 ∧ Below w.heap.size W W1) := fun W1 hb0 => by
      have hb : Below W.heap.size W W1 := (Below.refl _ _).drew.trans hb0
      exact ⟨(hb.block _ (lt h1)).trans h1, ⟨hb.size, fun k o _ hk _ => (hb.block k (lt hk)).trans hk⟩, h5.trans (hb.mono h5.size), hb.mono h5.size⟩
    have hlt := lt h1
    have zf := boxed_frozen (i := 0) h1
    clear h1 hx lt
    gi_wp2_with fail
    gi_region_with_o (refine ⟨trivial, (CallsIn.inRound l (callsIn_wide.2 (recordBytes_any x _ (by omega)))).mono ?_⟩; rintro e W1 ⟨rfl, hb1⟩; obtain ⟨g1, g2, g3, g4⟩ := HW1.out W1 hb1; have o1 := boxed_cell (i := 0) g1 rfl; have z1 := boxed_frozen (i := 0) g1)
    all_goals
      refine ⟨g2.trans ((KeepsOthers.setCell _ _ _).from _), KeptOn.of_below (g4.setCell (p := ⟨w.heap.size, 0, none⟩) (by simp) _) hKW, ?_, g3.setCell (p := ⟨w.heap.size, 0, none⟩) (by simp) _⟩
      first
        | (rw [show ((mostR (pre ++ [x]) : Nat) : Int) = (if (mp : Int) < 3 + (x.data.size : Int) then 3 + (x.data.size : Int) else (mp : Int)) from by rw [HM.out]; split <;> omega]
           exact block_set (i := 0) g1 _)
        | (rw [show ((mostR (pre ++ [x]) : Nat) : Int) = max (mp : Int) (3 + (x.data.size : Int)) from by rw [HM.out]; omega]
           exact block_set (i := 0) g1 _)
  case done =>
    rintro D ys W hD rfl ⟨h1, h5⟩ hK
    have o0 := boxed_cell (i := 0) h1 rfl
    gi_wp2
    refine ⟨by simp, .inl ⟨_, _, rfl, run_takeDeferred hK, ?_⟩⟩
    exact ⟨_, results_tmp rfl _ _ _, rfl, h5.trans (belowK_b (w := w) (Nat.le_refl _) _ D _ _ (by omega) hK rfl rfl)⟩
  case stop =>
    rintro D cd pre W _ _ h
    exact h.elim
  case panic =>
    rintro D ch xs W _ hp
    exact hp.elim
end Go.Proofs.YtdjmhagclcfnfabGreat
