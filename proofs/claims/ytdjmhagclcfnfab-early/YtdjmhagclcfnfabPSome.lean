/- The program's readSome. -/
import Derived.Test.YtdjmhagclcfnfabPCollect2
import Derived.Test.YtdjmhagclcfnfabPFirst
import Derived.Test.YtdjmhagclcfnfabParseM
namespace Go.Proofs.Ytdjmhagclcfnfab
open Go.RowKit Go.Shelf

attribute [local go_sem] Oper.semAt_some

set_option maxHeartbeats 1000000 in
theorem behind_any (n : Int) (fn : Fn) (fs cp : Array Value) (w : World) :
    Calls Try.prog 24 #[.int .i64 n, .func fn fs cp] w fun e w' => e = .returned (.func (.func 41) #[] #[.pointer (some ⟨w.heap.size + 1, 0, none⟩), .pointer (some ⟨w.heap.size, 0, none⟩)]) ∧
      w' = (w.alloc (.cells #[.int .i64 n] 3)).alloc (.cells #[.func fn fs cp] 53) := by
  have hmf : ∀ (fn : Fn) (first cap : Array Value) (w : World), (Instr.makeFunc fn first cap).run Try.prog w = .ok (.func fn first cap) w := fun _ _ _ _ => rfl
  go_enter Try.func24, Try.ntmps24
  go_wp2
  go_ret
  exact ⟨rfl, rfl⟩
set_option maxHeartbeats 1000000 in
theorem first_any (n : Int) (fn : Fn) (fs cp : Array Value) (w : World) :
    Calls Try.prog 22 #[.int .i64 n, .func fn fs cp] w fun e w' => e = .returned (.func (.func 39) #[] #[.pointer (some ⟨w.heap.size, 0, none⟩), .pointer (some ⟨w.heap.size + 1, 0, none⟩)]) ∧
      w' = (w.alloc (.cells #[.int .i64 n] 3)).alloc (.cells #[.func fn fs cp] 53) := by
  have hmf : ∀ (fn : Fn) (first cap : Array Value) (w : World), (Instr.makeFunc fn first cap).run Try.prog w = .ok (.func fn first cap) w := fun _ _ _ _ => rfl
  go_enter Try.func22, Try.ntmps22
  go_wp2
  go_ret
  exact ⟨rfl, rfl⟩

/-- An error among the first. -/
theorem walk_cut (b z : Nat) : ∀ (m N : Nat) (last : Int) (q : List UInt8) (ys : List Rc) (k : Int), walkR b z m last q = (ys, .inl k) → ys.length < N → walkR b z N last q = (ys, .inl k)
  | 0, _, _, _, _, _, h, _ => by simp [walkR] at h
  | _, 0, _, _, _, _, _, h => by simp at h
  | m + 1, N + 1, last, q, ys, k, h, hl => by
    rw [walkR] at h ⊢
    cases hs : stepR b z last q with
    | inl k' =>
      rw [hs] at h
      simpa using h
    | inr v =>
      obtain ⟨r, q'⟩ := v
      rw [hs] at h
      simp only [Prod.mk.injEq] at h ⊢
      obtain ⟨h1, h2⟩ := h
      obtain ⟨ys', hy⟩ : ∃ ys', ys' = (walkR b z m r.block q').1 := ⟨_, rfl⟩
      have e : walkR b z m r.block q' = (ys', .inl k) := by rw [hy, ← h2]
      rw [← hy] at h1
      have ih := walk_cut b z m N r.block q' ys' k e (by rw [← h1] at hl; simp at hl; exact hl)
      rw [ih]
      exact ⟨h1, rfl⟩

/-- Some of the records of a text: the error, or they. -/
def someR (l : List UInt8) (fr mn : Nat) : Int ⊕ List Rc :=
  match openR l with
  | .inl k => .inl k
  | .inr (_, _, b, z, m) =>
    if fr < m ∧ mn < m - fr then
      match walkR b z (fr + mn) (-1) (l.drop 18) with
      | (_, .inl k) => .inl k
      | (rs, .inr _) => .inr (rs.drop fr)
    else match parseR l with
      | .inl k => .inl k
      | .inr (_, _, _, _, rs) => .inr (rs.drop fr)

set_option maxRecDepth 100000 in
set_option maxHeartbeats 1000000 in
theorem readSome_any (l : List UInt8) (fr mn : Nat) (w : World) (hl : l.length ≤ 4611686018427387904) (hfr : fr ≤ 9223372036854775807) (hmn : mn ≤ 9223372036854775807) :
    Calls Try.prog 14 #[.string ⟨l.toArray⟩, .int .i64 fr, .int .i64 mn] w fun e w' => w.grownBy w' none ∧
      ((∃ k, someR l fr mn = .inl k ∧ e = .panicked (gave k)) ∨ (∃ rs v, someR l fr mn = .inr rs ∧ e = .returned v ∧ OwnsR w.heap.size w' v rs)) := by
  go_enter Try.func14, Try.ntmps14
  go_wp2_with fail
  refine (overText_at l _ (w.heap.size + 1) rfl).mono ?_
  rintro e W1 ⟨rfl, hr1, hbl, hs1⟩
  have hg1 : w.grownBy W1 none := gbelow hbl
  have HR1 : Hid (Rd W1 (w.heap.size + 1) l 0) := hr1
  clear hbl hr1
  go_wp2_with fail
  refine (phead (w.heap.size + 1) l W1 HR1.out hl).mono ?_
  clear HR1
  rintro e W2 ⟨hg2, (⟨k, hk, rfl⟩ | ⟨f, t, b, z, m, ho, rfl, hr2, h18, hok⟩)⟩
  · refine ⟨rfl, grown_fresh hg1 hg2 (by omega), .inl ⟨k, ?_, rfl⟩⟩
    unfold someR
    rw [hk]
  have HO : Hid _ := ho
  have G2 : Hid (w.grownBy W2 none) := grown_fresh hg1 hg2 (by omega)
  have HR2 : Hid _ := hr2
  have hs2 : w.heap.size + 2 ≤ W2.heap.size := by have := hg2.size; omega
  have hhd := hok
  simp only [headOk, wellHead, Bool.and_eq_true, decide_eq_true_eq] at hhd
  have hm100 : m ≤ 100 := by omega
  have hz64 : z ≤ 64 := by omega
  clear ho hg2 hg1 hr2 hok hhd
  go_wp2_with fail
  obtain ⟨W3, hW3⟩ : ∃ W3, W3 = W2.alloc (.cells #[.int .i64 f, .int .i64 t, .int .i64 b, .int .i64 z, .int .i64 m] 50) := ⟨_, rfl⟩
  rw [← hW3]
  have hg3 : W2.grownBy W3 none := by rw [hW3]; exact galloc _ _ _
  have hx3 : W3.heap[W2.heap.size]? = some (.cells #[.int .i64 f, .int .i64 t, .int .i64 b, .int .i64 z, .int .i64 m] 50 (0, 0)) := by rw [hW3]; exact World.alloc_heap_new _ _
  obtain ⟨hs3a, hs3b⟩ : W3.heap.size ≤ W2.heap.size + 1 ∧ W2.heap.size + 1 ≤ W3.heap.size := by rw [hW3]; simp
  clear hW3
  refine (records_any (w.heap.size + 1) f t b z m m W3).mono ?_
  rintro e W4 ⟨rfl, hW4⟩
  have hg4 : W3.grownBy W4 none := by rw [hW4]; exact gallocR (gallocR (galloc _ _ _) _) _
  obtain ⟨hs4a, hs4b⟩ : W4.heap.size ≤ W3.heap.size + 3 ∧ W3.heap.size + 3 ≤ W4.heap.size := by rw [hW4]; simp
  have hi4 : W4.heap[W3.heap.size]? = some (.cells #[.pointer (some ⟨w.heap.size + 1, 0, none⟩)] 47 (0, 0)) := by
    rw [hW4]
    exact (Below.heap_alloc _ _ _ (by simp; omega)).trans ((Below.heap_alloc _ _ _ (by simp)).trans (World.alloc_heap_new _ _))
  have hh4 : W4.heap[W3.heap.size + 1]? = some (.cells #[.int .i64 f, .int .i64 t, .int .i64 b, .int .i64 z, .int .i64 m] 50 (0, 0)) := by
    rw [hW4]
    refine (Below.heap_alloc _ _ _ (by simp)).trans ?_
    have h := World.alloc_heap_new (W3.alloc (.cells #[.pointer (some ⟨w.heap.size + 1, 0, none⟩)] 47)) (.cells #[.int .i64 f, .int .i64 t, .int .i64 b, .int .i64 z, .int .i64 m] 50)
    rwa [World.size_alloc] at h
  have hn4 : W4.heap[W3.heap.size + 2]? = some (.cells #[.int .i64 m] 3 (0, 0)) := by
    rw [hW4]
    have h := World.alloc_heap_new ((W3.alloc (.cells #[.pointer (some ⟨w.heap.size + 1, 0, none⟩)] 47)).alloc (.cells #[.int .i64 f, .int .i64 t, .int .i64 b, .int .i64 z, .int .i64 m] 50)) (.cells #[.int .i64 m] 3)
    rwa [World.size_alloc, World.size_alloc] at h
  clear hW4
  have hx4 := (hg4.block W2.heap.size (by omega) (by simp)).trans hx3
  have hr4 : Rd W4 (w.heap.size + 1) l 18 := Rd.kept (Rd.kept HR2.out hg3) hg4
  have G4 : Hid (w.grownBy W4 none) := gtrans G2.out (gtrans hg3 hg4)
  have HS : Hid (∀ W n, 2 ≤ n → W4.grownBy W none → SeqW Fence.wide n Try.prog 36 #[.pointer (some ⟨W3.heap.size, 0, none⟩), .pointer (some ⟨W3.heap.size + 1, 0, none⟩), .pointer (some ⟨W3.heap.size + 2, 0, none⟩)] encRc (KSeq (w.heap.size + 1) (W3.heap.size + 1) W3.heap.size (W3.heap.size + 2)) (some (w.heap.size + 1)) 7
      (fun pre x => ∃ q', walkR b z (pre.length + 1) (-1) (l.drop 18) = (pre ++ [x], .inr q') ∧ pre.length < m)
      (fun xs => ∃ q', walkR b z m (-1) (l.drop 18) = (xs, .inr q') ∧ endR l (l.length - q'.length) = none)
      (fun pre => pre.length ≤ m ∧ ∃ q', walkR b z pre.length (-1) (l.drop 18) = (pre, .inr q'))
      (fun ch xs => ∃ k, ch = gave k ∧ (walkR b z m (-1) (l.drop 18) = (xs, .inl k) ∨ ∃ q', walkR b z m (-1) (l.drop 18) = (xs, .inr q') ∧ endR l (l.length - q'.length) = some k)) W) := fun W n hn hg =>
    records_seq n hn (w.heap.size + 1) (W3.heap.size + 1) W3.heap.size (W3.heap.size + 2) f t b z m m l 18 W (Rd.kept hr4 hg) h18 (by decide) hl hz64 hm100 ((hg.block _ (by omega) (by simp)).trans hh4) ((hg.block _ (by omega) (by simp)).trans hi4) ((hg.block _ (by omega) (by simp)).trans hn4)
  have c4 := boxed_cell (i := 4) (v := .int .i64 m) hx4 rfl
  have hlx : W2.heap.size < W4.heap.size := by omega
  clear hg3 hx3 hg4 hi4 hh4 hn4 hx4 hr4
  by_cases hcase : fr < m ∧ mn < m - fr
  · obtain ⟨hc1, hc2⟩ := hcase
    have e1 : decide ((fr : Int) < (m : Int)) = true := by simp; omega
    have e2 : decide ((mn : Int) < (m : Int) - (fr : Int)) = true := by simp; omega
    go_wp2_with fail
    rw [show (fr : Int) + (mn : Int) = ((fr + mn : Nat) : Int) from by omega]
    refine (first_any ((fr + mn : Nat) : Int) _ _ _ W4).mono ?_
    rintro e W5 ⟨rfl, hW5⟩
    have g5 : Hid (W4.grownBy W5 none) := by rw [hW5]; exact gallocR (galloc _ _ _) _
    obtain ⟨z5a, z5b⟩ : W5.heap.size ≤ W4.heap.size + 2 ∧ W4.heap.size + 2 ≤ W5.heap.size := by rw [hW5]; simp
    have n5 : W5.heap[W4.heap.size]? = some (.cells #[.int .i64 ((fr + mn : Nat) : Int)] 3 (0, 0)) := by rw [hW5]; exact (Below.heap_alloc _ _ _ (by simp)).trans (World.alloc_heap_new _ _)
    have r5 : W5.heap[W4.heap.size + 1]? = some (.cells #[.func (.func 36) #[] #[.pointer (some ⟨W3.heap.size, 0, none⟩), .pointer (some ⟨W3.heap.size + 1, 0, none⟩), .pointer (some ⟨W3.heap.size + 2, 0, none⟩)]] 53 (0, 0)) := by
      rw [hW5]
      have h := World.alloc_heap_new (W4.alloc (.cells #[.int .i64 ((fr + mn : Nat) : Int)] 3)) (.cells #[.func (.func 36) #[] #[.pointer (some ⟨W3.heap.size, 0, none⟩), .pointer (some ⟨W3.heap.size + 1, 0, none⟩), .pointer (some ⟨W3.heap.size + 2, 0, none⟩)]] 53)
      rw [World.size_alloc] at h
      exact h
    clear hW5
    go_wp2_with fail
    refine (behind_any (fr : Int) _ _ _ W5).mono ?_
    rintro e W6 ⟨rfl, hW6⟩
    have g6 : Hid (W5.grownBy W6 none) := by rw [hW6]; exact gallocR (galloc _ _ _) _
    obtain ⟨z6a, z6b⟩ : W6.heap.size ≤ W5.heap.size + 2 ∧ W5.heap.size + 2 ≤ W6.heap.size := by rw [hW6]; simp
    have n6 : W6.heap[W5.heap.size]? = some (.cells #[.int .i64 (fr : Int)] 3 (0, 0)) := by rw [hW6]; exact (Below.heap_alloc _ _ _ (by simp)).trans (World.alloc_heap_new _ _)
    have r6 : W6.heap[W5.heap.size + 1]? = some (.cells #[.func (.func 39) #[] #[.pointer (some ⟨W4.heap.size, 0, none⟩), .pointer (some ⟨W4.heap.size + 1, 0, none⟩)]] 53 (0, 0)) := by
      rw [hW6]
      have h := World.alloc_heap_new (W5.alloc (.cells #[.int .i64 (fr : Int)] 3)) (.cells #[.func (.func 39) #[] #[.pointer (some ⟨W4.heap.size, 0, none⟩), .pointer (some ⟨W4.heap.size + 1, 0, none⟩)]] 53)
      rw [World.size_alloc] at h
      exact h
    clear hW6
    have n5' := (g6.out.block W4.heap.size (by omega) (by simp)).trans n5
    have r5' := (g6.out.block (W4.heap.size + 1) (by omega) (by simp)).trans r5
    have S0 := HS.out W6 6 (by decide) (gtrans g5.out g6.out)
    have S1 := first_seq 7 (by decide) (fr + mn) (W4.heap.size + 1) W4.heap.size W6 (enters_of Try.func36 (by kernel_rfl) rfl) S0 (fun k hk => by rcases hk with rfl | rfl | rfl | rfl | rfl <;> omega) (fun b hb => by cases hb; omega) (fun pre x hx => by obtain ⟨_, _, h⟩ := hx; omega) r5' n5' (by simp; omega) (by simp; omega)
    have S2 := behind_seq 8 (by decide) fr (W5.heap.size + 1) W5.heap.size W6 (enters_of Try.func39 (by kernel_rfl) rfl) S1 (fun k hk => by rcases hk with (rfl | rfl | rfl | rfl | rfl) | rfl | rfl <;> omega) (fun b hb => by cases hb; omega) (fun pre x hx => by obtain ⟨⟨_, _, h⟩, _⟩ := hx; omega) r6 n6 (by simp; omega) (by simp; omega)
    have HC : Hid (∀ u : Unit, _) := fun _ => collect_wide W6 (enters_of Try.func41 (by kernel_rfl) rfl) S2 (fun k hk => by rcases hk with ((rfl | rfl | rfl | rfl | rfl) | rfl | rfl) | rfl | rfl <;> omega) (fun b hb => by cases hb; omega) (fun pre x hx => by obtain ⟨p0, _, ⟨_, _, h⟩, _⟩ := hx; rw [List.length_append] at h; omega)
    have G6 : Hid (w.grownBy W6 none) := gtrans G4.out (gtrans g5.out g6.out)
    have hsome : ∀ x, someR l fr mn = x ↔ (match walkR b z (fr + mn) (-1) (l.drop 18) with | (_, .inl k) => Sum.inl k | (rs, .inr _) => .inr (rs.drop fr)) = x := fun x => by
      unfold someR
      rw [HO.out]
      simp only [if_pos (And.intro hc1 hc2)]
    have HSO : Hid _ := hsome
    clear n5 r5 n5' r5' n6 r6 S0 S1 S2 HS hsome
    go_wp2_with fail
    refine (HC.out ()).mono ?_
    rintro e W7 ⟨hg7, (⟨xs, v, ⟨ys, hF, rfl⟩, rfl, hown⟩ | ⟨ch, xs, ⟨ys, ⟨⟨k, rfl, hk⟩, hyl⟩, rfl⟩, rfl⟩)⟩
    · have hwk : ∃ q', walkR b z (fr + mn) (-1) (l.drop 18) = (ys, .inr q') := by
        rcases hF with ⟨h0, rfl⟩ | ⟨⟨q', hw, _⟩, hlt⟩ | ⟨⟨_, q', hw⟩, hlt⟩
        · rw [h0]
          exact ⟨_, rfl⟩
        · have := walk_length b z m (-1) _ hw
          omega
        · rw [hlt] at hw
          exact ⟨q', hw⟩
      obtain ⟨q', hwk⟩ := hwk
      have HA : Hid (someR l fr mn = .inr (ys.drop fr)) := by
        refine (HSO.out _).2 ?_
        rw [hwk]
      have HOW : Hid _ := hown
      have G7 : Hid (w.grownBy W7 none) := grown_fresh G6.out hg7 (by omega)
      obtain ⟨a, ln, cp, rfl⟩ : ∃ a ln cp, v = .slice a ln cp := by
        rcases hown.2 with ⟨rfl, _⟩ | ⟨g, cap, cur, rfl, _⟩
        · exact ⟨_, _, _, rfl⟩
        · exact ⟨_, _, _, rfl⟩
      clear hF hwk hown hg7
      go_wp2
      go_ret
      exact ⟨G7.out, .inr ⟨_, _, HA.out, rfl, OwnsR.base HOW.out (by omega)⟩⟩
    · refine ⟨rfl, grown_fresh G6.out hg7 (by omega), .inl ⟨k, ?_, rfl⟩⟩
      refine (HSO.out _).2 ?_
      rcases hk with hk | ⟨q', hw, _⟩
      · rw [walk_cut b z m (fr + mn) (-1) _ ys k hk hyl]
      · have := walk_length b z m (-1) _ hw
        omega
  · have hsome : ∀ x, someR l fr mn = x ↔ (match parseR l with | .inl k => Sum.inl k | .inr (_, _, _, _, rs) => .inr (rs.drop fr)) = x := fun x => by
      unfold someR
      rw [HO.out]
      simp only [if_neg hcase]
    have hpar : parseR l = (match walkR b z m (-1) (l.drop 18) with | (_, .inl k) => Sum.inl k | (rs, .inr q) => match endR l (l.length - q.length) with | some k => .inl k | none => .inr (f, t, b, z, rs)) := by
      unfold parseR
      rw [HO.out]
      rfl
    have HSO : Hid _ := hsome
    have HPA : Hid _ := hpar
    clear hsome hpar
    have hor : (decide (fr < m) = false ∧ decide ((fr : Int) < (m : Int)) = false) ∨ (decide (fr < m) = true ∧ decide ((mn : Int) < (m : Int) - (fr : Int)) = false) := by
      simp
      omega
    clear hcase
    rcases hor with e1 | ⟨e1, e2⟩
    all_goals
      go_wp2_with fail
      refine (behind_any (fr : Int) _ _ _ W4).mono ?_
      rintro e W5 ⟨rfl, hW5⟩
      have g5 : Hid (W4.grownBy W5 none) := by rw [hW5]; exact gallocR (galloc _ _ _) _
      obtain ⟨z5a, z5b⟩ : W5.heap.size ≤ W4.heap.size + 2 ∧ W4.heap.size + 2 ≤ W5.heap.size := by rw [hW5]; simp
      have n5 : W5.heap[W4.heap.size]? = some (.cells #[.int .i64 (fr : Int)] 3 (0, 0)) := by rw [hW5]; exact (Below.heap_alloc _ _ _ (by simp)).trans (World.alloc_heap_new _ _)
      have r5 : W5.heap[W4.heap.size + 1]? = some (.cells #[.func (.func 36) #[] #[.pointer (some ⟨W3.heap.size, 0, none⟩), .pointer (some ⟨W3.heap.size + 1, 0, none⟩), .pointer (some ⟨W3.heap.size + 2, 0, none⟩)]] 53 (0, 0)) := by
        rw [hW5]
        have h := World.alloc_heap_new (W4.alloc (.cells #[.int .i64 (fr : Int)] 3)) (.cells #[.func (.func 36) #[] #[.pointer (some ⟨W3.heap.size, 0, none⟩), .pointer (some ⟨W3.heap.size + 1, 0, none⟩), .pointer (some ⟨W3.heap.size + 2, 0, none⟩)]] 53)
        rw [World.size_alloc] at h
        exact h
      clear hW5
      have S0 := HS.out W5 7 (by decide) g5.out
      have S2 := behind_seq 8 (by decide) fr (W4.heap.size + 1) W4.heap.size W5 (enters_of Try.func36 (by kernel_rfl) rfl) S0 (fun k hk => by rcases hk with rfl | rfl | rfl | rfl | rfl <;> omega) (fun b hb => by cases hb; omega) (fun pre x hx => by obtain ⟨_, _, h⟩ := hx; omega) r5 n5 (by simp; omega) (by simp; omega)
      have HC : Hid (∀ u : Unit, _) := fun _ => collect_wide W5 (enters_of Try.func41 (by kernel_rfl) rfl) S2 (fun k hk => by rcases hk with (rfl | rfl | rfl | rfl | rfl) | rfl | rfl <;> omega) (fun b hb => by cases hb; omega) (fun pre x hx => by obtain ⟨p0, _, _, _, h⟩ := hx; rw [List.length_append] at h; omega)
      have G5 : Hid (w.grownBy W5 none) := gtrans G4.out g5.out
      clear n5 r5 S0 S2 HS
      go_wp2_with fail
      refine (HC.out ()).mono ?_
      rintro e W7 ⟨hg7, (⟨xs, v, ⟨ys, ⟨q', hw, he⟩, rfl⟩, rfl, hown⟩ | ⟨ch, xs, ⟨ys, ⟨k, rfl, hk⟩, rfl⟩, rfl⟩)⟩
      · have HA : Hid (someR l fr mn = .inr (ys.drop fr)) := by
          refine (HSO.out _).2 ?_
          rw [HPA.out, hw]
          simp only [he]
        have HOW : Hid _ := hown
        have G7 : Hid (w.grownBy W7 none) := grown_fresh G5.out hg7 (by omega)
        obtain ⟨a, ln, cp, rfl⟩ : ∃ a ln cp, v = .slice a ln cp := by
          rcases hown.2 with ⟨rfl, _⟩ | ⟨g, cap, cur, rfl, _⟩
          · exact ⟨_, _, _, rfl⟩
          · exact ⟨_, _, _, rfl⟩
        clear hw he hown hg7
        go_wp2
        go_ret
        exact ⟨G7.out, .inr ⟨_, _, HA.out, rfl, OwnsR.base HOW.out (by omega)⟩⟩
      · refine ⟨rfl, grown_fresh G5.out hg7 (by omega), .inl ⟨k, ?_, rfl⟩⟩
        refine (HSO.out _).2 ?_
        rw [HPA.out]
        rcases hk with hk | ⟨q', hw, he⟩
        · rw [hk]
        · rw [hw]
          simp only [he]
end Go.Proofs.Ytdjmhagclcfnfab
