/- The walk of Somes. -/
import Derived.Test.YtpopjmkipddpgaaRSome
import Derived.Test.YtpopjmkipddpgaaLOwn3
namespace Go.Proofs.Ytpopjmkipddpgaa
open Go.RowKit Go.Shelf

set_option maxRecDepth 100000 in
set_option maxHeartbeats 1000000 in
theorem rsome_bad (l : List UInt8) (fr mn : Int) (w : World) (h : fr < 0 ∨ mn < 0) :
    Calls Try.prog 23 #[.string ⟨l.toArray⟩, .int .i64 fr, .int .i64 mn] w fun e w' => w.grownBy w' none ∧ e = .returned (.tuple #[.slice none 0 0, .int .i64 1]) := by
  have e1 : (decide (fr < 0) || decide (mn < 0)) = true := by simpa using h
  go_enter Try.func23, Try.ntmps23
  go_wp2
  all_goals
    refine bodyPost_ret (results_tmp2 rfl _ _ _) rfl ?_
    exact ⟨drew_grown _ 0 _, rfl⟩

theorem someR_len (l : List UInt8) (fr mn : Nat) (rs : List Rc) (h : someR l fr mn = .inr rs) : rs.length ≤ 100 := by
  unfold someR at h
  cases ho : openR l with
  | inl k => rw [ho] at h; cases h
  | inr v =>
    obtain ⟨f, t, b, z, m⟩ := v
    rw [ho] at h
    simp only [] at h
    obtain ⟨_, _, hw, hm, _, _⟩ := openR_ok l f t b z m ho
    obtain ⟨h1, h2, h3, h4, h5, h6, h7, h8, h9⟩ : (0 : Int) ≤ f ∧ (f : Int) ≤ 2147483647 ∧ (1 : Int) ≤ t ∧ (t : Int) ≤ 2147483647 ∧ (f : Int) ≠ t ∧ (1 : Int) ≤ b ∧ (b : Int) ≤ 100 ∧ (1 : Int) ≤ z ∧ (z : Int) ≤ 64 := of_decide_eq_true hw
    split at h
    · rename_i hc
      cases hk : walkR b z (fr + mn) (-1) (l.drop 18) with
      | mk ys y =>
        rw [hk] at h
        cases y with
        | inl k => cases h
        | inr q =>
          have hl := walk_length b z (fr + mn) (-1) _ hk
          cases h
          rw [List.length_drop]
          omega
    · cases hp : parseR l with
      | inl k => rw [hp] at h; cases h
      | inr v =>
        obtain ⟨f', t', b', z', ys⟩ := v
        rw [hp] at h
        have hl := parse_len ho hp
        cases h
        rw [List.length_drop]
        omega

/-- Both Somes answer one and the same. -/
theorem some_both (l : List UInt8) (fr mn : Int) (hl : l.length ≤ 4611686018427387904) (h1 : fr ≤ 9223372036854775807) (h2 : mn ≤ 9223372036854775807) : ∃ (rs : List Rc) (k : Int), rs.length ≤ 100 ∧
    (∀ w, Calls Try.prog 23 #[.string ⟨l.toArray⟩, .int .i64 fr, .int .i64 mn] w fun e w' => ∃ a c, e = .returned (.tuple #[.slice a rs.length c, .int .i64 k]) ∧ Recs w'.heap.size w' (.slice a rs.length c) rs ∧ w.grownBy w' none) ∧
    (∀ w, Calls Try.prog 24 #[.string ⟨l.toArray⟩, .int .i64 fr, .int .i64 mn] w fun e w' => ∃ a c, e = .returned (.tuple #[.slice a rs.length c, .int .i64 k]) ∧ OwnsR w.heap.size w' (.slice a rs.length c) rs ∧ w.grownBy w' none) := by
  by_cases hb : fr < 0 ∨ mn < 0
  · refine ⟨[], 1, by simp, fun w => (rsome_bad l fr mn w hb).mono ?_, fun w => (psome_bad l fr mn w hb).mono ?_⟩
    · rintro e w' ⟨hg, rfl⟩
      exact ⟨none, 0, rfl, .inl ⟨rfl, none, 0, rfl⟩, hg⟩
    · rintro e w' ⟨hg, rfl⟩
      exact ⟨none, 0, rfl, World.ownsRow_nil _ _ _ _, hg⟩
  · obtain ⟨F, rfl⟩ := Int.eq_ofNat_of_zero_le (show 0 ≤ fr by omega)
    obtain ⟨M, rfl⟩ := Int.eq_ofNat_of_zero_le (show 0 ≤ mn by omega)
    cases hs : someR l F M with
    | inl k =>
      refine ⟨[], k, by simp, fun w => (rsome l F M w hl (by omega) (by omega)).mono ?_, fun w => (psome l F M w hl (by omega) (by omega)).mono ?_⟩
      · rintro e w' ⟨hg, (⟨k', hk, rfl⟩ | ⟨rs, v, hk, rfl, ho⟩)⟩
        · rw [hs] at hk; cases hk
          exact ⟨none, 0, rfl, .inl ⟨rfl, none, 0, rfl⟩, hg⟩
        · rw [hs] at hk; cases hk
      · rintro e w' ⟨hg, (⟨k', hk, rfl⟩ | ⟨rs, v, hk, rfl, ho⟩)⟩
        · rw [hs] at hk; cases hk
          exact ⟨none, 0, rfl, World.ownsRow_nil _ _ _ _, hg⟩
        · rw [hs] at hk; cases hk
    | inr rs =>
      refine ⟨rs, 0, someR_len l F M rs hs, fun w => (rsome l F M w hl (by omega) (by omega)).mono ?_, fun w => (psome l F M w hl (by omega) (by omega)).mono ?_⟩
      · rintro e w' ⟨hg, (⟨k', hk, rfl⟩ | ⟨rs', v, hk, rfl, ho⟩)⟩
        · rw [hs] at hk; cases hk
        · rw [hs] at hk; cases hk
          obtain ⟨a, c, rfl⟩ := ho.slice
          exact ⟨a, c, rfl, ho, hg⟩
      · rintro e w' ⟨hg, (⟨k', hk, rfl⟩ | ⟨rs', v, hk, rfl, ho⟩)⟩
        · rw [hs] at hk; cases hk
        · rw [hs] at hk; cases hk
          obtain ⟨a, c, rfl⟩ := ho.recs.slice
          exact ⟨a, c, rfl, ho, hg⟩

set_option maxRecDepth 100000 in
set_option maxHeartbeats 2000000 in
theorem somes_walk (l : List UInt8) (fr mn : Int) (w : World) (hl : l.length ≤ 4611686018427387904) (h1 : fr ≤ 9223372036854775807) (h2 : mn ≤ 9223372036854775807) :
    Calls Try.prog 6 #[.string ⟨l.toArray⟩, .int .i64 fr, .int .i64 mn] w fun e w' => e = .returned (.bool true) ∧ w.grownBy w' none := by
  obtain ⟨rs, k, HN, hr, hp⟩ := some_both l fr mn hl h1 h2
  have HR : Hid _ := hr
  have HP : Hid _ := hp
  clear hr hp h1 h2
  go_enter Try.func6, Try.ntmps6
  go_wp2_with fail
  refine (HR.out _).mono ?_
  rintro e w1 ⟨aw, cw, rfl, ow, g1⟩
  have RW : Hid (∀ W, Below w1.heap.size w1 W → Recs W.heap.size W (.slice aw rs.length cw) rs) := fun W h => ow.moved h
  have G1 : Hid _ := g1
  clear ow g1
  go_wp2_with fail
  refine (HP.out _).mono ?_
  rintro e w2 ⟨ax, cx, rfl, ox, g2⟩
  have B2 : Hid (Below w1.heap.size w1 w2) := below_of_grown g2
  have z2 : w1.heap.size ≤ w2.heap.size := g2.size
  have OX : Hid _ := ox
  clear ox g2
  go_wp2_with fail
  refine (same_any _ _ rs w2 (OwnsR.recs OX.out) (RW.out _ B2.out) (by omega)).mono ?_
  rintro e w3 ⟨rfl, n3, h3⟩
  have O3 : Hid (OwnsR w1.heap.size w3 (.slice ax rs.length cx) rs) := by rw [h3]; exact OX.out
  have B3 : Hid (Below w1.heap.size w1 w3) := by rw [h3]; exact ⟨B2.out.os, B2.out.tape, B2.out.output, B2.out.size, B2.out.block⟩
  have z3 : w1.heap.size ≤ w3.heap.size := B3.out.size
  clear h3 OX B2
  go_wp2_with fail
  refine (ownRecords_any _ rs _ w1.heap.size w3 O3.out (by omega) (by omega)).mono ?_
  rintro e w4 ⟨one, rfl, m4, g4⟩
  have M4 : Hid _ := m4
  have B4 : Hid (Below w1.heap.size w1 w4) := B3.out.grown g4 (by omega) (OwnsR.own_ge O3.out)
  have z4 : w3.heap.size ≤ w4.heap.size := g4.size
  clear m4 g4 O3
  go_wp2_with fail
  refine (HP.out _).mono ?_
  rintro e w5 ⟨ay, cy, rfl, oy, g5⟩
  have B5 : Hid (Below w4.heap.size w4 w5) := below_of_grown g5
  have z5 : w4.heap.size ≤ w5.heap.size := g5.size
  have OY : Hid _ := oy
  clear oy g5
  go_wp2_with fail
  refine (same_any _ _ rs w5 (OwnsR.recs OY.out) (RW.out _ (B4.out.trans (B5.out.mono (by omega)))) (by omega)).mono ?_
  rintro e w6 ⟨rfl, n6, h6⟩
  have O6 : Hid (OwnsR w4.heap.size w6 (.slice ay rs.length cy) rs) := by rw [h6]; exact OY.out
  have B6 : Hid (Below w4.heap.size w4 w6) := by rw [h6]; exact ⟨B5.out.os, B5.out.tape, B5.out.output, B5.out.size, B5.out.block⟩
  have z6 : w4.heap.size ≤ w6.heap.size := B6.out.size
  clear h6 OY B5
  go_wp2_with fail
  refine (ownRecords_any _ rs _ w4.heap.size w6 O6.out (by omega) (by omega)).mono ?_
  rintro e w7 ⟨two, rfl, m7, g7⟩
  have M7 : Hid _ := m7
  have B7 : Hid (Below w4.heap.size w4 w7) := B6.out.grown g7 (by omega) (OwnsR.own_ge O6.out)
  have z7 : w6.heap.size ≤ w7.heap.size := g7.size
  clear m7 g7 O6
  go_wp2_with fail
  refine (keptRecords_any one _ rs.length w4.heap.size w7 (Marked.below M4.out B7.out) (by omega)).mono ?_
  rintro e w8 ⟨rfl, g8⟩
  have G8 : Hid _ := g8
  have z8 : w7.heap.size ≤ w8.heap.size := g8.size
  clear g8
  go_wp2_with fail
  refine (keptRecords_any two _ rs.length w7.heap.size w8 (Marked.below M7.out (below_of_grown G8.out)) (by omega)).mono ?_
  rintro e w9 ⟨rfl, g9⟩
  have G9 : Hid _ := g9
  clear g9
  go_wp2
  go_ret
  refine ⟨rfl, gtrans G1.out (gbelow ?_)⟩
  exact (B4.out.trans (B7.out.mono (by omega))).grown (gtrans G8.out G9.out) (by omega) (by simp)
end Go.Proofs.Ytpopjmkipddpgaa
