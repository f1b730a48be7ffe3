/- The walk of Reads. -/
import Derived.Test.YtdjmhagclcfnfaaLOwn3
import Derived.Test.YtdjmhagclcfnfaaLExact2
namespace Go.Proofs.Ytdjmhagclcfnfaa
open Go.RowKit Go.Shelf

/-- What Parse tells, in one shape: the four numbers, the records, the error. -/
def res (l : List UInt8) : Int × Int × Int × Int × List Rc × Int :=
  match parseR l with
  | .inl k => (0, 0, 0, 0, [], k)
  | .inr (f, t, b, z, rs) => (f, t, b, z, rs, 0)
theorem res_len (l : List UInt8) : (res l).2.2.2.2.1.length ≤ 100 := by
  unfold res
  split
  · simp
  · rename_i f t b z rs h
    obtain ⟨_, hw, ho⟩ := parse_exact l f t b z rs h
    obtain ⟨h1, h2, h3, h4, h5, h6, h7, h8, h9⟩ : (0 : Int) ≤ f ∧ (f : Int) ≤ 2147483647 ∧ (1 : Int) ≤ t ∧ (t : Int) ≤ 2147483647 ∧ (f : Int) ≠ t ∧ (1 : Int) ≤ b ∧ (b : Int) ≤ 100 ∧ (1 : Int) ≤ z ∧ (z : Int) ≤ 64 := of_decide_eq_true hw
    have := recsOk_length b z rs ho (by omega)
    simp only
    omega
theorem told_shape {l : List UInt8} {w w' : World} {e : Ending} (h : Told l w e w') :
    ∃ a c, e = .returned (.tuple #[.agg #[.int .i64 (res l).1, .int .i64 (res l).2.1, .int .i64 (res l).2.2.1, .int .i64 (res l).2.2.2.1, .slice a (res l).2.2.2.2.1.length c], .int .i64 (res l).2.2.2.2.2]) ∧ OwnsR w.heap.size w' (.slice a (res l).2.2.2.2.1.length c) (res l).2.2.2.2.1 ∧ w.grownBy w' none := by
  obtain ⟨hg, (⟨k, hk, rfl⟩ | ⟨f, t, b, z, rs, v, hk, rfl, ho⟩)⟩ := h
  · have : res l = (0, 0, 0, 0, [], k) := by unfold res; rw [hk]
    rw [this]
    exact ⟨none, 0, rfl, World.ownsRow_nil _ _ _ _, hg⟩
  · have : res l = ((f : Int), (t : Int), (b : Int), (z : Int), rs, 0) := by unfold res; rw [hk]
    rw [this]
    obtain ⟨a, c, rfl⟩ := ho.recs.slice
    exact ⟨a, c, rfl, ho, hg⟩

set_option maxRecDepth 100000 in
set_option maxHeartbeats 2000000 in
theorem reads_walk (l : List UInt8) (w : World) (hl : l.length ≤ 4611686018427387904) :
    Calls Try.prog 3 #[.string ⟨l.toArray⟩] w fun e w' => e = .returned (.bool true) ∧ w.grownBy w' none := by
  have HR : Hid (∀ W, _) := fun W => rparse l W hl
  have HP : Hid (∀ W, _) := fun W => pparse l W hl
  have HN := res_len l
  have HT : Hid (∀ w e w', Told l w e w' → _) := fun w e w' h => told_shape h
  generalize res l = R at *
  obtain ⟨F, T, Bk, Z, rs, k⟩ := R
  simp only at HN HT
  go_enter Try.func3, Try.ntmps3
  go_wp2_with fail
  refine (HR.out _).mono ?_
  rintro e w1 h1
  obtain ⟨aw, cw, rfl, ow, g1⟩ := HT.out _ _ _ h1
  obtain ⟨W1, hW1⟩ : ∃ W1, W1 = w1.alloc (.cells #[.int .i64 F, .int .i64 T, .int .i64 Bk, .int .i64 Z, .slice aw rs.length cw] 24) := ⟨_, rfl⟩
  have q1 : Hid (W1.heap[w1.heap.size]? = some (.cells #[.int .i64 F, .int .i64 T, .int .i64 Bk, .int .i64 Z, .slice aw rs.length cw] 24 (0, 0))) := by rw [hW1]; exact World.alloc_heap_new _ _
  have hs1 : W1.heap.size = w1.heap.size + 1 := by rw [hW1]; simp
  have RW : Hid (∀ W, Below W1.heap.size W1 W → Recs W.heap.size W (.slice aw rs.length cw) rs) := by
    intro W hW
    exact (ow.recs.moved (W' := W1) (by rw [hW1]; exact (Below.refl _ _).alloc (Nat.le_refl _) _)).moved hW
  have G1 : Hid (w.grownBy W1 none) := by rw [hW1]; exact gallocR g1 _
  clear h1 ow g1
  go_wp2_with fail
  rw [← hW1]
  clear hW1
  refine (HP.out _).mono ?_
  rintro e w2 h2
  obtain ⟨ax, cx, rfl, ox, g2⟩ := HT.out _ _ _ h2
  have B2 : Hid (Below W1.heap.size W1 w2) := below_of_grown g2
  have q2 := (B2.out.block w1.heap.size (by omega)).trans q1.out
  have hz2 : w1.heap.size < w2.heap.size := by have := B2.out.size; omega
  obtain ⟨c0, c1, c2, c3, c4, -⟩ := box5 q2
  have OX : Hid _ := ox
  clear h2 g2 q2 ox
  go_wp2_with fail
  obtain ⟨W2, hW2⟩ : ∃ W2, W2 = w2.alloc (.cells #[.int .i64 F, .int .i64 T, .int .i64 Bk, .int .i64 Z, .slice ax rs.length cx] 24) := ⟨_, rfl⟩
  have p2 : Hid (W2.heap[w2.heap.size]? = some (.cells #[.int .i64 F, .int .i64 T, .int .i64 Bk, .int .i64 Z, .slice ax rs.length cx] 24 (0, 0))) := by rw [hW2]; exact World.alloc_heap_new _ _
  have hs2 : W2.heap.size = w2.heap.size + 1 := by rw [hW2]; simp
  have BW2 : Hid (Below W1.heap.size W1 W2) := by rw [hW2]; exact B2.out.alloc (by omega) _
  have OX2 : Hid (OwnsR W1.heap.size W2 (.slice ax rs.length cx) rs) := by rw [hW2]; exact OX.out.alloc _
  rw [← hW2]
  clear hW2 c0 c1 c2 c3 c4
  refine (lsame_eq F T Bk Z _ _ rs W2 OX2.out.recs (RW.out _ BW2.out) (by omega)).mono ?_
  rintro e w3 ⟨rfl, g3⟩
  have q3 := (box_kept p2.out g3).1
  have O3 : Hid (OwnsR W1.heap.size w3 (.slice ax rs.length cx) rs) := OX2.out.kept g3
  have hz3 : W2.heap.size ≤ w3.heap.size := g3.size
  have B3 : Hid (Below W1.heap.size W1 w3) := BW2.out.grown g3 (by omega) (by simp)
  obtain ⟨c0, c1, c2, c3, c4, -⟩ := box5 q3
  clear g3 q3
  go_wp2_with fail
  clear c0 c1 c2 c3 c4
  refine (ownRecords_any _ rs _ W1.heap.size w3 O3.out (by omega) (by omega)).mono ?_
  rintro e w4 ⟨one, rfl, m4, g4⟩
  have M4 : Hid _ := m4
  have B4 : Hid (Below W1.heap.size W1 w4) := B3.out.grown g4 (by omega) O3.out.own_ge
  have hz4 : w3.heap.size ≤ w4.heap.size := g4.size
  clear m4 g4
  go_wp2_with fail
  refine (HP.out _).mono ?_
  rintro e w5 h5
  obtain ⟨ay, cy, rfl, oy, g5⟩ := HT.out _ _ _ h5
  have B5 : Hid (Below w4.heap.size w4 w5) := below_of_grown g5
  have hz5 : w4.heap.size ≤ w5.heap.size := g5.size
  have A5 : Hid (Below W1.heap.size W1 w5) := B4.out.grown g5 (by omega) (by simp)
  have q5 := (A5.out.block w1.heap.size (by omega)).trans q1.out
  obtain ⟨c0, c1, c2, c3, c4, -⟩ := box5 q5
  have OY : Hid _ := oy
  have hy5 : w1.heap.size < w5.heap.size := by omega
  clear h5 g5 q5 oy
  go_wp2_with fail
  obtain ⟨W5, hW5⟩ : ∃ W5, W5 = w5.alloc (.cells #[.int .i64 F, .int .i64 T, .int .i64 Bk, .int .i64 Z, .slice ay rs.length cy] 24) := ⟨_, rfl⟩
  have p5 : Hid (W5.heap[w5.heap.size]? = some (.cells #[.int .i64 F, .int .i64 T, .int .i64 Bk, .int .i64 Z, .slice ay rs.length cy] 24 (0, 0))) := by rw [hW5]; exact World.alloc_heap_new _ _
  have hs5 : W5.heap.size = w5.heap.size + 1 := by rw [hW5]; simp
  have AW5 : Hid (Below W1.heap.size W1 W5) := by rw [hW5]; exact A5.out.alloc (by omega) _
  have BW5 : Hid (Below w4.heap.size w4 W5) := by rw [hW5]; exact B5.out.alloc (by omega) _
  have OY5 : Hid (OwnsR w4.heap.size W5 (.slice ay rs.length cy) rs) := by rw [hW5]; exact OY.out.alloc _
  rw [← hW5]
  clear hW5 c0 c1 c2 c3 c4
  refine (lsame_eq F T Bk Z _ _ rs W5 OY5.out.recs (RW.out _ AW5.out) (by omega)).mono ?_
  rintro e w6 ⟨rfl, g6⟩
  have q6 := (box_kept p5.out g6).1
  have O6 : Hid (OwnsR w4.heap.size w6 (.slice ay rs.length cy) rs) := OY5.out.kept g6
  have hz6 : W5.heap.size ≤ w6.heap.size := g6.size
  have B6 : Hid (Below w4.heap.size w4 w6) := BW5.out.grown g6 (by omega) (by simp)
  obtain ⟨c0, c1, c2, c3, c4, -⟩ := box5 q6
  clear g6 q6
  go_wp2_with fail
  clear c0 c1 c2 c3 c4
  refine (ownRecords_any _ rs _ w4.heap.size w6 O6.out (by omega) (by omega)).mono ?_
  rintro e w7 ⟨two, rfl, m7, g7⟩
  have M7 : Hid _ := m7
  have B7 : Hid (Below w4.heap.size w4 w7) := B6.out.grown g7 (by omega) O6.out.own_ge
  have hz7 : w6.heap.size ≤ w7.heap.size := g7.size
  clear m7 g7
  go_wp2_with fail
  refine (keptRecords_any one _ rs.length w4.heap.size w7 (Marked.below M4.out B7.out) (by omega)).mono ?_
  rintro e w8 ⟨rfl, g8⟩
  have G8 : Hid _ := g8
  have hz8 : w7.heap.size ≤ w8.heap.size := g8.size
  clear g8
  go_wp2_with fail
  refine (keptRecords_any two _ rs.length w7.heap.size w8 (Marked.below M7.out (below_of_grown G8.out)) (by omega)).mono ?_
  rintro e w9 ⟨rfl, g9⟩
  have G9 : Hid _ := g9
  clear g9
  go_wp2
  go_ret
  refine ⟨rfl, gtrans G1.out (gbelow ?_)⟩
  exact (B4.out.trans (B7.out.mono (by omega))).grown (gtrans G8.out G9.out) (by omega) (by simp)
end Go.Proofs.Ytdjmhagclcfnfaa
