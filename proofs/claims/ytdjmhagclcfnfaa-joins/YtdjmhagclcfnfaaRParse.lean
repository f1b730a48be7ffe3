/- The reference's number, opens. -/
import Derived.Test.YtdjmhagclcfnfaaKSame
namespace Go.Proofs.Ytdjmhagclcfnfaa
open Go.RowKit Go.Shelf

set_option maxRecDepth 100000 in
set_option maxHeartbeats 400000 in
theorem rnum_short (q : List UInt8) (k : Nat) (w : World) (hk : q.length < k) :
    Calls Try.prog 78 #[.string ⟨q.toArray⟩, .int .i64 k] w fun e w' => e = .returned (.tuple #[.int .i64 0, .bool false]) ∧ w' = w := by
  have hd : decide ((q.length : Int) < k) = true := by simp; omega
  go_enter Try.func78, Try.ntmps78
  go_wp2
  go_ret2
  exact ⟨rfl, rfl⟩

set_option maxRecDepth 100000 in
set_option maxHeartbeats 400000 in
theorem rnum_ok (q : List UInt8) (k : Nat) (w : World) (hk : k ≤ q.length) (h4 : k ≤ 4) (hl : q.length ≤ 4611686018427387904) :
    Calls Try.prog 78 #[.string ⟨q.toArray⟩, .int .i64 k] w fun e w' => e = .returned (.tuple #[.int .i64 (num (q.take k) : Nat), .bool true]) ∧ w' = w := by
  have hd : decide (q.length < k) = false := by simp; omega
  go_enter Try.func78, Try.ntmps78
  go_wp2
  go_loop [6, 7] (fun n i => ∃ j : Nat, j ≤ k ∧ i = .int .i64 j ∧ n = .int .i64 (num (q.take j) : Nat)) (fun _ i => k - (intOf i).toNat)
  case atStart => exact ⟨0, Nat.zero_le _, rfl, rfl⟩
  case round =>
    obtain ⟨j, hj, rfl, rfl⟩ := hrel
    by_cases hlt : j < k
    · have hts : q.take (j + 1) = q.take j ++ [q[j]] := List.take_succ_eq_append_getElem (by omega)
      have HS : Hid (num (q.take (j + 1)) = num (q.take j) * 256 + q[j].toNat) := by
        show _ = _
        rw [hts, num_snoc]
      have hlt2 : num (q.take j) < 16777216 := by
        have h1 := num_lt (q.take j)
        have h2 : (q.take j).length ≤ 3 := by simp; omega
        have h3 : 256 ^ (q.take j).length ≤ 256 ^ 3 := Nat.pow_le_pow_right (by decide) h2
        omega
      have hb := q[j].toNat_lt
      clear hts
      generalize num (q.take j) = m at *
      go_wp2
      go_round
      case rel =>
        refine ⟨j + 1, by omega, by go_num, ?_⟩
        have hq : (⟨q.toArray⟩ : ByteArray)[j] = q[j] := rfl
        rw [hq, w64_in (q[j].toNat : Int) (by omega) (by omega), w64_in _ (by omega) (by omega), HS.out]
        congr 1
        omega
      case measure => simp [intOf]; omega
    · go_wp2
      go_ret2
      obtain rfl : j = k := by omega
      exact ⟨rfl, rfl⟩

set_option maxRecDepth 100000 in
set_option maxHeartbeats 400000 in
theorem opens_short (l M : List UInt8) (least most : Nat) (w : World) (h : l.length < least) :
    Calls Try.prog 45 #[.string ⟨l.toArray⟩, .string ⟨M.toArray⟩, .int .i64 least, .int .i64 most] w fun e w' => e = .returned (.tuple #[.agg #[.int .i64 0, .int .i64 0, .int .i64 0, .int .i64 0, .slice none 0 0], .int .i64 0, .int .i64 2]) ∧ w.grownBy w' none := by
  have hd : decide (l.length < least) = true := by simp; omega
  go_enter Try.func45, Try.ntmps45
  go_wp2
  refine bodyPost_ret (v := .tuple #[.agg #[.int .i64 0, .int .i64 0, .int .i64 0, .int .i64 0, .slice none 0 0], .int .i64 0, .int .i64 2]) (by simp [results, Try.results45, go_sem]) rfl ?_
  exact ⟨rfl, gallocR (galloc _ _ _) _⟩

set_option maxRecDepth 100000 in
set_option maxHeartbeats 400000 in
theorem opens_magic (l M : List UInt8) (least most : Nat) (w : World) (h : least ≤ l.length) (h18 : 18 ≤ least) (hm : l.take 4 ≠ M) :
    Calls Try.prog 45 #[.string ⟨l.toArray⟩, .string ⟨M.toArray⟩, .int .i64 least, .int .i64 most] w fun e w' => e = .returned (.tuple #[.agg #[.int .i64 0, .int .i64 0, .int .i64 0, .int .i64 0, .slice none 0 0], .int .i64 0, .int .i64 3]) ∧ w.grownBy w' none := by
  have hd : decide (l.length < least) = false := by simp; omega
  have e1 : (((⟨l.toArray⟩ : ByteArray).extract 0 4).toList == M) = false := by
    rw [ByteArray.toList_eq, Lib.extract_data]
    simpa using hm
  go_enter Try.func45, Try.ntmps45
  go_wp2
  refine bodyPost_ret (v := .tuple #[.agg #[.int .i64 0, .int .i64 0, .int .i64 0, .int .i64 0, .slice none 0 0], .int .i64 0, .int .i64 3]) (by simp [results, Try.results45, go_sem]) rfl ?_
  exact ⟨rfl, gallocR (galloc _ _ _) _⟩

theorem rnum_at (s : ByteArray) (q : List UInt8) (k : Nat) (w : World) (h : s.data.toList = q) (hk : k ≤ q.length) (h4 : k ≤ 4) (hl : q.length ≤ 4611686018427387904) :
    Calls Try.prog 78 #[.string s, .int .i64 k] w fun e w' => e = .returned (.tuple #[.int .i64 (num (q.take k) : Nat), .bool true]) ∧ w' = w := by
  subst h
  exact rnum_ok s.data.toList k w hk h4 hl
theorem tail_data (l : List UInt8) (p : Nat) : ((⟨l.toArray⟩ : ByteArray).extract p l.length).data.toList = l.drop p := by
  rw [Lib.extract_data]
  simp only []
  exact List.take_of_length_le (by simp)

theorem rwell (f t b z : Int) (w : World) : Calls Try.prog 53 #[.agg #[.int .i64 f, .int .i64 t, .int .i64 b, .int .i64 z, .slice none 0 0]] w fun e w' => e = .returned (.bool (wellHead f t b z)) ∧ Below w.heap.size w w' := by
  cases h : wellHead f t b z with
  | false => exact well_bad f t b z none 0 0 w h
  | true => exact well_good f t b z (.slice none 0 0) [] w h (.inl ⟨rfl, none, 0, rfl⟩) (by simp)

set_option maxRecDepth 100000 in
set_option maxHeartbeats 2000000 in
theorem opens_rest (l M : List UInt8) (least most : Nat) (w : World) (h : least ≤ l.length) (h18 : 18 ≤ least) (hlen : l.length ≤ 4611686018427387904) (hm : l.take 4 = M) (f t b z m : Nat) (hh : headR l = (f, t, b, z, m)) (mo : Nat) (hmo : mo = if most = 0 then b else most) (ok : Bool) (hok : (wellHead f t b z && decide (m ≤ mo)) = ok) :
    Calls Try.prog 45 #[.string ⟨l.toArray⟩, .string ⟨M.toArray⟩, .int .i64 least, .int .i64 most] w fun e w' => e = .returned (if ok then .tuple #[.agg #[.int .i64 f, .int .i64 t, .int .i64 b, .int .i64 z, .slice none 0 0], .int .i64 m, .int .i64 0] else .tuple #[.agg #[.int .i64 0, .int .i64 0, .int .i64 0, .int .i64 0, .slice none 0 0], .int .i64 0, .int .i64 4]) ∧ w.grownBy w' none := by
  have hd : decide (l.length < least) = false := by simp; omega
  have e1 : (((⟨l.toArray⟩ : ByteArray).extract 0 4).toList == M) = true := by
    rw [ByteArray.toList_eq, Lib.extract_data]
    simpa using hm
  have hL : ∀ p, p ≤ 16 → (l.drop p).length = l.length - p := fun p _ => by simp
  have H1 : Hid (∀ W, _) := fun W => rnum_at _ _ 4 W (tail_data l 4) (by rw [hL 4 (by omega)]; omega) (by omega) (by rw [hL 4 (by omega)]; omega)
  have H2 : Hid (∀ W, _) := fun W => rnum_at _ _ 4 W (tail_data l 8) (by rw [hL 8 (by omega)]; omega) (by omega) (by rw [hL 8 (by omega)]; omega)
  have H3 : Hid (∀ W, _) := fun W => rnum_at _ _ 2 W (tail_data l 12) (by rw [hL 12 (by omega)]; omega) (by omega) (by rw [hL 12 (by omega)]; omega)
  have H4 : Hid (∀ W, _) := fun W => rnum_at _ _ 2 W (tail_data l 14) (by rw [hL 14 (by omega)]; omega) (by omega) (by rw [hL 14 (by omega)]; omega)
  have H5 : Hid (∀ W, _) := fun W => rnum_at _ _ 2 W (tail_data l 16) (by rw [hL 16 (by omega)]; omega) (by omega) (by rw [hL 16 (by omega)]; omega)
  simp only [headR, Prod.mk.injEq] at hh
  obtain ⟨h1, h2, h3, h4, h5⟩ := hh
  have n1 := num_le l 4 4 (by omega)
  have n2 := num_le l 8 4 (by omega)
  have n3 := num_le l 12 2 (by omega)
  have n4 := num_le l 14 2 (by omega)
  have n5 := num_le l 16 2 (by omega)
  rw [h1] at H1 n1
  rw [h2] at H2 n2
  rw [h3] at H3 n3
  rw [h4] at H4 n4
  rw [h5] at H5 n5
  clear h1 h2 h3 h4 h5 hL hm
  go_enter Try.func45, Try.ntmps45
  go_wp2_with fail
  refine (H1.out _).mono ?_
  rintro e w1 ⟨rfl, rfl⟩
  go_wp2_with fail
  refine (H2.out _).mono ?_
  rintro e w1 ⟨rfl, rfl⟩
  go_wp2_with fail
  refine (H3.out _).mono ?_
  rintro e w1 ⟨rfl, rfl⟩
  go_wp2_with fail
  refine (H4.out _).mono ?_
  rintro e w1 ⟨rfl, rfl⟩
  go_wp2_with fail
  refine (H5.out _).mono ?_
  rintro e w1 ⟨rfl, rfl⟩
  go_wp2_with fail
  obtain ⟨W1, hW1⟩ : ∃ W1, W1 = (w.alloc (.cells #[.int .i64 0, .int .i64 0, .int .i64 0, .int .i64 0, .slice none 0 0] 24)).alloc (.cells #[.int .i64 f, .int .i64 t, .int .i64 b, .int .i64 z, .slice none 0 0] 24) := ⟨_, rfl⟩
  obtain ⟨hb1, hx1, hB1⟩ : W1.heap[w.heap.size]? = some (.cells #[.int .i64 0, .int .i64 0, .int .i64 0, .int .i64 0, .slice none 0 0] 24 (0, 0)) ∧ W1.heap[w.heap.size + 1]? = some (.cells #[.int .i64 f, .int .i64 t, .int .i64 b, .int .i64 z, .slice none 0 0] 24 (0, 0)) ∧ Below w.heap.size w W1 := by
    rw [hW1]
    exact two_boxes w _ _ _
  rw [← hW1]
  clear hW1
  refine (rwell f t b z W1).mono ?_
  rintro e W2 ⟨rfl, hb2'⟩
  have lt := fun {k : Nat} {o : Obj} (e : W1.heap[k]? = some o) => (Array.getElem?_eq_some_iff.1 e).1
  have hb2 := (hb2'.block _ (lt hb1)).trans hb1
  have hx2 := (hb2'.block _ (lt hx1)).trans hx1
  have hlt2 : w.heap.size + 1 < W2.heap.size := Nat.lt_of_lt_of_le (lt hx1) hb2'.size
  have G2 : Hid (w.grownBy W2 none) := gbelow (hB1.trans (hb2'.mono hB1.size))
  have c0 := boxed_cell (i := 0) hb2 rfl
  have f0 := boxed_frozen (i := 0) hb2
  have c1 := boxed_cell (i := 1) hb2 rfl
  have f1 := boxed_frozen (i := 1) hb2
  have c2 := boxed_cell (i := 2) hb2 rfl
  have f2 := boxed_frozen (i := 2) hb2
  have c3 := boxed_cell (i := 3) hb2 rfl
  have f3 := boxed_frozen (i := 3) hb2
  have c4 := boxed_cell (i := 4) hb2 rfl
  have f4 := boxed_frozen (i := 4) hb2
  have d0 := boxed_cell (i := 0) hx2 rfl
  have d1 := boxed_cell (i := 1) hx2 rfl
  have d2 := boxed_cell (i := 2) hx2 rfl
  have d3 := boxed_cell (i := 3) hx2 rfl
  have d4 := boxed_cell (i := 4) hx2 rfl
  clear hb2 hx2 hb1 hx1 hB1 hb2' lt
  generalize wellHead f t b z = wh at *
  cases wh with
  | false =>
    obtain rfl : ok = false := by rw [← hok]; rfl
    clear hok hmo
    by_cases h0 : most = 0
    · subst h0
      go_wp2
      refine bodyPost_ret (v := .tuple #[.agg #[.int .i64 0, .int .i64 0, .int .i64 0, .int .i64 0, .slice none 0 0], .int .i64 0, .int .i64 4]) (by simp [results, Try.results45, go_sem, c0, c1, c2, c3, c4]) rfl ?_
      exact ⟨rfl, gfresh (gfresh (gfresh (gfresh (gfresh G2.out (by omega)) (by omega)) (by omega)) (by omega)) (by omega)⟩
    · have e0 : ((most : Int) == 0) = false := by simp [h0]
      go_wp2
      refine bodyPost_ret (v := .tuple #[.agg #[.int .i64 0, .int .i64 0, .int .i64 0, .int .i64 0, .slice none 0 0], .int .i64 0, .int .i64 4]) (by simp [results, Try.results45, go_sem, c0, c1, c2, c3, c4]) rfl ?_
      exact ⟨rfl, gfresh (gfresh (gfresh (gfresh (gfresh G2.out (by omega)) (by omega)) (by omega)) (by omega)) (by omega)⟩
  | true =>
    by_cases h0 : most = 0
    · subst h0
      rw [if_pos rfl] at hmo
      subst mo
      by_cases hle : m ≤ b
      · obtain rfl : ok = true := by rw [← hok]; simpa using hle
        have e2 : decide (b < m) = false := by simp; omega
        go_wp2
        refine bodyPost_ret (v := .tuple #[.agg #[.int .i64 f, .int .i64 t, .int .i64 b, .int .i64 z, .slice none 0 0], .int .i64 m, .int .i64 0]) (by simp [results, Try.results45, go_sem, c0, c1, c2, c3, c4]) rfl ?_
        exact ⟨rfl, gfresh (gfresh (gfresh (gfresh (gfresh G2.out (by omega)) (by omega)) (by omega)) (by omega)) (by omega)⟩
      · obtain rfl : ok = false := by rw [← hok]; simpa using hle
        have e2 : decide (b < m) = true := by simp; omega
        go_wp2
        refine bodyPost_ret (v := .tuple #[.agg #[.int .i64 0, .int .i64 0, .int .i64 0, .int .i64 0, .slice none 0 0], .int .i64 0, .int .i64 4]) (by simp [results, Try.results45, go_sem, c0, c1, c2, c3, c4]) rfl ?_
        exact ⟨rfl, gfresh (gfresh (gfresh (gfresh (gfresh G2.out (by omega)) (by omega)) (by omega)) (by omega)) (by omega)⟩
    · have e0 : ((most : Int) == 0) = false := by simp [h0]
      rw [if_neg h0] at hmo
      subst hmo
      by_cases hle : m ≤ mo
      · obtain rfl : ok = true := by rw [← hok]; simpa using hle
        have e2 : decide (mo < m) = false := by simp; omega
        go_wp2
        refine bodyPost_ret (v := .tuple #[.agg #[.int .i64 f, .int .i64 t, .int .i64 b, .int .i64 z, .slice none 0 0], .int .i64 m, .int .i64 0]) (by simp [results, Try.results45, go_sem, c0, c1, c2, c3, c4]) rfl ?_
        exact ⟨rfl, gfresh (gfresh (gfresh (gfresh (gfresh G2.out (by omega)) (by omega)) (by omega)) (by omega)) (by omega)⟩
      · obtain rfl : ok = false := by rw [← hok]; simpa using hle
        have e2 : decide (mo < m) = true := by simp; omega
        go_wp2
        refine bodyPost_ret (v := .tuple #[.agg #[.int .i64 0, .int .i64 0, .int .i64 0, .int .i64 0, .slice none 0 0], .int .i64 0, .int .i64 4]) (by simp [results, Try.results45, go_sem, c0, c1, c2, c3, c4]) rfl ?_
        exact ⟨rfl, gfresh (gfresh (gfresh (gfresh (gfresh G2.out (by omega)) (by omega)) (by omega)) (by omega)) (by omega)⟩

/-- **opens**, of any text. -/
def openG (M : List UInt8) (least most : Nat) (l : List UInt8) : Int ⊕ (Nat × Nat × Nat × Nat × Nat) :=
  if l.length < least then .inl 2 else if l.take 4 ≠ M then .inl 3 else
  if (wellHead (headR l).1 (headR l).2.1 (headR l).2.2.1 (headR l).2.2.2.1 && decide ((headR l).2.2.2.2 ≤ if most = 0 then (headR l).2.2.1 else most)) = true then .inr (headR l) else .inl 4

theorem openG_R (l : List UInt8) : openG [83, 84, 82, 68] 18 0 l = openR l := by
  unfold openG openR headOk
  simp only [if_true]
  simp

theorem ropens (l M : List UInt8) (least most : Nat) (w : World) (h18 : 18 ≤ least) (hlen : l.length ≤ 4611686018427387904) :
    Calls Try.prog 45 #[.string ⟨l.toArray⟩, .string ⟨M.toArray⟩, .int .i64 least, .int .i64 most] w fun e w' => w.grownBy w' none ∧
      ((∃ k, openG M least most l = .inl k ∧ e = .returned (.tuple #[.agg #[.int .i64 0, .int .i64 0, .int .i64 0, .int .i64 0, .slice none 0 0], .int .i64 0, .int .i64 k])) ∨
       (∃ f t b z m, openG M least most l = .inr (f, t, b, z, m) ∧ e = .returned (.tuple #[.agg #[.int .i64 (f : Nat), .int .i64 (t : Nat), .int .i64 (b : Nat), .int .i64 (z : Nat), .slice none 0 0], .int .i64 (m : Nat), .int .i64 0]) ∧ least ≤ l.length ∧ wellHead f t b z = true ∧ m ≤ if most = 0 then b else most)) := by
  unfold openG
  by_cases h1 : l.length < least
  · rw [if_pos h1]
    refine (opens_short l M least most w h1).mono ?_
    rintro e w' ⟨rfl, hg⟩
    exact ⟨hg, .inl ⟨_, rfl, rfl⟩⟩
  rw [if_neg h1]
  by_cases h2 : l.take 4 ≠ M
  · rw [if_pos h2]
    refine (opens_magic l M least most w (by omega) h18 h2).mono ?_
    rintro e w' ⟨rfl, hg⟩
    exact ⟨hg, .inl ⟨_, rfl, rfl⟩⟩
  rw [if_neg h2]
  obtain ⟨f, t, b, z, m, hh⟩ : ∃ f t b z m, headR l = (f, t, b, z, m) := ⟨_, _, _, _, _, rfl⟩
  rw [hh]
  simp only []
  obtain ⟨ok, hok⟩ : ∃ ok, (wellHead f t b z && decide (m ≤ if most = 0 then b else most)) = ok := ⟨_, rfl⟩
  rw [hok]
  refine (opens_rest l M least most w (by omega) h18 hlen (by simpa using h2) f t b z m hh _ rfl ok hok).mono ?_
  rintro e w' ⟨rfl, hg⟩
  cases ok with
  | false => exact ⟨hg, .inl ⟨4, rfl, rfl⟩⟩
  | true =>
    rw [Bool.and_eq_true, decide_eq_true_eq] at hok
    exact ⟨hg, .inr ⟨f, t, b, z, m, rfl, rfl, by omega, hok.1, hok.2⟩⟩
end Go.Proofs.Ytdjmhagclcfnfaa
