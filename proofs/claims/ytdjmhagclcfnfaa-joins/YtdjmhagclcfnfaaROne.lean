/- The reference's one: a record at the front of a rest. -/
import Derived.Test.YtdjmhagclcfnfaaRParse
namespace Go.Proofs.Ytdjmhagclcfnfaa
open Go.RowKit Go.Shelf

theorem tail_eq (q : List UInt8) (p : Nat) : (⟨q.toArray⟩ : ByteArray).extract p q.length = ⟨(q.drop p).toArray⟩ := by
  apply ByteArray.ext
  rw [← Array.toList_inj, tail_data]
theorem mid_eq (q : List UInt8) (p e : Nat) : (⟨q.toArray⟩ : ByteArray).extract p e = ⟨((q.drop p).take (e - p)).toArray⟩ := by
  apply ByteArray.ext
  rw [← Array.toList_inj, Lib.extract_data]

/-- What 'one' tells. -/
def OneErr (k : Int) : Ending := .returned (.tuple #[.agg #[.bool false, .int .i64 0, .string ⟨#[]⟩], .string ⟨#[]⟩, .int .i64 k])
def OneOk (r : Rc) (q : List UInt8) : Ending := .returned (.tuple #[.agg #[.bool r.free, .int .i64 r.block, .string r.data], .string ⟨q.toArray⟩, .int .i64 0])

def OneSaid (any : Bool) (b n : Nat) (last : Int) (r : Rc) (q : List UInt8) (w : World) (e : Ending) (w' : World) : Prop :=
  w.grownBy w' none ∧ ((((b : Int) ≤ n ∨ (any = false ∧ (n : Int) ≤ last)) ∧ e = OneErr 6) ∨ (((n : Int) < b ∧ (any = true ∨ last < n)) ∧ e = OneOk r q))

theorem one_empty (f t b z last : Int) (any : Bool) (w : World) (a : Option Addr) (ln cp : Nat) :
    Calls Try.prog 79 #[.string ⟨#[]⟩, .agg #[.int .i64 f, .int .i64 t, .int .i64 b, .int .i64 z, .slice a ln cp], .int .i64 last, .bool any] w fun e w' => e = OneErr 2 ∧ w.grownBy w' none := by
  go_enter Try.func79, Try.ntmps79
  go_wp2
  refine bodyPost_ret (v := .tuple #[.agg #[.bool false, .int .i64 0, .string ⟨#[]⟩], .string ⟨#[]⟩, .int .i64 2]) (by simp [results, Try.results79, go_sem]) rfl ?_
  exact ⟨rfl, gallocR (gallocR (galloc _ _ _) _) _⟩

theorem isEmpty_false {q : List UInt8} (h : 0 < q.length) : q.isEmpty = false := by
  cases q with
  | nil => simp at h
  | cons => rfl
theorem first_byte (q : List UInt8) (h : 0 < q.length) : ((⟨q.toArray⟩ : ByteArray)[0]'h).toNat = num (q.take 1) := by
  cases q with
  | nil => simp at h
  | cons k q => simp [num]; rfl

set_option maxRecDepth 100000 in
set_option maxHeartbeats 1000000 in
theorem one_kind (q : List UInt8) (f t b z last : Int) (any : Bool) (w : World) (a : Option Addr) (ln cp : Nat) (h0 : 0 < q.length) (hk : num (q.take 1) ≠ 1 ∧ num (q.take 1) ≠ 2) :
    Calls Try.prog 79 #[.string ⟨q.toArray⟩, .agg #[.int .i64 f, .int .i64 t, .int .i64 b, .int .i64 z, .slice a ln cp], .int .i64 last, .bool any] w fun e w' => e = OneErr 5 ∧ w.grownBy w' none := by
  have hq := first_byte q h0
  have hem : q.isEmpty = false := isEmpty_false h0
  generalize num (q.take 1) = k at *
  have e1 : ((k : Int) != 1) = true := by simp; omega
  have e2 : ((k : Int) != 2) = true := by simp; omega
  go_enter Try.func79, Try.ntmps79
  go_wp2
  refine bodyPost_ret (v := .tuple #[.agg #[.bool false, .int .i64 0, .string ⟨#[]⟩], .string ⟨#[]⟩, .int .i64 5]) (by simp [results, Try.results79, go_sem]) rfl ?_
  exact ⟨rfl, gallocR (gallocR (galloc _ _ _) _) _⟩

set_option maxRecDepth 100000 in
set_option maxHeartbeats 1000000 in
theorem one_short2 (q : List UInt8) (f t b z last : Int) (any : Bool) (w : World) (a : Option Addr) (ln cp : Nat) (h0 : 0 < q.length) (hk : num (q.take 1) = 2) (h3 : q.length < 3) :
    Calls Try.prog 79 #[.string ⟨q.toArray⟩, .agg #[.int .i64 f, .int .i64 t, .int .i64 b, .int .i64 z, .slice a ln cp], .int .i64 last, .bool any] w fun e w' => e = OneErr 2 ∧ w.grownBy w' none := by
  have hq := first_byte q h0
  rw [hk] at hq
  have hem : q.isEmpty = false := isEmpty_false h0
  have e3 : decide ((q.length : Int) < 3) = true := by simp; omega
  go_enter Try.func79, Try.ntmps79
  go_wp2
  refine bodyPost_ret (v := .tuple #[.agg #[.bool false, .int .i64 0, .string ⟨#[]⟩], .string ⟨#[]⟩, .int .i64 2]) (by simp [results, Try.results79, go_sem]) rfl ?_
  exact ⟨rfl, gallocR (gallocR (galloc _ _ _) _) _⟩

set_option maxRecDepth 100000 in
set_option maxHeartbeats 1000000 in
theorem one_short1 (q : List UInt8) (z : Nat) (f t b last : Int) (any : Bool) (w : World) (a : Option Addr) (ln cp : Nat) (h0 : 0 < q.length) (hk : num (q.take 1) = 1) (hz : z ≤ 64) (h3 : q.length < 3 + z) :
    Calls Try.prog 79 #[.string ⟨q.toArray⟩, .agg #[.int .i64 f, .int .i64 t, .int .i64 b, .int .i64 z, .slice a ln cp], .int .i64 last, .bool any] w fun e w' => e = OneErr 2 ∧ w.grownBy w' none := by
  have hq := first_byte q h0
  rw [hk] at hq
  have hem : q.isEmpty = false := isEmpty_false h0
  have e3 : decide ((q.length : Int) < 3 + z) = true := by simp; omega
  go_enter Try.func79, Try.ntmps79
  go_wp2
  refine bodyPost_ret (v := .tuple #[.agg #[.bool false, .int .i64 0, .string ⟨#[]⟩], .string ⟨#[]⟩, .int .i64 2]) (by simp [results, Try.results79, go_sem]) rfl ?_
  exact ⟨rfl, gallocR (gallocR (galloc _ _ _) _) _⟩

set_option maxRecDepth 100000 in
set_option maxHeartbeats 2000000 in
theorem one_go2 (q : List UInt8) (b z : Nat) (f t last : Int) (any : Bool) (w : World) (a : Option Addr) (ln cp : Nat) (hk : num (q.take 1) = 2) (h3 : 3 ≤ q.length) (hl : q.length ≤ 4611686018427387904) (n : Nat) (hn : num ((q.drop 1).take 2) = n) :
    Calls Try.prog 79 #[.string ⟨q.toArray⟩, .agg #[.int .i64 f, .int .i64 t, .int .i64 b, .int .i64 z, .slice a ln cp], .int .i64 last, .bool any] w (OneSaid any b n last ⟨true, n, ⟨#[]⟩⟩ (q.drop (3)) w) := by
  have h0 : 0 < q.length := by omega
  have hq := first_byte q h0
  rw [hk] at hq
  have hem : q.isEmpty = false := isEmpty_false h0
  have e3 : decide ((q.length : Int) < 3) = false := by simp; omega
  have hn2 : n < 65536 := by
    rw [← hn]
    have h := num_lt ((q.drop 1).take 2)
    have h2 : ((q.drop 1).take 2).length = 2 := by simp; omega
    rw [h2] at h
    exact h
  have H1 : Hid (∀ W, _) := fun W => rnum_at _ _ 2 W (tail_data q 1) (by simp; omega) (by omega) (by simp; omega)
  rw [hn] at H1
  have t3 := tail_eq q (3)
  have m3 := mid_eq q 3 (3)
  rw [Nat.sub_self, List.take_zero] at m3
  clear hn hk
  by_cases c1 : (b : Int) ≤ n
  · have d1 : decide (b ≤ n) = true := by simp; omega
    go_enter Try.func79, Try.ntmps79
    go_wp2_with (go_at_call 78; refine (H1.out _).mono ?_; rintro e w1 ⟨rfl, rfl⟩)
    refine bodyPost_ret (v := .tuple #[.agg #[.bool false, .int .i64 0, .string ⟨#[]⟩], .string ⟨#[]⟩, .int .i64 6]) (by simp [results, Try.results79, go_sem]) rfl ?_
    exact ⟨gallocR (gallocR (galloc _ _ _) _) _, .inl ⟨.inl c1, rfl⟩⟩
  · have d1 : decide (b ≤ n) = false := by simp; omega
    cases any with
    | true =>
      go_enter Try.func79, Try.ntmps79
      go_wp2_with (go_at_call 78; refine (H1.out _).mono ?_; rintro e w1 ⟨rfl, rfl⟩)
      go_region
      all_goals
        go_wp2
        refine bodyPost_ret (v := .tuple #[.agg #[.bool true, .int .i64 n, .string ⟨#[]⟩], .string ⟨(q.drop (3)).toArray⟩, .int .i64 0]) (by simp [results, Try.results79, go_sem]; rfl) rfl ?_
        exact ⟨gdrewR (gallocR (gallocR (galloc _ _ _) _) _) 1, .inr ⟨⟨by omega, .inl rfl⟩, rfl⟩⟩
    | false =>
      by_cases c2 : (n : Int) ≤ last
      · have d2 : decide ((n : Int) ≤ last) = true := by simp; omega
        go_enter Try.func79, Try.ntmps79
        go_wp2_with (go_at_call 78; refine (H1.out _).mono ?_; rintro e w1 ⟨rfl, rfl⟩)
        refine bodyPost_ret (v := .tuple #[.agg #[.bool false, .int .i64 0, .string ⟨#[]⟩], .string ⟨#[]⟩, .int .i64 6]) (by simp [results, Try.results79, go_sem]) rfl ?_
        exact ⟨gallocR (gallocR (galloc _ _ _) _) _, .inl ⟨.inr ⟨rfl, c2⟩, rfl⟩⟩
      · have d2 : decide ((n : Int) ≤ last) = false := by simp; omega
        go_enter Try.func79, Try.ntmps79
        go_wp2_with (go_at_call 78; refine (H1.out _).mono ?_; rintro e w1 ⟨rfl, rfl⟩)
        go_region
        all_goals
          go_wp2
          refine bodyPost_ret (v := .tuple #[.agg #[.bool true, .int .i64 n, .string ⟨#[]⟩], .string ⟨(q.drop (3)).toArray⟩, .int .i64 0]) (by simp [results, Try.results79, go_sem]; rfl) rfl ?_
          exact ⟨gdrewR (gallocR (gallocR (galloc _ _ _) _) _) 1, .inr ⟨⟨by omega, .inr (by omega)⟩, rfl⟩⟩

set_option maxRecDepth 100000 in
set_option maxHeartbeats 2000000 in
theorem one_go1 (q : List UInt8) (b z : Nat) (f t last : Int) (any : Bool) (w : World) (a : Option Addr) (ln cp : Nat) (hk : num (q.take 1) = 1) (hz : z ≤ 64) (h3 : 3 + z ≤ q.length) (hl : q.length ≤ 4611686018427387904) (n : Nat) (hn : num ((q.drop 1).take 2) = n) :
    Calls Try.prog 79 #[.string ⟨q.toArray⟩, .agg #[.int .i64 f, .int .i64 t, .int .i64 b, .int .i64 z, .slice a ln cp], .int .i64 last, .bool any] w (OneSaid any b n last ⟨false, n, ⟨((q.drop 3).take z).toArray⟩⟩ (q.drop (3 + z)) w) := by
  have h0 : 0 < q.length := by omega
  have hq := first_byte q h0
  rw [hk] at hq
  have hem : q.isEmpty = false := isEmpty_false h0
  have e3 : decide ((q.length : Int) < 3 + z) = false := by simp; omega
  have hn2 : n < 65536 := by
    rw [← hn]
    have h := num_lt ((q.drop 1).take 2)
    have h2 : ((q.drop 1).take 2).length = 2 := by simp; omega
    rw [h2] at h
    exact h
  have H1 : Hid (∀ W, _) := fun W => rnum_at _ _ 2 W (tail_data q 1) (by simp; omega) (by omega) (by simp; omega)
  rw [hn] at H1
  have t3 := tail_eq q (3 + z)
  have m3 := mid_eq q 3 (3 + z)
  rw [show 3 + z - 3 = z from by omega] at m3
  clear hn hk
  by_cases c1 : (b : Int) ≤ n
  · have d1 : decide (b ≤ n) = true := by simp; omega
    go_enter Try.func79, Try.ntmps79
    go_wp2_with (go_at_call 78; refine (H1.out _).mono ?_; rintro e w1 ⟨rfl, rfl⟩)
    refine bodyPost_ret (v := .tuple #[.agg #[.bool false, .int .i64 0, .string ⟨#[]⟩], .string ⟨#[]⟩, .int .i64 6]) (by simp [results, Try.results79, go_sem]) rfl ?_
    exact ⟨gallocR (gallocR (galloc _ _ _) _) _, .inl ⟨.inl c1, rfl⟩⟩
  · have d1 : decide (b ≤ n) = false := by simp; omega
    cases any with
    | true =>
      go_enter Try.func79, Try.ntmps79
      go_wp2_with (go_at_call 78; refine (H1.out _).mono ?_; rintro e w1 ⟨rfl, rfl⟩)
      go_region
      all_goals
        go_wp2
        refine bodyPost_ret (v := .tuple #[.agg #[.bool false, .int .i64 n, .string ⟨((q.drop 3).take z).toArray⟩], .string ⟨(q.drop (3 + z)).toArray⟩, .int .i64 0]) (by simp [results, Try.results79, go_sem, t3]) rfl ?_
        exact ⟨gdrewR (gallocR (gallocR (galloc _ _ _) _) _) 1, .inr ⟨⟨by omega, .inl rfl⟩, rfl⟩⟩
    | false =>
      by_cases c2 : (n : Int) ≤ last
      · have d2 : decide ((n : Int) ≤ last) = true := by simp; omega
        go_enter Try.func79, Try.ntmps79
        go_wp2_with (go_at_call 78; refine (H1.out _).mono ?_; rintro e w1 ⟨rfl, rfl⟩)
        refine bodyPost_ret (v := .tuple #[.agg #[.bool false, .int .i64 0, .string ⟨#[]⟩], .string ⟨#[]⟩, .int .i64 6]) (by simp [results, Try.results79, go_sem]) rfl ?_
        exact ⟨gallocR (gallocR (galloc _ _ _) _) _, .inl ⟨.inr ⟨rfl, c2⟩, rfl⟩⟩
      · have d2 : decide ((n : Int) ≤ last) = false := by simp; omega
        go_enter Try.func79, Try.ntmps79
        go_wp2_with (go_at_call 78; refine (H1.out _).mono ?_; rintro e w1 ⟨rfl, rfl⟩)
        go_region
        all_goals
          go_wp2
          refine bodyPost_ret (v := .tuple #[.agg #[.bool false, .int .i64 n, .string ⟨((q.drop 3).take z).toArray⟩], .string ⟨(q.drop (3 + z)).toArray⟩, .int .i64 0]) (by simp [results, Try.results79, go_sem, t3]) rfl ?_
          exact ⟨gdrewR (gallocR (gallocR (galloc _ _ _) _) _) 1, .inr ⟨⟨by omega, .inr (by omega)⟩, rfl⟩⟩

/-- **one**, of any rest. -/
theorem rone (q : List UInt8) (b z : Nat) (f t last : Int) (any : Bool) (w : World) (a : Option Addr) (ln cp : Nat) (hz : z ≤ 64) (hl : q.length ≤ 4611686018427387904) :
    Calls Try.prog 79 #[.string ⟨q.toArray⟩, .agg #[.int .i64 f, .int .i64 t, .int .i64 b, .int .i64 z, .slice a ln cp], .int .i64 last, .bool any] w fun e w' => w.grownBy w' none ∧ ((∃ k, stepG any b z last q = .inl k ∧ e = OneErr k) ∨ (∃ r q', stepG any b z last q = .inr (r, q') ∧ e = OneOk r q')) := by
  unfold stepG rdRec
  by_cases h1 : q.length < 1
  · obtain rfl : q = [] := List.eq_nil_of_length_eq_zero (by omega)
    refine (one_empty f t b z last any w a ln cp).mono ?_
    rintro e w' ⟨rfl, hg⟩
    exact ⟨hg, .inl ⟨_, rfl, rfl⟩⟩
  rw [if_neg h1]
  by_cases hk : num (q.take 1) ≠ 1 ∧ num (q.take 1) ≠ 2
  · rw [if_pos hk]
    refine (one_kind q f t b z last any w a ln cp (by omega) hk).mono ?_
    rintro e w' ⟨rfl, hg⟩
    exact ⟨hg, .inl ⟨_, rfl, rfl⟩⟩
  rw [if_neg hk]
  by_cases h2 : num (q.take 1) = 2
  · by_cases h3 : q.length < 3
    · rw [if_pos h3]
      refine (one_short2 q f t b z last any w a ln cp (by omega) h2 h3).mono ?_
      rintro e w' ⟨rfl, hg⟩
      exact ⟨hg, .inl ⟨_, rfl, rfl⟩⟩
    rw [if_neg h3, if_pos h2]
    refine (one_go2 q b z f t last any w a ln cp h2 (by omega) hl _ rfl).mono ?_
    rintro e w' ⟨hg, (⟨hc, rfl⟩ | ⟨hc, rfl⟩)⟩
    · refine ⟨hg, .inl ⟨6, ?_, rfl⟩⟩
      simp only []
      rw [if_neg]
      rintro ⟨h5, h6⟩
      rcases hc with hc | ⟨rfl, hc⟩
      · exact absurd hc (Int.not_le.2 h5)
      · simp only [Bool.false_eq_true, false_or] at h6
        exact absurd hc (Int.not_le.2 h6)
    · refine ⟨hg, .inr ⟨_, _, ?_, rfl⟩⟩
      simp only []
      rw [if_pos hc]
  · have h21 : num (q.take 1) = 1 := by omega
    by_cases h3 : q.length < 3 + z
    · have hr : (if q.length < 3 then (.inl 2 : Int ⊕ (Rc × List UInt8)) else if num (q.take 1) = 2 then .inr (⟨true, num ((q.drop 1).take 2), ⟨#[]⟩⟩, q.drop 3) else if q.length < 3 + z then .inl 2 else .inr (⟨false, num ((q.drop 1).take 2), ⟨((q.drop 3).take z).toArray⟩⟩, q.drop (3 + z))) = .inl 2 := by
        by_cases h4 : q.length < 3
        · rw [if_pos h4]
        · rw [if_neg h4, if_neg h2, if_pos h3]
      rw [hr]
      refine (one_short1 q z f t b last any w a ln cp (by omega) h21 hz h3).mono ?_
      rintro e w' ⟨rfl, hg⟩
      exact ⟨hg, .inl ⟨_, rfl, rfl⟩⟩
    rw [if_neg (by omega), if_neg h2, if_neg h3]
    refine (one_go1 q b z f t last any w a ln cp h21 hz (by omega) hl _ rfl).mono ?_
    rintro e w' ⟨hg, (⟨hc, rfl⟩ | ⟨hc, rfl⟩)⟩
    · refine ⟨hg, .inl ⟨6, ?_, rfl⟩⟩
      simp only []
      rw [if_neg]
      rintro ⟨h5, h6⟩
      rcases hc with hc | ⟨rfl, hc⟩
      · exact absurd hc (Int.not_le.2 h5)
      · simp only [Bool.false_eq_true, false_or] at h6
        exact absurd hc (Int.not_le.2 h6)
    · refine ⟨hg, .inr ⟨_, _, ?_, rfl⟩⟩
      simp only []
      rw [if_pos hc]
end Go.Proofs.Ytdjmhagclcfnfaa
