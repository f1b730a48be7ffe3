/- What is read of records, as mathematics. -/
import Derived.Test.YtdjmhagclcfnfaaPRead2
namespace Go.Proofs.Ytdjmhagclcfnfaa

/-- The next record, behind one of the block last. -/
def stepR (b z : Nat) (last : Int) (q : List UInt8) : Int ⊕ (Rc × List UInt8) :=
  match rdRec z q with
  | .inl k => .inl k
  | .inr (r, q') => if last < r.block ∧ r.block < b then .inr (r, q') else .inl 6

/-- So many records: those that are read, and the error or what is behind them. -/
def walkR (b z : Nat) : Nat → Int → List UInt8 → List Rc × (Int ⊕ List UInt8)
  | 0, _, q => ([], .inr q)
  | n + 1, last, q =>
    match stepR b z last q with
    | .inl k => ([], .inl k)
    | .inr (r, q') => (r :: (walkR b z n r.block q').1, (walkR b z n r.block q').2)

theorem walk_snoc (b z : Nat) : ∀ (n : Nat) (last : Int) (q : List UInt8), walkR b z (n + 1) last q =
    match walkR b z n last q with
    | (rs, .inl k) => (rs, .inl k)
    | (rs, .inr q') => match stepR b z (lastOf last rs) q' with
      | .inl k => (rs, .inl k)
      | .inr (r, q'') => (rs ++ [r], .inr q'')
  | 0, last, q => by
    simp only [walkR, lastOf]
    cases stepR b z last q with
    | inl k => rfl
    | inr x => rfl
  | n + 1, last, q => by
    rw [walkR]
    conv => rhs; rw [walkR]
    cases h : stepR b z last q with
    | inl k => rfl
    | inr x =>
      obtain ⟨r, q'⟩ := x
      simp only []
      rw [walk_snoc b z n r.block q']
      cases h2 : walkR b z n r.block q' with
      | mk rs y =>
        cases y with
        | inl k => rfl
        | inr q'' =>
          simp only [lastOf]
          cases h3 : stepR b z (lastOf r.block rs) q'' with
          | inl k => rfl
          | inr x => rfl

theorem walk_ok (b z n : Nat) (last : Int) (q : List UInt8) {rs : List Rc} {q' q'' : List UInt8} {r : Rc} (h : walkR b z n last q = (rs, .inr q')) (hs : stepR b z (lastOf last rs) q' = .inr (r, q'')) : walkR b z (n + 1) last q = (rs ++ [r], .inr q'') := by
  rw [walk_snoc, h]
  simp only [hs]
theorem walk_bad (b z n : Nat) (last : Int) (q : List UInt8) {rs : List Rc} {q' : List UInt8} {k : Int} (h : walkR b z n last q = (rs, .inr q')) (hs : stepR b z (lastOf last rs) q' = .inl k) : walkR b z (n + 1) last q = (rs, .inl k) := by
  rw [walk_snoc, h]
  simp only [hs]
theorem walk_stays (b z n : Nat) (last : Int) (q : List UInt8) {rs : List Rc} {k : Int} (h : walkR b z n last q = (rs, .inl k)) : ∀ m, walkR b z (n + m) last q = (rs, .inl k)
  | 0 => h
  | m + 1 => by rw [← Nat.add_assoc, walk_snoc, walk_stays b z n last q h m]
theorem walk_length (b z : Nat) : ∀ (n : Nat) (last : Int) (q : List UInt8) {rs : List Rc} {q' : List UInt8}, walkR b z n last q = (rs, .inr q') → rs.length = n
  | 0, last, q, rs, q', h => by simp [walkR] at h; rw [h.1]; rfl
  | n + 1, last, q, rs, q', h => by
    rw [walk_snoc] at h
    cases h2 : walkR b z n last q with
    | mk ss y =>
      rw [h2] at h
      cases y with
      | inl k => simp at h
      | inr q1 =>
        have := walk_length b z n last q h2
        simp only [] at h
        cases h3 : stepR b z (lastOf last ss) q1 with
        | inl k => rw [h3] at h; simp at h
        | inr x =>
          obtain ⟨r, q2⟩ := x
          rw [h3] at h
          simp only [Prod.mk.injEq] at h
          rw [← h.1, List.length_append, this]
          rfl

theorem lowB_snoc (m : Nat) (b : UInt8) : ∀ k, lowB (m * 256 + b.toNat) (k + 1) = lowB m k ++ [b]
  | 0 => by
    have hb := b.toNat_lt
    simp only [lowB, List.nil_append, Nat.pow_zero, Nat.div_one, List.cons.injEq, and_true]
    apply UInt8.toNat_inj.1
    simp
  | k + 1 => by
    have hb := b.toNat_lt
    have e : (m * 256 + b.toNat) / 256 ^ (k + 1) = m / 256 ^ k := by
      rw [Nat.pow_succ, Nat.mul_comm (256 ^ k), ← Nat.div_div_eq_div_mul]
      congr 1
      omega
    rw [lowB, lowB_snoc m b k, e]
    rfl
theorem lowB_num (l : List UInt8) : lowB (num l) l.length = l := by
  have : ∀ (n : Nat) (l : List UInt8), l.length = n → lowB (num l) l.length = l := by
    intro n
    induction n with
    | zero => intro l h; rw [List.eq_nil_of_length_eq_zero h]; rfl
    | succ n ih =>
      intro l h
      obtain ⟨xs, x, rfl⟩ : ∃ xs x, l = xs ++ [x] := ⟨l.dropLast, l.getLast (by intro e; rw [e] at h; simp at h), (List.dropLast_concat_getLast _).symm⟩
      rw [List.length_append] at h
      rw [num_snoc, List.length_append]
      have := ih xs (by simpa using h)
      rw [show xs.length + [x].length = xs.length + 1 from rfl, lowB_snoc, this]
  exact this _ l rfl
theorem lowB_num2 (x y : UInt8) : lowB (num [x, y]) 2 = [x, y] := lowB_num [x, y]
theorem byte_inj (a b : Nat) (ha : a < 256) (hb : b < 256) (h : UInt8.ofNat (a % 256) = UInt8.ofNat (b % 256)) : a = b := by
  have h3 := congrArg UInt8.toNat h
  simp only [UInt8.toNat_ofNat'] at h3
  omega
theorem num_lowB (n : Nat) : ∀ k, num (lowB n k) = n % 256 ^ k := by
  intro k
  have h2 := num_lt (lowB n k)
  rw [lowB_length] at h2
  have : ∀ k n, lowB (n % 256 ^ k) k = lowB n k := by
    intro k
    induction k with
    | zero => intro n; rfl
    | succ k ih =>
      intro n
      rw [lowB, lowB]
      congr 1
      · congr 1
        rw [Nat.pow_succ, Nat.mod_mul_right_div_self, Nat.mod_mod]
      · rw [← ih (n % 256 ^ (k + 1)), ← ih n]
        congr 1
        rw [Nat.pow_succ, Nat.mod_mul_right_mod]
  have inj : ∀ k a b, a < 256 ^ k → b < 256 ^ k → lowB a k = lowB b k → a = b := by
    intro k
    induction k with
    | zero => intro a b ha hb _; simp at ha hb; omega
    | succ k ih =>
      intro a b ha hb he
      rw [lowB, lowB] at he
      simp only [List.cons.injEq] at he
      obtain ⟨h1, h2⟩ := he
      have ha2 : a / 256 ^ k < 256 := Nat.div_lt_of_lt_mul (by rw [Nat.pow_succ] at ha; exact ha)
      have hb2 : b / 256 ^ k < 256 := Nat.div_lt_of_lt_mul (by rw [Nat.pow_succ] at hb; exact hb)
      have h4 : a / 256 ^ k = b / 256 ^ k := byte_inj _ _ ha2 hb2 h1
      have h5 : a % 256 ^ k = b % 256 ^ k := by
        refine ih _ _ (Nat.mod_lt _ (Nat.pow_pos (by decide))) (Nat.mod_lt _ (Nat.pow_pos (by decide))) ?_
        rw [this, this, h2]
      rw [← Nat.div_add_mod a (256 ^ k), ← Nat.div_add_mod b (256 ^ k), h4, h5]
  refine inj k _ _ h2 (Nat.mod_lt _ (Nat.pow_pos (by decide))) ?_
  rw [this]
  have := lowB_num (lowB n k)
  rw [lowB_length] at this
  exact this

/-- What is read of a record is its bytes. -/
theorem rdRec_ok (z : Nat) (q q' : List UInt8) (r : Rc) (h : rdRec z q = .inr (r, q')) : q = recB r ++ q' ∧ ((r.data.size : Int) = if r.free then 0 else (z : Int)) ∧ 0 ≤ r.block ∧ r.block < 65536 := by
  unfold rdRec at h
  split at h
  · cases h
  split at h
  · cases h
  split at h
  · cases h
  rename_i h1 h2 h3
  obtain ⟨k, x, y, q1, rfl⟩ : ∃ k x y q1, q = k :: x :: y :: q1 := by
    match q, h3 with
    | k :: x :: y :: q1, _ => exact ⟨k, x, y, q1, rfl⟩
    | [], h => simp at h
    | [_], h => simp at h
    | [_, _], h => simp at h
  have hk := k.toNat_lt
  have hx := x.toNat_lt
  have hy := y.toNat_lt
  simp only [List.take_succ_cons, List.take_zero, List.drop_succ_cons, List.drop_zero] at h h2
  have hn : num [x, y] < 65536 := by have := num_lt [x, y]; simpa using this
  split at h
  · rename_i hk2
    simp only [Sum.inr.injEq, Prod.mk.injEq] at h
    obtain ⟨rfl, rfl⟩ := h
    have : k = 2 := by
      apply UInt8.toNat_inj.1
      simpa [num] using hk2
    subst this
    refine ⟨?_, rfl, by simp, by simp; omega⟩
    simp [recB, lowB_num2]
  · split at h
    · cases h
    · rename_i hk2 hl
      simp only [Sum.inr.injEq, Prod.mk.injEq] at h
      obtain ⟨rfl, rfl⟩ := h
      have : k = 1 := by
        apply UInt8.toNat_inj.1
        have h5 : num [k] = 1 := by omega
        simpa [num] using h5
      subst this
      simp only [List.length_cons] at hl
      refine ⟨?_, ?_, by simp, by simp; omega⟩
      · rw [show 3 + z = z + 1 + 1 + 1 from by omega]
        simp [recB, lowB_num2]
      · simp [ByteArray.size]; omega

theorem recsB_cons (r : Rc) (rs : List Rc) : recsB (r :: rs) = recB r ++ recsB rs := by simp [recsB]

theorem stepR_ok (b z : Nat) (last : Int) (q q' : List UInt8) (r : Rc) (h : stepR b z last q = .inr (r, q')) : q = recB r ++ q' ∧ recOk b z last r = true ∧ 0 ≤ r.block ∧ r.block < 65536 := by
  unfold stepR at h
  cases h1 : rdRec z q with
  | inl k => rw [h1] at h; cases h
  | inr x =>
    obtain ⟨r1, q1⟩ := x
    rw [h1] at h
    simp only [] at h
    split at h
    · rename_i hc
      simp only [Sum.inr.injEq, Prod.mk.injEq] at h
      obtain ⟨rfl, rfl⟩ := h
      obtain ⟨e1, e2, e3, e4⟩ := rdRec_ok z q q1 r1 h1
      exact ⟨e1, decide_eq_true ⟨hc.1, hc.2, e2⟩, e3, e4⟩
    · cases h

/-- What is read of records is their bytes, and they are as they should. -/
theorem walk_bytes (b z : Nat) : ∀ (n : Nat) (last : Int) (q : List UInt8) {rs : List Rc} {q' : List UInt8}, walkR b z n last q = (rs, .inr q') → q = recsB rs ++ q' ∧ recsOk b z last rs = true
  | 0, last, q, rs, q', h => by
    simp only [walkR, Prod.mk.injEq, Sum.inr.injEq] at h
    rw [← h.1, ← h.2]
    exact ⟨rfl, rfl⟩
  | n + 1, last, q, rs, q', h => by
    rw [walkR] at h
    cases h2 : stepR b z last q with
    | inl k => rw [h2] at h; simp at h
    | inr x =>
      obtain ⟨r, q1⟩ := x
      rw [h2] at h
      simp only [Prod.mk.injEq] at h
      obtain ⟨rfl, h4⟩ := h
      obtain ⟨e1, e2, e3, e4⟩ := stepR_ok b z last q q1 r h2
      obtain ⟨f1, f2⟩ := walk_bytes b z n r.block q1 (rs := (walkR b z n r.block q1).1) (q' := q') (by rw [← h4])
      refine ⟨?_, ?_⟩
      · rw [recsB_cons, List.append_assoc, ← f1, ← e1]
      · rw [recsOk, e2, f2]
        rfl

theorem walk_pos (b z n : Nat) (hz : z ≤ 64) (l : List UInt8) (p p' : Nat) (hp : p ≤ l.length) (hp' : p' ≤ l.length) {rs : List Rc} {q' : List UInt8} (h : walkR b z n (-1) (l.drop p) = (rs, .inr q')) (hq : l.drop p' = q') : p' = p + (recsB rs).length ∧ p' ≤ p + 67 * n := by
  obtain ⟨e1, e2⟩ := walk_bytes b z n (-1) _ h
  have hlen := congrArg List.length e1
  rw [List.length_append, ← hq, List.length_drop, List.length_drop] at hlen
  have := recsB_length b z (by omega) rs (-1) e2
  have h3 := walk_length b z n (-1) _ h
  rw [h3] at this
  omega

/-- The next record, in any order or not. -/
def stepG (any : Bool) (b z : Nat) (last : Int) (q : List UInt8) : Int ⊕ (Rc × List UInt8) :=
  match rdRec z q with
  | .inl k => .inl k
  | .inr (r, q') => if r.block < b ∧ (any = true ∨ last < r.block) then .inr (r, q') else .inl 6
theorem stepG_R (b z : Nat) (last : Int) (q : List UInt8) : stepG false b z last q = stepR b z last q := by
  unfold stepG stepR
  cases rdRec z q with
  | inl k => rfl
  | inr x =>
    obtain ⟨r, q'⟩ := x
    simp only [Bool.false_eq_true, false_or]
    by_cases h : last < r.block ∧ r.block < b
    · rw [if_pos h, if_pos ⟨h.2, h.1⟩]
    · rw [if_neg h, if_neg (fun h' => h ⟨h'.2, h'.1⟩)]

/-- So many records, by whatever step. -/
def walkS (st : Int → List UInt8 → Int ⊕ (Rc × List UInt8)) : Nat → Int → List UInt8 → List Rc × (Int ⊕ List UInt8)
  | 0, _, q => ([], .inr q)
  | n + 1, last, q =>
    match st last q with
    | .inl k => ([], .inl k)
    | .inr (r, q') => (r :: (walkS st n r.block q').1, (walkS st n r.block q').2)
theorem walkS_R (b z : Nat) : ∀ (n : Nat) (last : Int) (q : List UInt8), walkS (stepG false b z) n last q = walkR b z n last q
  | 0, _, _ => rfl
  | n + 1, last, q => by
    rw [walkS, walkR, stepG_R]
    cases stepR b z last q with
    | inl k => rfl
    | inr x =>
      obtain ⟨r, q'⟩ := x
      simp only [walkS_R b z n]
theorem walkS_snoc (st : Int → List UInt8 → Int ⊕ (Rc × List UInt8)) : ∀ (n : Nat) (last : Int) (q : List UInt8), walkS st (n + 1) last q =
    match walkS st n last q with
    | (rs, .inl k) => (rs, .inl k)
    | (rs, .inr q') => match st (lastOf last rs) q' with
      | .inl k => (rs, .inl k)
      | .inr (r, q'') => (rs ++ [r], .inr q'')
  | 0, last, q => by
    simp only [walkS, lastOf]
    cases st last q with
    | inl k => rfl
    | inr x => rfl
  | n + 1, last, q => by
    rw [walkS]
    conv => rhs; rw [walkS]
    cases h : st last q with
    | inl k => rfl
    | inr x =>
      obtain ⟨r, q'⟩ := x
      simp only []
      rw [walkS_snoc st n r.block q']
      cases h2 : walkS st n r.block q' with
      | mk rs y =>
        cases y with
        | inl k => rfl
        | inr q'' =>
          simp only [lastOf]
          cases h3 : st (lastOf r.block rs) q'' with
          | inl k => rfl
          | inr x => rfl
theorem walkS_ok (st : Int → List UInt8 → Int ⊕ (Rc × List UInt8)) (n : Nat) (last : Int) (q : List UInt8) {rs : List Rc} {q' q'' : List UInt8} {r : Rc} (h : walkS st n last q = (rs, .inr q')) (hs : st (lastOf last rs) q' = .inr (r, q'')) : walkS st (n + 1) last q = (rs ++ [r], .inr q'') := by
  rw [walkS_snoc, h]
  simp only [hs]
theorem walkS_bad (st : Int → List UInt8 → Int ⊕ (Rc × List UInt8)) (n : Nat) (last : Int) (q : List UInt8) {rs : List Rc} {q' : List UInt8} {k : Int} (h : walkS st n last q = (rs, .inr q')) (hs : st (lastOf last rs) q' = .inl k) : ∀ m, walkS st (n + 1 + m) last q = (rs, .inl k)
  | 0 => by
    rw [Nat.add_zero, walkS_snoc, h]
    simp only [hs]
  | m + 1 => by rw [← Nat.add_assoc, walkS_snoc, walkS_bad st n last q h hs m]

theorem stepR_any (b z : Nat) (last : Int) (q q' : List UInt8) (r : Rc) (h : stepR b z last q = .inr (r, q')) (l2 : Int) : stepG true b z l2 q = .inr (r, q') := by
  unfold stepR at h
  unfold stepG
  cases h1 : rdRec z q with
  | inl k => rw [h1] at h; cases h
  | inr x =>
    obtain ⟨r1, q1⟩ := x
    rw [h1] at h
    simp only [] at h ⊢
    by_cases hc : last < r1.block ∧ r1.block < b
    · rw [if_pos hc] at h
      rw [if_pos ⟨hc.2, .inl trivial⟩]
      exact h
    · rw [if_neg hc] at h
      cases h
theorem stepG_bad (b z : Nat) (last l2 : Int) (q : List UInt8) (k : Int) (h : stepG true b z l2 q = .inl k) : stepR b z last q = .inl k := by
  unfold stepG at h
  unfold stepR
  cases h1 : rdRec z q with
  | inl k => rw [h1] at h; exact h
  | inr x =>
    obtain ⟨r1, q1⟩ := x
    rw [h1] at h
    simp only [] at h ⊢
    by_cases hc : r1.block < b
    · rw [if_pos ⟨hc, .inl trivial⟩] at h
      cases h
    · rw [if_neg (fun hh => hc hh.1)] at h
      rw [if_neg (fun hh => hc hh.2)]
      exact h
/-- What is read in order is read in any order. -/
theorem walk_loose (b z : Nat) : ∀ (n : Nat) (last l2 : Int) (q : List UInt8) (rs : List Rc) (q' : List UInt8), walkR b z n last q = (rs, .inr q') → walkS (stepG true b z) n l2 q = (rs, .inr q')
  | 0, _, _, q, rs, q', h => h
  | n + 1, last, l2, q, rs, q', h => by
    rw [walkR] at h
    rw [walkS]
    cases hs : stepR b z last q with
    | inl k => rw [hs] at h; simp at h
    | inr x =>
      obtain ⟨r, q1⟩ := x
      rw [hs] at h
      rw [stepR_any b z last q q1 r hs l2]
      simp only [Prod.mk.injEq] at h ⊢
      obtain ⟨h1, h2⟩ := h
      have := walk_loose b z n r.block r.block q1 (walkR b z n r.block q1).1 q' (by rw [← h2])
      rw [this]
      exact ⟨h1, rfl⟩
/-- The next of them, in any order. -/
theorem loose_step (b z k : Nat) (Q : List UInt8) (ys : List Rc) (q q' : List UInt8) (x : Rc) (h : walkR b z k (-1) Q = (ys, .inr q)) (hS : walkS (stepG true b z) (k + 1) (-1) Q = (ys ++ [x], .inr q')) : rdRec z q = .inr (x, q') ∧ x.block < b := by
  rw [walkS_snoc, walk_loose b z k (-1) (-1) Q ys q h] at hS
  simp only [] at hS
  cases hs : stepG true b z (lastOf (-1) ys) q with
  | inl e => rw [hs] at hS; simp at hS
  | inr v =>
    obtain ⟨r, q1⟩ := v
    rw [hs] at hS
    simp only [Prod.mk.injEq, List.append_cancel_left_eq, List.cons.injEq, and_true, Sum.inr.injEq] at hS
    obtain ⟨rfl, rfl⟩ := hS
    unfold stepG at hs
    cases h1 : rdRec z q with
    | inl k => rw [h1] at hs; cases hs
    | inr v =>
      obtain ⟨r1, q1'⟩ := v
      rw [h1] at hs
      simp only [] at hs
      by_cases hc : r1.block < b
      · rw [if_pos ⟨hc, .inl trivial⟩] at hs
        simp only [Sum.inr.injEq, Prod.mk.injEq] at hs
        obtain ⟨rfl, rfl⟩ := hs
        exact ⟨rfl, hc⟩
      · rw [if_neg (fun hh => hc hh.1)] at hs
        cases hs
theorem loose_bad (b z : Nat) : ∀ (m k : Nat) (last l2 : Int) (Q : List UInt8) (ys : List Rc) (q : List UInt8) (e : Int), walkR b z k last Q = (ys, .inr q) → walkS (stepG true b z) m l2 Q = (ys, .inl e) → walkR b z m last Q = (ys, .inl e)
  | 0, _, _, _, _, _, _, _, _, h => by simp [walkS] at h
  | m + 1, 0, last, l2, Q, ys, q, e, h, hS => by
    simp only [walkR, Prod.mk.injEq] at h
    obtain ⟨rfl, -⟩ := h
    rw [walkS] at hS
    rw [walkR]
    cases hs : stepG true b z l2 Q with
    | inl k =>
      rw [hs] at hS
      rw [stepG_bad b z last l2 Q k hs]
      exact hS
    | inr v =>
      obtain ⟨r, q1⟩ := v
      rw [hs] at hS
      simp at hS
  | m + 1, k + 1, last, l2, Q, ys, q, e, h, hS => by
    rw [walkR] at h
    rw [walkS] at hS
    rw [walkR]
    cases hs : stepR b z last Q with
    | inl k => rw [hs] at h; simp at h
    | inr v =>
      obtain ⟨r, q1⟩ := v
      rw [hs] at h
      rw [stepR_any b z last Q q1 r hs l2] at hS
      simp only [Prod.mk.injEq] at h hS ⊢
      obtain ⟨h1, h2⟩ := h
      obtain ⟨g1, g2⟩ := hS
      have e1 : (walkS (stepG true b z) m r.block q1).1 = (walkR b z k r.block q1).1 := by
        have := h1.trans g1.symm
        simp only [List.cons.injEq, true_and] at this
        exact this.symm
      have := loose_bad b z m k r.block r.block q1 (walkR b z k r.block q1).1 q e (by rw [← h2]) (by rw [← e1, ← g2])
      rw [this]
      exact ⟨h1, rfl⟩
theorem walkS_len (st : Int → List UInt8 → Int ⊕ (Rc × List UInt8)) : ∀ (n : Nat) (last : Int) (q : List UInt8) (rs : List Rc) (q' : List UInt8), walkS st n last q = (rs, .inr q') → rs.length = n
  | 0, _, _, rs, _, h => by
    simp only [walkS, Prod.mk.injEq] at h
    rw [← h.1]
    rfl
  | n + 1, last, q, rs, q', h => by
    rw [walkS] at h
    cases hs : st last q with
    | inl k => rw [hs] at h; simp at h
    | inr v =>
      obtain ⟨r, q1⟩ := v
      rw [hs] at h
      simp only [Prod.mk.injEq] at h
      have := walkS_len st n r.block q1 (walkS st n r.block q1).1 q' (by rw [← h.2])
      rw [← h.1, List.length_cons, this]
end Go.Proofs.Ytdjmhagclcfnfaa
