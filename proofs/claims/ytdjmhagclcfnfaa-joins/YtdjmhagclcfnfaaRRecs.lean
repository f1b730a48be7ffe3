/- The reference's records. -/
import Derived.Test.YtdjmhagclcfnfaaROne
import Derived.Test.YtdjmhagclcfnfaaParseM
namespace Go.Proofs.Ytdjmhagclcfnfaa
open Go.RowKit Go.Shelf

theorem OwnsR.ne {B : Nat} {W : World} {v : Value} {rs : List Rc} (h : OwnsR B W v rs) {k : Nat} {cs : Array Value} {t : TypeId} {fr : Nat × Nat} (hk : W.heap[k]? = some (.cells cs t fr)) (ht : t ≠ 34) : some k ≠ v.ownBlock := by
  rcases h.2 with ⟨rfl, _⟩ | ⟨g, cap, cur, rfl, _, hgb, _⟩
  · simp [Value.ownBlock]
  · intro e
    obtain rfl : k = g := by simpa [Value.ownBlock] using e
    rw [hgb] at hk
    simp only [Option.some.injEq, Obj.cells.injEq] at hk
    exact ht hk.2.1.symm
theorem OwnsR.slice {B : Nat} {W : World} {v : Value} {rs : List Rc} (h : OwnsR B W v rs) : ∃ a ln cp, v = .slice a ln cp := by
  rcases h.2 with ⟨rfl, _⟩ | ⟨g, cap, cur, rfl, _⟩
  · exact ⟨_, _, _, rfl⟩
  · exact ⟨_, _, _, rfl⟩

theorem OwnsR.kept {B : Nat} {W W' : World} {v : Value} {rs : List Rc} (h : OwnsR B W v rs) (hg : W.grownBy W' none) : OwnsR B W' v rs := by
  refine World.ownsRow.kept h hg ?_
  rcases h.2 with ⟨rfl, _⟩ | ⟨g, cap, cur, rfl, _⟩
  · exact .inl rfl
  · exact .inr (by simp [Value.ownBlock])
theorem OwnsR.alloc {B : Nat} {W : World} {v : Value} {rs : List Rc} (h : OwnsR B W v rs) (o : Obj) : OwnsR B (W.alloc o) v rs := World.ownsRow.alloc h o
theorem OwnsR.grown {A W W' : World} {v : Value} {rs : List Rc} (h : OwnsR A.heap.size W v rs) (hg : A.grownBy W none) (hk : W.grownBy W' v.ownBlock) : A.grownBy W' none := by
  refine ⟨hk.os.trans hg.os, hk.tape.trans hg.tape, hk.output.trans hg.output, Nat.le_trans hg.size hk.size, fun j hj hne => (hk.block j (Nat.lt_of_lt_of_le hj hg.size) ?_).trans (hg.block j hj hne)⟩
  rcases h.2 with ⟨rfl, _⟩ | ⟨g, cap, cur, rfl, hbg, _⟩
  · simp [Value.ownBlock]
  · simp [Value.ownBlock]; omega
theorem OwnsR.lt {B : Nat} {W : World} {v : Value} {rs : List Rc} (h : OwnsR B W v rs) : some W.heap.size ≠ v.ownBlock := by
  rcases h.2 with ⟨rfl, _⟩ | ⟨g, cap, cur, rfl, hb, hg, _⟩
  · simp [Value.ownBlock]
  · have := (Array.getElem?_eq_some_iff.1 hg).1
    simp [Value.ownBlock]; omega
/-- What 'records' tells. -/
def RecsSaid (any : Bool) (b z n : Nat) (q : List UInt8) (w : World) (e : Ending) (w' : World) : Prop :=
  w.grownBy w' none ∧ ((∃ rs k, walkS (stepG any b z) n (-1) q = (rs, .inl k) ∧ e = .returned (.tuple #[.slice none 0 0, .string ⟨#[]⟩, .int .i64 k])) ∨
    (∃ rs q' v, walkS (stepG any b z) n (-1) q = (rs, .inr q') ∧ e = .returned (.tuple #[v, .string ⟨q'.toArray⟩, .int .i64 0]) ∧ OwnsR w.heap.size w' v rs))

theorem cells_new2 (W : World) (l : List Value) (t : TypeId) (k : Nat) (hk : k = W.heap.size) : ∀ (j : Nat) (u : Value), l[j]? = some u → (W.alloc (.cells l.toArray t)).cell? ((⟨k, 0, none⟩ : Addr).add j) = some u := by
  subst hk
  exact cells_new W l t
theorem stepG_len (any : Bool) (b z : Nat) (last : Int) (q q' : List UInt8) (r : Rc) (h : stepG any b z last q = .inr (r, q')) : q'.length ≤ q.length := by
  unfold stepG at h
  cases h1 : rdRec z q with
  | inl k => rw [h1] at h; cases h
  | inr x =>
    obtain ⟨r1, q1⟩ := x
    rw [h1] at h
    simp only [] at h
    split at h
    · simp only [Sum.inr.injEq, Prod.mk.injEq] at h
      obtain ⟨rfl, rfl⟩ := h
      obtain ⟨e1, _⟩ := rdRec_ok z q q1 r1 h1
      rw [e1, List.length_append]
      omega
    · cases h
theorem stepG_err (any : Bool) (b z : Nat) (last : Int) (q : List UInt8) (k : Int) (h : stepG any b z last q = .inl k) : 2 ≤ k ∧ k ≤ 8 := by
  unfold stepG at h
  cases h1 : rdRec z q with
  | inl k1 =>
    rw [h1] at h
    simp only [Sum.inl.injEq] at h
    rw [← h]
    exact rdRec_err z q k1 h1
  | inr x =>
    obtain ⟨r, q1⟩ := x
    rw [h1] at h
    simp only [] at h
    split at h
    · cases h
    · simp only [Sum.inl.injEq] at h
      omega

set_option maxRecDepth 100000 in
set_option maxHeartbeats 2000000 in
theorem rrecords (q : List UInt8) (b z n : Nat) (f t : Int) (any : Bool) (w : World) (hz : z ≤ 64) (hn : n ≤ 1000) (hl : q.length ≤ 4611686018427387904) :
    Calls Try.prog 46 #[.string ⟨q.toArray⟩, .agg #[.int .i64 f, .int .i64 t, .int .i64 b, .int .i64 z, .slice none 0 0], .int .i64 n, .bool any] w (RecsSaid any b z n q w) := by
  obtain ⟨i0, hi, hz0, hz1, hz2⟩ := info_parts Try.infoRec
  go_enter Try.func46, Try.ntmps46
  go_wp2
  go_loopw [0, 11, 12, 13] (fun rest out la i wr => ∃ (k : Nat) (pre : List Rc) (q' : List UInt8), k ≤ n ∧ i = .int .i64 k ∧ la = .int .i64 (lastOf (-1) pre) ∧ rest = .string ⟨q'.toArray⟩ ∧ q'.length ≤ q.length ∧ pre.length = k ∧ walkS (stepG any b z) k (-1) q = (pre, .inr q') ∧ OwnsR w.heap.size wr out pre ∧ wr.heap[w.heap.size]? = some (.cells #[.int .i64 f, .int .i64 t, .int .i64 b, .int .i64 z, .slice none 0 0] 24 (0, 0)) ∧ w.grownBy wr none)
    (fun _ _ _ i _ => n - (intOf i).toNat)
  case atStart => exact ⟨0, [], q, Nat.zero_le _, rfl, rfl, rfl, Nat.le_refl _, rfl, rfl, World.ownsRow_nil _ _ _ _, World.alloc_heap_new _ _, galloc _ _ _⟩
  case round =>
    obtain ⟨k, pre, q', hk, rfl, rfl, rfl, hql, hpl, hwk, hown, hbx, hgw⟩ := hrel
    have HW : Hid _ := hwk
    have HO : Hid _ := hown
    have HB : Hid _ := hbx
    have HG : Hid _ := hgw
    have s0 := boxed_cell (i := 0) (v := .int .i64 f) hbx rfl
    have s1 := boxed_cell (i := 1) (v := .int .i64 t) hbx rfl
    have s2 := boxed_cell (i := 2) (v := .int .i64 b) hbx rfl
    have s3 := boxed_cell (i := 3) (v := .int .i64 z) hbx rfl
    have s4 := boxed_cell (i := 4) (v := .slice none 0 0) hbx rfl
    obtain ⟨a, ln, cp, rfl⟩ := hown.slice
    clear hwk hown hbx hgw
    by_cases hlt : k < n
    · go_wp2_with fail
      refine (rone q' b z f t (lastOf (-1) pre) any wr none 0 0 hz (by omega)).mono ?_
      rintro e w2 ⟨hg2, (⟨ke, he, rfl⟩ | ⟨r, q2, he, rfl⟩)⟩
      · simp only [OneErr]
        have hke := stepG_err any b z _ _ _ he
        have e1 : (ke != 0) = true := by simp; omega
        have HN : Hid (walkS (stepG any b z) n (-1) q = (pre, .inl ke)) := by
          have := walkS_bad (stepG any b z) k (-1) q HW.out he (n - (k + 1))
          rwa [show k + 1 + (n - (k + 1)) = n from by omega] at this
        have G2 : Hid _ := hg2
        clear he hke hg2
        go_wp2
        refine bodyPost_ret (results_tmp3 rfl _ _ _) rfl ?_
        exact ⟨gallocR (gtrans HG.out G2.out) _, .inl ⟨pre, ke, HN.out, rfl⟩⟩
      · simp only [OneOk]
        have HN : Hid _ := walkS_ok (stepG any b z) k (-1) q HW.out he
        have hq2 := stepG_len any b z _ _ _ _ he
        have hO2 : OwnsR w.heap.size (w2.alloc (.cells #[.bool r.free, .int .i64 r.block, .string r.data] 34)) (.slice a ln cp) pre := (OwnsR.kept HO.out hg2).alloc _
        have hG2 : w.grownBy (w2.alloc (.cells #[.bool r.free, .int .i64 r.block, .string r.data] 34)) none := gallocR (gtrans HG.out hg2) _
        have hB2 := (Below.heap_alloc w2 (.cells #[.bool r.free, .int .i64 r.block, .string r.data] 34) w.heap.size (Nat.lt_of_lt_of_le (Array.getElem?_eq_some_iff.1 HB.out).1 hg2.size)).trans ((hg2.block w.heap.size (Array.getElem?_eq_some_iff.1 HB.out).1 (by simp)).trans HB.out)
        have NE : Hid (some w2.heap.size ≠ (Value.slice a ln cp).ownBlock) := (OwnsR.kept HO.out hg2).lt
        have hml : pre.length + 1 ≤ maxLen := Nat.le_trans (show pre.length + 1 ≤ 1001 by omega) (by decide)
        have O2 : Hid _ := hO2
        have G2 : Hid _ := hG2
        have B2 : Hid _ := hB2
        clear he hg2 hO2 hG2 hB2
        go_wp2_with (at_builtin; refine wpList_append_own _ rfl _ _ 22 rfl w.heap.size 34 i0 _ 3 32 Try.underlying22 hi hz0 hz1 hz2 rfl (by decide) _ _ _ rfl (World.ownsRow.alloc O2.out _) ⟨_, 0, none⟩ 1 1 [.bool r.free, .int .i64 r.block, .string r.data] rfl rfl (cells_new2 _ _ _ _ (by simp)) (by simp [Value.oneCell']) hml (by omega) (by have := G2.out.size; simp at this ⊢; omega) ?_; intro v' w4 hown' hg4 hnil; have hr4 := (hg4.block w2.heap.size (by simp; omega) NE.out).trans ((Below.heap_alloc _ _ _ (by simp)).trans (World.alloc_heap_new w2 _)); have k1 := boxed_cell (i := 1) (v := .int .i64 r.block) hr4 rfl)
        go_roundw
        case rel =>
          refine ⟨k + 1, pre ++ [r], q2, by omega, by go_num, by rw [lastOf_snoc], rfl, by omega, by rw [List.length_append]; simpa using hpl, HN.out, ownsR_snoc hown', ?_, ?_⟩
          · exact (hg4.block w.heap.size (by have := (Array.getElem?_eq_some_iff.1 B2.out).1; simp at this ⊢; omega) (OwnsR.ne O2.out B2.out (by decide))).trans ((Below.heap_alloc _ _ _ (Array.getElem?_eq_some_iff.1 B2.out).1).trans B2.out)
          · exact OwnsR.grown (O2.out.alloc _) (gallocR G2.out _) hg4
        case measure => simp [intOf]; omega
    · obtain rfl : k = n := by omega
      go_wp2
      refine bodyPost_ret (results_tmp3 rfl _ _ _) rfl ?_
      exact ⟨HG.out, .inr ⟨pre, q', _, HW.out, rfl, HO.out⟩⟩
end Go.Proofs.Ytdjmhagclcfnfaa
