/- The program's iterators over the records of a text. -/
import Derived.Test.YtdjmhagclcfnfaaPRead3
import Derived.Test.YtdjmhagclcfnfaaRdM
import Derived.Test.YtdjmhagclcfnfaaSeqP
namespace Go.Proofs.Ytdjmhagclcfnfaa
open Go.RowKit Go.Shelf

attribute [local go_sem] Oper.semAt_some

set_option maxHeartbeats 1000000 in
theorem records_any (R : Nat) (f t b z n m : Int) (w : World) :
    Calls Try.prog 86 #[.pointer (some ⟨R, 0, none⟩), .agg #[.int .i64 f, .int .i64 t, .int .i64 b, .int .i64 z, .int .i64 n], .int .i64 m] w fun e w' => e = .returned (.func (.func 117) #[] #[.pointer (some ⟨w.heap.size, 0, none⟩), .pointer (some ⟨w.heap.size + 1, 0, none⟩), .pointer (some ⟨w.heap.size + 2, 0, none⟩)]) ∧
      w' = ((w.alloc (.cells #[.pointer (some ⟨R, 0, none⟩)] 122)).alloc (.cells #[.int .i64 f, .int .i64 t, .int .i64 b, .int .i64 z, .int .i64 n] 101)).alloc (.cells #[.int .i64 m] 3) := by
  have hmf : ∀ (fn : Fn) (first cap : Array Value) (w : World), (Instr.makeFunc fn first cap).run Try.prog w = .ok (.func fn first cap) w := fun _ _ _ _ => rfl
  go_enter Try.func86, Try.ntmps86
  go_wp2
  go_ret
  exact ⟨rfl, rfl⟩
set_option maxHeartbeats 1000000 in
theorem loose_any (R : Nat) (f t b z n m : Int) (w : World) :
    Calls Try.prog 118 #[.pointer (some ⟨R, 0, none⟩), .agg #[.int .i64 f, .int .i64 t, .int .i64 b, .int .i64 z, .int .i64 n], .int .i64 m] w fun e w' => e = .returned (.func (.func 142) #[] #[.pointer (some ⟨w.heap.size + 2, 0, none⟩), .pointer (some ⟨w.heap.size, 0, none⟩), .pointer (some ⟨w.heap.size + 1, 0, none⟩)]) ∧
      w' = ((w.alloc (.cells #[.pointer (some ⟨R, 0, none⟩)] 122)).alloc (.cells #[.int .i64 f, .int .i64 t, .int .i64 b, .int .i64 z, .int .i64 n] 101)).alloc (.cells #[.int .i64 m] 3) := by
  have hmf : ∀ (fn : Fn) (first cap : Array Value) (w : World), (Instr.makeFunc fn first cap).run Try.prog w = .ok (.func fn first cap) w := fun _ _ _ _ => rfl
  go_enter Try.func118, Try.ntmps118
  go_wp2
  go_ret
  exact ⟨rfl, rfl⟩

/-- The blocks that a round must leave as they are: the reader, the boxes of the head, of the reader and of the number. -/
def KSeq (R Bh Bi Bn : Nat) (k : Nat) : Prop := k = R ∨ k = Bh ∨ k = Bi ∨ k = Bn ∨ k = R - 1

set_option maxRecDepth 100000 in
set_option maxHeartbeats 1000000 in
theorem loose1_in (n : Nat) (hn : 1 ≤ n) (lp R Bh Bi Bn f t b z mm m : Nat) (l : List UInt8) (p0 : Nat) (J Jx : List Rc → World → Prop) (Jp : List PanicEntry → List Rc → World → Prop)
    (W : World) (hJ : OwnIt (some R) W.heap.size J)
    (hY : ∀ pre x W1, J pre W1 → (∃ q', walkS (stepG true b z) (pre.length + 1) (-1) (l.drop p0) = (pre ++ [x], .inr q') ∧ pre.length < m) → YieldAt Fence.wide (n - 1) Try.prog lp (encRc x) W1 fun e W' =>
      (e = .returned (.bool true) ∧ J (pre ++ [x]) W' ∧ KeptOn (KSeq R Bh Bi Bn) W1 W') ∨ (e = .returned (.bool false) ∧ Jx (pre ++ [x]) W') ∨ (∃ ch, e = .panicked ch ∧ Jp ch (pre ++ [x]) W'))
    (hr : Rd W R l p0) (hp : p0 ≤ l.length) (hl : l.length ≤ 4611686018427387904) (hz : z ≤ 64) (hm : m ≤ 1000)
    (hBh : W.heap[Bh]? = some (.cells #[.int .i64 f, .int .i64 t, .int .i64 b, .int .i64 z, .int .i64 mm] 101 (0, 0)))
    (hBi : W.heap[Bi]? = some (.cells #[.pointer (some ⟨R, 0, none⟩)] 122 (0, 0)))
    (hBn : W.heap[Bn]? = some (.cells #[.int .i64 m] 3 (0, 0)))
    (h0 : J [] W) :
    CallsIn Fence.wide n Try.prog 142 #[.func (.yield lp) #[] #[], .pointer (some ⟨Bn, 0, none⟩), .pointer (some ⟨Bi, 0, none⟩), .pointer (some ⟨Bh, 0, none⟩)] W fun e W' =>
      (∃ v, e = .returned v ∧ ((∃ xs, (∃ q' p, walkS (stepG true b z) m (-1) (l.drop p0) = (xs, .inr q') ∧ Rd W' R l p ∧ p ≤ l.length ∧ l.drop p = q') ∧ J xs W') ∨ (∃ pre, (pre.length ≤ m ∧ ∃ q', walkS (stepG true b z) pre.length (-1) (l.drop p0) = (pre, .inr q')) ∧ Jx pre W'))) ∨
      (∃ ch xs, e = .panicked ch ∧ (((∃ k, ch = gave k ∧ walkS (stepG true b z) m (-1) (l.drop p0) = (xs, .inl k)) ∧ J xs W') ∨ ((xs.length ≤ m ∧ ∃ q', walkS (stepG true b z) xs.length (-1) (l.drop p0) = (xs, .inr q')) ∧ Jp ch xs W'))) := by
  have h4 := boxed_cell (i := 0) (v := .int .i64 m) hBn rfl
  refine callsIn_of_wp Try.func142 rfl trivial ?_ rfl
  simp only [Try.ntmps142, List.size_toArray, List.length_cons, List.length_nil, Nat.reduceAdd, Nat.reduceSub, Array.replicate_succ, Array.replicate_zero, List.push_toArray, List.append_toArray, List.nil_append, List.cons_append]
  gi_wp2
  gi_loopw [7] (fun i wr => ∃ (k : Nat) (pre : List Rc) (q' : List UInt8) (p : Nat), k ≤ m ∧ i = .int .i64 k ∧ walkS (stepG true b z) k (-1) (l.drop p0) = (pre, .inr q') ∧ Rd wr R l p ∧ p ≤ l.length ∧ l.drop p = q' ∧ J pre wr ∧ wr.heap[Bh]? = W.heap[Bh]? ∧ wr.heap[Bi]? = W.heap[Bi]?)
    (fun i _ => m - (intOf i).toNat)
  case atStart => exact ⟨0, [], l.drop p0, p0, Nat.zero_le _, rfl, rfl, hr, hp, rfl, h0, rfl, rfl⟩
  case round =>
    obtain ⟨k, pre, q', p, hk, rfl, hwk, hrd, hpl, hq, hJs, hbh, hbi⟩ := hrel
    rw [hBh] at hbh
    rw [hBi] at hbi
    have hRh : Bh ≠ R := hrd.not_box hbh (by decide)
    have hRi : Bi ≠ R := hrd.not_box hbi (by decide)
    have HW : Hid _ := hwk
    have HJ : Hid _ := hJs
    have HR : Hid (Rd wr R l p) := hrd
    have HQ : Hid _ := hq
    have HBh : Hid _ := hbh
    have HBi : Hid _ := hbi
    have HY : Hid _ := hY
    have HBh0 : Hid _ := hBh
    have HBi0 : Hid _ := hBi
    have b3 := boxed_cell (i := 3) (v := .int .i64 z) hbh rfl
    have bi := boxed_cell (i := 0) (v := .pointer (some ⟨R, 0, none⟩)) hbi rfl
    clear hwk hJs hrd hq hBh hBi hr h0 hY hbh hbi h4 hBn
    by_cases hlt : k < m
    · gi_wp2_with fail
      refine ⟨trivial, (callsIn_wide.2 (precord R l p z wr HR.out hpl hl hz)).mono ?_⟩
      rintro e W2 ⟨hg, (⟨ke, he, rfl⟩ | ⟨r, q2, p2, he, rfl, hr2, hp2, hq2⟩)⟩
      · have hst : stepG true b z (lastOf (-1) pre) q' = .inl ke := by
          rw [← HQ.out, stepG, he]
        have hwm : walkS (stepG true b z) m (-1) (l.drop p0) = (pre, .inl ke) := by
          have := walkS_bad (stepG true b z) k (-1) _ HW.out hst (m - (k + 1))
          rwa [show k + 1 + (m - (k + 1)) = m from by omega] at this
        exact ⟨rfl, .inr ⟨_, pre, rfl, .inl ⟨⟨ke, rfl, hwm⟩, hJ _ _ _ (some R) HJ.out hg (fun r e => .inl (by rw [e]))⟩⟩⟩
      · simp only [Rc.val]
        have hb2 : W2.heap[Bh]? = _ := (hg.block Bh (Array.getElem?_eq_some_iff.1 HBh.out).1 (by simpa using hRh)).trans HBh.out
        have hi2 : W2.heap[Bi]? = _ := (hg.block Bi (Array.getElem?_eq_some_iff.1 HBi.out).1 (by simpa using hRi)).trans HBi.out
        have hlh := (Array.getElem?_eq_some_iff.1 hb2).1
        have HB2 : Hid _ := hb2
        have HI2 : Hid _ := hi2
        have HR2 : Hid (Rd W2 R l p2) := hr2
        have HJ2 : Hid (J pre W2) := hJ _ _ _ (some R) HJ.out hg (fun r e => .inl (by rw [e]))
        have HQ2 : Hid _ := hq2
        have HE : Hid _ := he
        have c2 := boxed_cell (i := 2) (v := .int .i64 b) hb2 rfl
        have hlen := walkS_len (stepG true b z) k (-1) _ _ _ HW.out
        clear hb2 hi2 hr2 hq2 he hg b3 bi
        by_cases hc : r.block < b
        · have e1 : decide ((b : Int) ≤ r.block) = false := by simp; omega
          have hst : stepG true b z (lastOf (-1) pre) q' = .inr (r, q2) := by
            rw [← HQ.out, stepG, HE.out]
            simp [hc]
          have hwb := walkS_ok (stepG true b z) k (-1) _ HW.out hst
          have HW2 : Hid _ := hwb
          have HJ3 : Hid (∀ o : Obj, J pre (W2.alloc o)) := fun o => hJ _ _ _ none HJ2.out (galloc _ _ _) (fun r e => by cases e)
          have HY3 : Hid (∀ o : Obj, _) := fun o => HY.out pre r (W2.alloc o) (HJ3.out o) ⟨q2, by rw [hlen]; exact hwb, by omega⟩
          have HK3 : Hid (∀ (o : Obj) (A : World), KeptOn (KSeq R Bh Bi Bn) (W2.alloc o) A → Rd A R l p2 ∧ A.heap[Bh]? = _ ∧ A.heap[Bi]? = _) := fun o A hk =>
            ⟨(Rd.alloc HR2.out o).of (hk R (.inl rfl)) (hk (R - 1) (.inr (.inr (.inr (.inr rfl))))), ((hk Bh (.inr (.inl rfl))).trans (Below.heap_alloc _ _ _ hlh)).trans (HB2.out.trans HBh0.out.symm), ((hk Bi (.inr (.inr (.inl rfl)))).trans (Below.heap_alloc _ _ _ (Array.getElem?_eq_some_iff.1 HI2.out).1)).trans (HI2.out.trans HBi0.out.symm)⟩
          obtain ⟨fn, tmps, assign, body, hy, hRd⟩ := HY3.out (.cells #[.bool r.free, .int .i64 r.block, .string r.data] 34)
          clear hst hwb hc HY
          gi_wp2
          refine hRd.mono ?_
          rintro e W4 (⟨rfl, hJ4, hk4⟩ | ⟨rfl, hJx4⟩ | ⟨ch, rfl, hJp⟩)
          · have HJ4 : Hid _ := hJ4
            have HK4 : Hid _ := hk4
            clear hJ4 hk4
            gi_wp2
            go_roundw
            case rel =>
              obtain ⟨g1, g2, g3⟩ := HK3.out _ _ HK4.out
              exact ⟨k + 1, pre ++ [r], q2, p2, by omega, by simp, HW2.out, g1, hp2, HQ2.out, HJ4.out, g2, g3⟩
            case measure => simp [intOf]; omega
          · have HJ4 : Hid _ := hJx4
            clear hJx4
            gi_wp2
            refine bodyPost_ret (results_none rfl _ _ _) rfl ?_
            exact .inl ⟨_, rfl, .inr ⟨pre ++ [r], ⟨by rw [List.length_append, hlen]; exact hlt, q2, by rw [List.length_append, hlen]; exact HW2.out⟩, HJ4.out⟩⟩
          · exact ⟨rfl, .inr ⟨ch, pre ++ [r], rfl, .inr ⟨⟨by rw [List.length_append, hlen]; exact hlt, q2, by rw [List.length_append, hlen]; exact HW2.out⟩, hJp⟩⟩⟩
        · have e1 : decide ((b : Int) ≤ r.block) = true := by simp; omega
          have hst : stepG true b z (lastOf (-1) pre) q' = .inl 6 := by
            rw [← HQ.out, stepG, HE.out]
            simp only [if_neg (fun h : r.block < (b : Int) ∧ _ => hc h.1)]
          have HWM : Hid (walkS (stepG true b z) m (-1) (l.drop p0) = (pre, .inl 6)) := by
            have := walkS_bad (stepG true b z) k (-1) _ HW.out hst (m - (k + 1))
            rwa [show k + 1 + (m - (k + 1)) = m from by omega] at this
          have HJ3 : Hid (∀ o : Obj, J pre (W2.alloc o)) := fun o => hJ _ _ _ none HJ2.out (galloc _ _ _) (fun r e => by cases e)
          clear hst hc
          gi_wp2
          exact ⟨rfl, .inr ⟨_, pre, rfl, .inl ⟨⟨6, rfl, HWM.out⟩, HJ3.out _⟩⟩⟩
    · obtain rfl : k = m := by omega
      gi_wp2
      go_end0
      exact .inl ⟨_, rfl, .inl ⟨pre, ⟨q', p, HW.out, HR.out, hpl, HQ.out⟩, HJ.out⟩⟩

/-- **Records of a text in any order, by their iterator.** -/
theorem loose_seq (n : Nat) (hn : 1 ≤ n) (R Bh Bi Bn f t b z mm m : Nat) (l : List UInt8) (p0 : Nat) (w : World)
    (hr : Rd w R l p0) (hp : p0 ≤ l.length) (hl : l.length ≤ 4611686018427387904) (hz : z ≤ 64) (hm : m ≤ 1000)
    (hBh : w.heap[Bh]? = some (.cells #[.int .i64 f, .int .i64 t, .int .i64 b, .int .i64 z, .int .i64 mm] 101 (0, 0)))
    (hBi : w.heap[Bi]? = some (.cells #[.pointer (some ⟨R, 0, none⟩)] 122 (0, 0)))
    (hBn : w.heap[Bn]? = some (.cells #[.int .i64 m] 3 (0, 0))) :
    SeqP Fence.wide n Try.prog 142 #[.pointer (some ⟨Bn, 0, none⟩), .pointer (some ⟨Bi, 0, none⟩), .pointer (some ⟨Bh, 0, none⟩)] encRc (KSeq R Bh Bi Bn) (some R)
      (fun pre x => ∃ q', walkS (stepG true b z) (pre.length + 1) (-1) (l.drop p0) = (pre ++ [x], .inr q') ∧ pre.length < m)
      (fun xs W' => ∃ q' p, walkS (stepG true b z) m (-1) (l.drop p0) = (xs, .inr q') ∧ Rd W' R l p ∧ p ≤ l.length ∧ l.drop p = q')
      (fun pre => pre.length ≤ m ∧ ∃ q', walkS (stepG true b z) pre.length (-1) (l.drop p0) = (pre, .inr q'))
      (fun ch xs => ∃ k, ch = gave k ∧ walkS (stepG true b z) m (-1) (l.drop p0) = (xs, .inl k)) w := by
  intro lp J Jx Jp W hW hJ hJx hJp hY h0
  have lt := fun {k : Nat} {o : Obj} (e : w.heap[k]? = some o) => (Array.getElem?_eq_some_iff.1 e).1
  exact loose1_in n hn lp R Bh Bi Bn f t b z mm m l p0 J Jx Jp W hJ hY (hr.of (hW.block R hr.lt) (hW.block (R - 1) (by have := hr.lt; omega))) hp hl hz hm ((hW.block Bh (lt hBh)).trans hBh) ((hW.block Bi (lt hBi)).trans hBi) ((hW.block Bn (lt hBn)).trans hBn) h0
end Go.Proofs.Ytdjmhagclcfnfaa
