/- The program's iterator over the records of a text. -/
import Derived.Test.YtpopjmkipddpgaaPRead3
import Derived.Test.YtpopjmkipddpgaaRdM
namespace Go.Proofs.Ytpopjmkipddpgaa
open Go.RowKit Go.Shelf

attribute [local go_sem] Oper.semAt_some

set_option maxHeartbeats 1000000 in
theorem records_any (R : Nat) (f t b z n : Int) (w : World) :
    Calls Try.prog 60 #[.pointer (some ⟨R, 0, none⟩), .agg #[.int .i64 f, .int .i64 t, .int .i64 b, .int .i64 z, .int .i64 n]] w fun e w' => e = .returned (.func (.func 77) #[] #[.pointer (some ⟨w.heap.size + 1, 0, none⟩), .pointer (some ⟨w.heap.size, 0, none⟩)]) ∧
      w' = (w.alloc (.cells #[.pointer (some ⟨R, 0, none⟩)] 94)).alloc (.cells #[.int .i64 f, .int .i64 t, .int .i64 b, .int .i64 z, .int .i64 n] 72) := by
  have hmf : ∀ (fn : Fn) (first cap : Array Value) (w : World), (Instr.makeFunc fn first cap).run Try.prog w = .ok (.func fn first cap) w := fun _ _ _ _ => rfl
  go_enter Try.func60, Try.ntmps60
  go_wp2
  go_ret
  exact ⟨rfl, rfl⟩

/-- The blocks that a round must leave as they are: the reader, the boxes of the head and of the reader. -/
def KSeq (R Bh Bi : Nat) (k : Nat) : Prop := k = R ∨ k = Bh ∨ k = Bi

set_option maxRecDepth 100000 in
set_option maxHeartbeats 1000000 in
theorem records1_in (n : Nat) (hn : 1 ≤ n) (lp R Bh Bi f t b z m : Nat) (l : List UInt8) (p0 : Nat) (J Jx : List Rc → World → Prop)
    (W : World) (hJ : OwnIt (some R) W.heap.size J)
    (hY : ∀ pre x W1, J pre W1 → (∃ q', walkR b z (pre.length + 1) (-1) (l.drop p0) = (pre ++ [x], .inr q') ∧ pre.length < m) → YieldAt Fence.wide (n - 1) Try.prog lp (encRc x) W1 fun e W' =>
      (e = .returned (.bool true) ∧ J (pre ++ [x]) W' ∧ KeptOn (KSeq R Bh Bi) W1 W') ∨ (e = .returned (.bool false) ∧ Jx (pre ++ [x]) W'))
    (hr : Rd W R l p0) (hp : p0 ≤ l.length) (hp1 : p0 ≤ 50) (hl : l.length ≤ 4611686018427387904) (hz : z ≤ 64) (hm : m ≤ 100)
    (hBh : W.heap[Bh]? = some (.cells #[.int .i64 f, .int .i64 t, .int .i64 b, .int .i64 z, .int .i64 m] 72 (0, 0)))
    (hBi : W.heap[Bi]? = some (.cells #[.pointer (some ⟨R, 0, none⟩)] 94 (0, 0)))
    (h0 : J [] W) :
    CallsIn Fence.wide n Try.prog 77 #[.func (.yield lp) #[] #[], .pointer (some ⟨Bh, 0, none⟩), .pointer (some ⟨Bi, 0, none⟩)] W fun e W' =>
      (∃ v, e = .returned v ∧ ((∃ xs, (∃ q', walkR b z m (-1) (l.drop p0) = (xs, .inr q') ∧ endR l (l.length - q'.length) = none) ∧ J xs W') ∨ (∃ pre, (pre.length ≤ m ∧ ∃ q', walkR b z pre.length (-1) (l.drop p0) = (pre, .inr q')) ∧ Jx pre W'))) ∨
      (∃ ch xs, e = .panicked ch ∧ (∃ k, ch = gave k ∧ (walkR b z m (-1) (l.drop p0) = (xs, .inl k) ∨ ∃ q', walkR b z m (-1) (l.drop p0) = (xs, .inr q') ∧ endR l (l.length - q'.length) = some k)) ∧ J xs W') := by
  have h4 := boxed_cell (i := 4) (v := .int .i64 m) hBh rfl
  refine callsIn_of_wp Try.func77 rfl trivial ?_ rfl
  simp only [Try.ntmps77, List.size_toArray, List.length_cons, List.length_nil, Nat.reduceAdd, Nat.reduceSub, Array.replicate_succ, Array.replicate_zero, List.push_toArray, List.append_toArray, List.nil_append, List.cons_append]
  gi_wp2
  gi_loopw [4, 8] (fun la i wr => ∃ (k : Nat) (pre : List Rc) (q' : List UInt8) (p : Nat), k ≤ m ∧ i = .int .i64 k ∧ la = .int .i64 (lastOf (-1) pre) ∧ walkR b z k (-1) (l.drop p0) = (pre, .inr q') ∧ Rd wr R l p ∧ p ≤ l.length ∧ l.drop p = q' ∧ J pre wr ∧ wr.heap[Bh]? = W.heap[Bh]? ∧ wr.heap[Bi]? = W.heap[Bi]?)
    (fun _ i _ => m - (intOf i).toNat)
  case atStart => exact ⟨0, [], l.drop p0, p0, Nat.zero_le _, rfl, rfl, rfl, hr, hp, rfl, h0, rfl, rfl⟩
  case round =>
    obtain ⟨k, pre, q', p, hk, rfl, rfl, hwk, hrd, hpl, hq, hJs, hbh, hbi⟩ := hrel
    rw [hBh] at hbh
    rw [hBi] at hbi
    have hRh : Bh ≠ R := by
      rintro rfl
      have h := hrd
      unfold Rd at h
      rw [hbh] at h
      cases h
    have hRi : Bi ≠ R := by
      rintro rfl
      have h := hrd
      unfold Rd at h
      rw [hbi] at h
      cases h
    have HW : Hid _ := hwk
    have HJ : Hid _ := hJs
    have HR : Hid _ := hrd
    have HQ : Hid _ := hq
    have HBh : Hid _ := hbh
    have HBi : Hid _ := hbi
    have HY : Hid _ := hY
    have HBh0 : Hid _ := hBh
    have HBi0 : Hid _ := hBi
    have b3 := boxed_cell (i := 3) (v := .int .i64 z) hbh rfl
    have bi := boxed_cell (i := 0) (v := .pointer (some ⟨R, 0, none⟩)) hbi rfl
    clear hwk hJs hrd hq hBh hBi hr h0 hY hbh hbi h4
    by_cases hlt : k < m
    · gi_wp2_with fail
      refine ⟨trivial, (callsIn_wide.2 (precord R l p z wr HR.out hpl hl hz)).mono ?_⟩
      rintro e W2 ⟨hg, (⟨ke, he, rfl⟩ | ⟨r, q2, p2, he, rfl, hr2, hp2, hq2⟩)⟩
      · have hst : stepR b z (lastOf (-1) pre) q' = .inl ke := by
          rw [← HQ.out, stepR, he]
        have hwb := walk_bad b z k (-1) _ HW.out hst
        have hwm : walkR b z m (-1) (l.drop p0) = (pre, .inl ke) := by
          have := walk_stays b z (k + 1) (-1) _ hwb (m - (k + 1))
          rwa [show k + 1 + (m - (k + 1)) = m from by omega] at this
        exact ⟨rfl, .inr ⟨_, pre, rfl, ⟨ke, rfl, .inl hwm⟩, hJ _ _ _ (some R) HJ.out hg (fun r e => .inl (by rw [e]))⟩⟩
      · simp only [Rc.val]
        have hb2 : W2.heap[Bh]? = _ := (hg.block Bh (Array.getElem?_eq_some_iff.1 HBh.out).1 (by simpa using hRh)).trans HBh.out
        have hi2 : W2.heap[Bi]? = _ := (hg.block Bi (Array.getElem?_eq_some_iff.1 HBi.out).1 (by simpa using hRi)).trans HBi.out
        have hlh := (Array.getElem?_eq_some_iff.1 hb2).1
        have HB2 : Hid _ := hb2
        have HI2 : Hid _ := hi2
        have HR2 : Hid (Rd W2 R l p2) := hr2
        have HJ2 : Hid (J pre W2) := hJ _ _ _ (some R) HJ.out hg (fun r e => .inl (by rw [e]))
        have HQ2 : Hid _ := hq2
        have HE : Hid _ := he
        have b0 := boxed_cell (i := 0) (v := .int .i64 f) hb2 rfl
        have b1 := boxed_cell (i := 1) (v := .int .i64 t) hb2 rfl
        have b2 := boxed_cell (i := 2) (v := .int .i64 b) hb2 rfl
        have b3 := boxed_cell (i := 3) (v := .int .i64 z) hb2 rfl
        have b4 := boxed_cell (i := 4) (v := .int .i64 m) hb2 rfl
        clear hb2 hi2 hr2 hq2 he hg
        gi_wp2_with fail
        refine ⟨trivial, (callsIn_wide.2 (follows_any f t b z m r.block (lastOf (-1) pre) _)).mono ?_⟩
        rintro e W3 ⟨rfl, hb3⟩
        have hg3 : W2.grownBy W3 none := gtrans (galloc _ _ _) (gbelow hb3)
        have hx3 : W3.heap[W2.heap.size]? = _ := (hb3.block _ (by simp)).trans (World.alloc_heap_new _ _)
        have HB3 : Hid _ := (hg3.block Bh (Array.getElem?_eq_some_iff.1 HB2.out).1 (by simp)).trans HB2.out
        have HI3 : Hid _ := (hg3.block Bi (Array.getElem?_eq_some_iff.1 HI2.out).1 (by simp)).trans HI2.out
        have HR3 : Hid (Rd W3 R l p2) := HR2.out.kept hg3
        have HJ3 : Hid (J pre W3) := hJ _ _ _ none HJ2.out hg3 (fun r e => by cases e)
        have r0 := boxed_cell (i := 0) (v := .bool r.free) hx3 rfl
        have r1 := boxed_cell (i := 1) (v := .int .i64 r.block) hx3 rfl
        have r2 := boxed_cell (i := 2) (v := .string r.data) hx3 rfl
        have hlen := walk_length b z k (-1) _ HW.out
        clear hb3 hg3 hx3 b0 b1 b2 b3 b4
        by_cases hc : lastOf (-1) pre < r.block ∧ r.block < b
        · have e1 : (decide (lastOf (-1) pre < r.block) && decide (r.block < b)) = true := by simp [hc.1, hc.2]
          have hst : stepR b z (lastOf (-1) pre) q' = .inr (r, q2) := by
            rw [← HQ.out, stepR, HE.out]
            simp only [if_pos hc]
          have hwb := walk_ok b z k (-1) _ HW.out hst
          have HW2 : Hid _ := hwb
          obtain ⟨fn, tmps, assign, body, hy, hRd⟩ := HY.out pre r W3 HJ3.out ⟨q2, by rw [hlen]; exact hwb, by omega⟩
          clear hst hwb hc
          gi_wp2
          refine hRd.mono ?_
          rintro e W4 (⟨rfl, hJ4, hk4⟩ | ⟨rfl, hJx4⟩)
          · have HJ4 : Hid _ := hJ4
            have HK4 : Hid _ := hk4
            clear hJ4 hk4
            gi_wp2
            go_roundw
            case rel =>
              refine ⟨k + 1, pre ++ [r], q2, p2, by omega, by simp, by rw [lastOf_snoc], HW2.out, (HK4.out R (.inl rfl)).trans HR3.out, hp2, HQ2.out, HJ4.out, ?_, ?_⟩
              · exact ((HK4.out Bh (.inr (.inl rfl))).trans HB3.out).trans HBh0.out.symm
              · exact ((HK4.out Bi (.inr (.inr rfl))).trans HI3.out).trans HBi0.out.symm
            case measure => simp [intOf]; omega
          · have HJ4 : Hid _ := hJx4
            clear hJx4
            gi_wp2
            refine bodyPost_ret (results_none rfl _ _ _) rfl ?_
            exact .inl ⟨_, rfl, .inr ⟨pre ++ [r], ⟨by rw [List.length_append, hlen]; exact hlt, q2, by rw [List.length_append, hlen]; exact HW2.out⟩, HJ4.out⟩⟩
        · have e1 : (decide (lastOf (-1) pre < r.block) && decide (r.block < b)) = false := by
            rw [Bool.and_eq_false_iff]
            simp only [decide_eq_false_iff_not]
            omega
          have hst : stepR b z (lastOf (-1) pre) q' = .inl 6 := by
            rw [← HQ.out, stepR, HE.out]
            simp only [if_neg hc]
          have hwb := walk_bad b z k (-1) _ HW.out hst
          have HWM : Hid (walkR b z m (-1) (l.drop p0) = (pre, .inl 6)) := by
            have := walk_stays b z (k + 1) (-1) _ hwb (m - (k + 1))
            rwa [show k + 1 + (m - (k + 1)) = m from by omega] at this
          clear hst hwb hc
          gi_wp2
          exact ⟨rfl, .inr ⟨_, pre, rfl, ⟨6, rfl, .inl HWM.out⟩, HJ3.out⟩⟩
    · obtain rfl : k = m := by omega
      have hpos := walk_pos b z k hz l p0 p hp hpl HW.out HQ.out
      have hpe : l.length - q'.length = p := by rw [← HQ.out, List.length_drop]; omega
      have HP : Hid (endR l (l.length - q'.length) = endR l p) := by
        show _ = _
        rw [hpe]
      clear hpe
      gi_wp2_with fail
      refine ⟨trivial, (callsIn_wide.2 (pend R l p wr HR.out hpl hl (by omega))).mono ?_⟩
      rintro e W2 ⟨hg, (⟨ke, he, rfl⟩ | ⟨he, rfl⟩)⟩
      · exact ⟨rfl, .inr ⟨_, pre, rfl, ⟨ke, rfl, .inr ⟨q', HW.out, by rw [HP.out]; exact he⟩⟩, hJ _ _ _ (some R) HJ.out hg (fun r e => .inl (by rw [e]))⟩⟩
      · have HJ2 : Hid (J pre W2) := hJ _ _ _ (some R) HJ.out hg (fun r e => .inl (by rw [e]))
        have HE : Hid _ := he
        clear hg he
        gi_wp2
        go_end0
        exact .inl ⟨_, rfl, .inl ⟨pre, ⟨q', HW.out, by rw [HP.out]; exact HE.out⟩, HJ2.out⟩⟩

/-- **The records of a text, by their iterator.** -/
theorem records_seq (n : Nat) (hn : 1 ≤ n) (R Bh Bi f t b z m : Nat) (l : List UInt8) (p0 : Nat) (w : World)
    (hr : Rd w R l p0) (hp : p0 ≤ l.length) (hp1 : p0 ≤ 50) (hl : l.length ≤ 4611686018427387904) (hz : z ≤ 64) (hm : m ≤ 100)
    (hBh : w.heap[Bh]? = some (.cells #[.int .i64 f, .int .i64 t, .int .i64 b, .int .i64 z, .int .i64 m] 72 (0, 0)))
    (hBi : w.heap[Bi]? = some (.cells #[.pointer (some ⟨R, 0, none⟩)] 94 (0, 0))) :
    SeqC Fence.wide n Try.prog 77 #[.pointer (some ⟨Bh, 0, none⟩), .pointer (some ⟨Bi, 0, none⟩)] encRc (KSeq R Bh Bi) (some R)
      (fun pre x => ∃ q', walkR b z (pre.length + 1) (-1) (l.drop p0) = (pre ++ [x], .inr q') ∧ pre.length < m)
      (fun xs => ∃ q', walkR b z m (-1) (l.drop p0) = (xs, .inr q') ∧ endR l (l.length - q'.length) = none)
      (fun pre => pre.length ≤ m ∧ ∃ q', walkR b z pre.length (-1) (l.drop p0) = (pre, .inr q'))
      (fun ch xs => ∃ k, ch = gave k ∧ (walkR b z m (-1) (l.drop p0) = (xs, .inl k) ∨ ∃ q', walkR b z m (-1) (l.drop p0) = (xs, .inr q') ∧ endR l (l.length - q'.length) = some k)) w := by
  intro lp J Jx W hW hJ hJx hY h0
  have lt := fun {k : Nat} {o : Obj} (e : w.heap[k]? = some o) => (Array.getElem?_eq_some_iff.1 e).1
  exact records1_in n hn lp R Bh Bi f t b z m l p0 J Jx W hJ hY ((hW.block R hr.lt).trans hr) hp hp1 hl hz hm ((hW.block Bh (lt hBh)).trans hBh) ((hW.block Bi (lt hBi)).trans hBi) h0
end Go.Proofs.Ytpopjmkipddpgaa
