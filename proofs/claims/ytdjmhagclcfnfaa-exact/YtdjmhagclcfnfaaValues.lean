/- slices.Values over records. -/
import Derived.Test.YtdjmhagclcfnfaaSeq
import Derived.Test.YtdjmhagclcfnfaaSerGood
import Derived.RangeFuncCalls
import Derived.RangeFuncLeaves
import Derived.Shelf.Abstract
import Derived.Shelf.RegionOpen
import Derived.OwnWalkIn
import Derived.TacticsInMore
import Derived.LoopNIn
import Derived.LoopIn
namespace Go.Proofs.Ytdjmhagclcfnfaa
open Go.RowKit Go.Shelf

attribute [local go_sem] Oper.semAt_some

set_option maxHeartbeats 1000000 in
/-- slices.Values(s): the slice value is boxed; the function value captures the box. -/
theorem values_any (a : Option Addr) (len cap : Nat) (w : World) :
    Calls Try.prog 61 #[.slice a len cap] w fun e w' => e = .returned (.func (.func 93) #[] #[.pointer (some ⟨w.heap.size, 0, none⟩)]) ∧ w' = w.alloc (.cells #[.slice a len cap] 22) := by
  have hmf : ∀ (fn : Fn) (first cap : Array Value) (w : World), (Instr.makeFunc fn first cap).run Try.prog w = .ok (.func fn first cap) w := fun _ _ _ _ => rfl
  go_enter Try.func61, Try.ntmps61
  go_wp2
  go_ret
  exact ⟨rfl, rfl⟩

set_option maxRecDepth 100000 in
set_option maxHeartbeats 1000000 in
/-- The closure: for every loop body that keeps the slice's block and its box. -/
theorem values1_in (n : Nat) (hn : 1 ≤ n) (l Bs b off cap : Nat) (rs : List Rc) (hreach : rs.length ≤ 4611686018427387904) (K : Nat → Prop) (hKb : K b) (J Jx : List Rc → World → Prop)
    (W : World) (hJ : OwnIt none W.heap.size J)
    (hY : ∀ pre x W, J pre W → pre ++ [x] <+: rs → YieldAt Fence.wide (n - 1) Try.prog l #[.agg #[.bool x.free, .int .i64 x.block, .string x.data]] W fun e W' =>
      (e = .returned (.bool true) ∧ J (pre ++ [x]) W' ∧ KeptOn K W W') ∨ (e = .returned (.bool false) ∧ Jx (pre ++ [x]) W'))
    (hKW : ∀ k, K k → k < W.heap.size)
    (hBs : W.cell? ⟨Bs, 0, none⟩ = some (.slice (some ⟨b, off, none⟩) rs.length cap))
    (hc : ∀ j (h : j < rs.length), W.cell? ⟨b, off + j * 3, none⟩ = some (.bool rs[j].free) ∧ W.cell? ⟨b, off + j * 3 + 1, none⟩ = some (.int .i64 rs[j].block) ∧ W.cell? ⟨b, off + j * 3 + 2, none⟩ = some (.string rs[j].data))
    (h0 : J [] W) :
    CallsIn Fence.wide n Try.prog 93 #[.func (.yield l) #[] #[], .pointer (some ⟨Bs, 0, none⟩)] W fun e W' =>
      (∃ v, e = .returned v ∧ (J rs W' ∨ (∃ pre, pre <+: rs ∧ Jx pre W'))) := by
  refine callsIn_of_wp Try.func93 rfl trivial ?_ rfl
  simp only [Try.ntmps93, List.size_toArray, List.length_cons, List.length_nil, Nat.reduceAdd, Nat.reduceSub, Array.replicate_succ, Array.replicate_zero, List.push_toArray, List.append_toArray, List.nil_append, List.cons_append]
  gi_wp2
  gi_loopw [7] (fun i wr => ∃ k : Nat, k ≤ rs.length ∧ i = .int .i64 k ∧ J (rs.take k) wr ∧ KeptOn K W wr)
    (fun i _ => rs.length - (intOf i).toNat)
  case atStart => exact ⟨0, Nat.zero_le _, rfl, h0, KeptOn.refl _ _⟩
  case round =>
    obtain ⟨k, hk, rfl, hJs, hkp⟩ := hrel
    by_cases hlt : k < rs.length
    · obtain ⟨q0, q1, q2⟩ := hc k hlt
      replace q0 := (hkp.cell hKb).trans q0
      replace q1 := (hkp.cell hKb).trans q1
      replace q2 := (hkp.cell hKb).trans q2
      have hbw : b < wr.heap.size := hkp.lt hKW b hKb
      have hts : rs.take (k + 1) = rs.take k ++ [rs[k]] := List.take_succ_eq_append_getElem hlt
      have hpre : rs.take k ++ [rs[k]] <+: rs := by rw [← hts]; exact List.take_prefix _ _
      have HT : Hid _ := hts
      clear hts hc
      obtain ⟨fn, tmps, assign, body, hy, hR⟩ := hY (rs.take k) rs[k] (wr.alloc (.cells #[.bool rs[k].free, .int .i64 rs[k].block, .string rs[k].data] 34)) (hJ.alloc _ hJs) hpre
      generalize hr : rs[k] = r at *
      have hbf : rs.length ≤ 9223372036854775807 := by omega
      gi_wp2
      refine hR.mono ?_
      rintro e W3 (⟨rfl, hJ3, hk3⟩ | ⟨rfl, hJx3⟩)
      · gi_wp2
        go_roundw
        case rel =>
          exact ⟨k + 1, by omega, by simp, by rw [HT.out]; exact hJ3, (hkp.alloc (hkp.lt hKW) _).trans hk3⟩
        case measure => simp [intOf]; omega
      · gi_wp2
        refine bodyPost_ret (results_none rfl _ _ _) rfl ?_
        exact ⟨_, rfl, .inr ⟨_, hpre, hJx3⟩⟩
    · obtain rfl : k = rs.length := by omega
      rw [List.take_length] at hJs
      gi_wp2
      go_end0
      exact ⟨_, rfl, .inl hJs⟩

set_option maxRecDepth 100000 in
set_option maxHeartbeats 1000000 in
/-- .. at the nil slice: no round. -/
theorem values1_nil (n : Nat) (l Bs : Nat) (a : Option Addr) (cap : Nat) (J : List Rc → World → Prop) (W : World) (hBs : W.cell? ⟨Bs, 0, none⟩ = some (.slice a 0 cap)) (h0 : J [] W) :
    CallsIn Fence.wide n Try.prog 93 #[.func (.yield l) #[] #[], .pointer (some ⟨Bs, 0, none⟩)] W fun e W' => (∃ v, e = .returned v ∧ J [] W') := by
  refine callsIn_of_wp Try.func93 rfl trivial ?_ rfl
  simp only [Try.ntmps93, List.size_toArray, List.length_cons, List.length_nil, Nat.reduceAdd, Nat.reduceSub, Array.replicate_succ, Array.replicate_zero, List.push_toArray, List.append_toArray, List.nil_append, List.cons_append]
  gi_wp2
  gi_loopw [7] (fun i wr => i = .int .i64 0 ∧ J [] wr) (fun _ _ => 0)
  case atStart => exact ⟨rfl, h0⟩
  case round =>
    obtain ⟨rfl, hJs⟩ := hrel
    gi_wp2
    go_end0
    exact ⟨_, rfl, hJs⟩

/-- A record, as yield is handed it. -/
abbrev encRc (r : Rc) : Array Value := #[.agg #[.bool r.free, .int .i64 r.block, .string r.data]]

/-- **slices.Values over records has its contract.** K: the blocks that the loop's body must keep: the box, the slice's own. -/
theorem values_seq (n : Nat) (hn : 1 ≤ n) (Bs : Nat) (sv : Value) (rs : List Rc) (hreach : rs.length ≤ 4611686018427387904) (w : World) (hBs : Bs < w.heap.size) (hc : w.cell? ⟨Bs, 0, none⟩ = some sv) (hR : Recs w.heap.size w sv rs)
    (K : Nat → Prop) (hKW : ∀ k, K k → k < w.heap.size) (hKb : rs ≠ [] → ∀ b off l cap, sv = .slice (some ⟨b, off, none⟩) l cap → K b) :
    SeqC Fence.wide n Try.prog 93 #[.pointer (some ⟨Bs, 0, none⟩)] encRc K none (fun pre x => pre ++ [x] <+: rs) (fun ys => ys = rs) (fun pre => pre <+: rs) (fun _ _ => False) w := by
  intro l J Jx W hW hJ hJx hY h0
  have hc' := (hW.cell (p := ⟨Bs, 0, none⟩) hBs).trans hc
  rcases hR.moved hW with ⟨rfl, a, cap, rfl⟩ | ⟨b, off, cap, rfl, hb, hcs⟩
  · refine (values1_nil n l Bs a cap J W hc' h0).mono ?_
    rintro e W' ⟨v, rfl, hj⟩
    exact .inl ⟨v, rfl, .inl ⟨_, rfl, hj⟩⟩
  · by_cases hne : rs = []
    · subst hne
      refine (values1_nil n l Bs _ cap J W hc' h0).mono ?_
      rintro e W' ⟨v, rfl, hj⟩
      exact .inl ⟨v, rfl, .inl ⟨_, rfl, hj⟩⟩
    refine (values1_in n hn l Bs b off cap rs hreach K (hKb hne _ _ _ _ rfl) J Jx W hJ hY (fun k hk => Nat.lt_of_lt_of_le (hKW k hk) hW.size) hc' hcs h0).mono ?_
    rintro e W' ⟨v, rfl, hj | ⟨pre, hp, hj⟩⟩
    · exact .inl ⟨v, rfl, .inl ⟨_, rfl, hj⟩⟩
    · exact .inl ⟨v, rfl, .inr ⟨_, hp, hj⟩⟩
end Go.Proofs.Ytdjmhagclcfnfaa
