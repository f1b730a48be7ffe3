/- strandkeep's sameStream of any two streams with one head. -/
import Derived.Test.YtkmeingnhaomaaaKSame
import Derived.Test.YtkmeingnhaomaaaRParse2
namespace Go.Proofs.Ytkmeingnhaomaaa
open Go.RowKit Go.Shelf

theorem take_next {l m : List Rc} {k : Nat} (h : k < l.length) (h' : k < m.length) (e : l.take k = m.take k) (hx : l[k] = m[k]) : l.take (k + 1) = m.take (k + 1) := by
  rw [List.take_succ_eq_append_getElem h, List.take_succ_eq_append_getElem h', e, hx]
theorem rc_ext {r s : Rc} (h0 : r.free = s.free) (h1 : r.block = s.block) (h2 : r.data = s.data) : r = s := by
  cases r; cases s; simp_all

set_option maxRecDepth 100000 in
set_option maxHeartbeats 2000000 in
theorem ksame_any (f t b z : Int) (sv sv' : Value) (rs rs' : List Rc) (w : World) (hR : Recs w.heap.size w sv rs) (hR' : Recs w.heap.size w sv' rs') (_hlen : rs.length ≤ 1000000) (_hlen' : rs'.length ≤ 1000000) :
    Calls Try.prog 43 #[.agg #[.int .i64 f, .int .i64 t, .int .i64 b, .int .i64 z, sv], .agg #[.int .i64 f, .int .i64 t, .int .i64 b, .int .i64 z, sv']] w fun e w' => ∃ o : Bool, e = .returned (.bool o) ∧ (o = true ↔ rs = rs') ∧ w.grownBy w' none := by
  obtain ⟨a, c, rfl⟩ := hR.slice
  obtain ⟨a', c', rfl⟩ := hR'.slice
  go_enter Try.func43, Try.ntmps43
  by_cases hl : rs.length = rs'.length
  · have hR0 : ∃ n, n = rs.length ∧ n = rs'.length := ⟨_, rfl, hl⟩
    obtain ⟨n0, e1, e2⟩ := hR0
    rw [← e1] at hR _hlen
    rw [← e2] at hR'
    rw [← e1, ← e2]
    have hl1 : rs.length = n0 := e1.symm
    have hl2 : rs'.length = n0 := e2.symm
    clear e1 e2 hl
    go_wp2
    obtain ⟨h1, h2, hB⟩ := two_boxes w #[.int .i64 f, .int .i64 t, .int .i64 b, .int .i64 z, .slice a n0 c] #[.int .i64 f, .int .i64 t, .int .i64 b, .int .i64 z, .slice a' n0 c'] 24
    replace hR := hR.moved hB
    replace hR' := hR'.moved hB
    generalize (w.alloc (.cells #[.int .i64 f, .int .i64 t, .int .i64 b, .int .i64 z, .slice a n0 c] 24)).alloc (.cells #[.int .i64 f, .int .i64 t, .int .i64 b, .int .i64 z, .slice a' n0 c'] 24) = W0 at *
    obtain ⟨x0, x1, x2, x3, x4, -⟩ := box5 h1
    obtain ⟨y0, y1, y2, y3, y4, -⟩ := box5 h2
    have HB : Hid _ := hB
    have HR : Hid _ := hR
    have HR' : Hid _ := hR'
    clear h1 h2 hB hR hR'
    go_loopw [5] (fun i wr => ∃ k : Nat, k ≤ n0 ∧ i = .int .i64 k ∧ rs.take k = rs'.take k ∧ ∃ n, wr = W0.drewN n) (fun i _ => n0 - (intOf i).toNat)
    case atStart => exact ⟨0, Nat.zero_le _, rfl, by simp, 0, rfl⟩
    case round =>
      obtain ⟨k, hk, rfl, htk, n, rfl⟩ := hrel
      by_cases hlt : k < n0
      · obtain ⟨b1, off, ha, hb, q0, q1, q2⟩ := Recs.at HR.out (show k < rs.length by omega)
        obtain ⟨b', off', ha', hb', q0', q1', q2'⟩ := Recs.at HR'.out (show k < rs'.length by omega)
        subst ha
        subst ha'
        have HNX : Hid (rs[k] = rs'[k] → rs.take (k + 1) = rs'.take (k + 1)) := fun e => take_next (by omega) (by omega) htk e
        have HNE : Hid (rs[k] ≠ rs'[k] → rs ≠ rs') := fun e h => e (by simp only [h])
        clear htk
        generalize rs[k] = r at *
        generalize rs'[k] = r' at *
        by_cases hrr : r = r'
        · have HNX2 : Hid (rs.take (k + 1) = rs'.take (k + 1)) := HNX.out hrr
          clear HNX HNE
          subst hrr
          go_wp2
          go_quiet (fail)
          go_wp2
          go_roundw
          case rel => exact ⟨k + 1, by omega, by go_num, HNX2.out, _, rfl⟩
          case measure => simp [intOf]; omega
        · have HNE2 : Hid (rs ≠ rs') := HNE.out hrr
          clear HNX HNE
          obtain ⟨f1, p1, d1⟩ := r
          obtain ⟨f2, p2, d2⟩ := r'
          simp only at *
          by_cases h0 : f1 = f2
          · subst h0
            by_cases h1 : p1 = p2
            · subst h1
              have h2 : d1 ≠ d2 := fun e => hrr (by rw [e])
              have e3 : (d1.toList == d2.toList) = false := by
                rw [beq_eq_false_iff_ne]
                intro e
                rw [ByteArray.toList_eq, ByteArray.toList_eq] at e
                exact h2 (ByteArray.ext (Array.toList_inj.1 e))
              clear h2 hrr
              go_wp2
              go_quiet (fail)
              go_wp2
              go_ret
              exact ⟨false, rfl, ⟨(fun h => by cases h), fun h => absurd h HNE2.out⟩, gdrewR (gdrewR (gbelow HB.out) n) _⟩
            · have e1 : (p1 == p2) = false := by simp [h1]
              clear hrr
              go_wp2
              go_quiet (fail)
              go_wp2
              go_ret
              exact ⟨false, rfl, ⟨(fun h => by cases h), fun h => absurd h HNE2.out⟩, gdrewR (gdrewR (gbelow HB.out) n) _⟩
          · clear hrr
            have e0 : (f1 == f2) = false := by simp [h0]
            go_wp2
            go_quiet (fail)
            go_wp2
            go_ret
            exact ⟨false, rfl, ⟨(fun h => by cases h), fun h => absurd h HNE2.out⟩, gdrewR (gdrewR (gbelow HB.out) n) _⟩
      · go_wp2
        go_ret
        refine ⟨true, rfl, ⟨fun _ => ?_, fun _ => rfl⟩, gdrewR (gbelow HB.out) n⟩
        rw [List.take_of_length_le (by omega), List.take_of_length_le (by omega)] at htk
        exact htk
  · have hne : ((rs.length : Int) != (rs'.length : Int)) = true := by simp; omega
    go_wp2
    go_ret
    refine ⟨false, rfl, ⟨(fun h => by cases h), fun h => absurd (congrArg List.length h) hl⟩, ?_⟩
    exact gallocR (galloc _ _ _) _
end Go.Proofs.Ytkmeingnhaomaaa
