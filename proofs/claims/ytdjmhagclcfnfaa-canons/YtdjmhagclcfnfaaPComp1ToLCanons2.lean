/- PComp1, PComp2, PLatest, PLatest2, PCanon2, PCanon, LCanons, LCanons2 -/
import Derived.Test.YtdjmhagclcfnfaaPUnsortToStabN
import Derived.Lib.SliceRun
import Derived.Test.YtdjmhagclcfnfaaPStab3ToPStab7
import Derived.Test.YtdjmhagclcfnfaaTxRCanon
import Derived.Test.YtdjmhagclcfnfaaLExact
import Derived.Shelf.SlicesQ.Reverse
import Derived.Test.YtdjmhagclcfnfaaPFace
import Derived.Test.YtdjmhagclcfnfaaPWrite2
import Derived.OpenShut
import Derived.ShutString
/- A row of records into which one is stored, or zeros from a place on; of neighbours alike the first, step by step. -/
namespace Go.Proofs.Ytdjmhagclcfnfaa
open Go.Shelf Go.RowKit Go.Lib Go.Sort
section
variable {α : Type} [Inhabited α]
theorem setMany_one (enc : α → List Value) (k : Nat) (hk : ∀ x, (enc x).length = k) (d : Array α) (i : Nat) (x : α) : setMany (flatK enc k d) (i * k) (enc x) = flatK enc k (d.setIfInBounds i x) := by
  refine ext_get! (by simp) fun t ht => ?_
  have ht' : t < d.size * k := by simpa using ht
  have k0 : 0 < k := by
    rcases Nat.eq_zero_or_pos k with h | h
    · subst h; simp at ht'
    · exact h
  rw [get_setMany _ _ _ t (by simpa using ht'), get_flatK _ _ _ t ht', get_flatK _ _ _ t (by simpa using ht'), hk]
  have m : ∀ q, t / k = q → t - q * k = t % k := fun q h => by subst h; rw [Nat.mod_eq_sub_div_mul]
  have htk : t / k < d.size := Nat.div_lt_of_lt_mul (by rwa [Nat.mul_comm] at ht')
  rw [getElem!_pos (d.setIfInBounds i x) (t / k) (by simpa using htk), Array.getElem_setIfInBounds (by simpa using htk), getElem!_pos d (t / k) htk]
  by_cases a : t / k = i
  · rw [if_pos ((blk_iff k i t k0).2 a), m i a, if_pos a.symm]
  · rw [if_neg (fun h => a ((blk_iff k i t k0).1 h)), if_neg (fun h => a h.symm)]
theorem size_zero (z : Array Value) (n : Nat) : (Builtin.zeroCells z n).size = n * z.size := by simp [Builtin.zeroCells]
theorem setMany_tail (enc : α → List Value) (k : Nat) (hk : ∀ x, (enc x).length = k) (D : List α) (i : Nat) (x : α) (hi : i ≤ D.length) : setMany (flatK enc k D.toArray) (i * k) (Builtin.zeroCells (enc x).toArray (D.length - i)).toList = flatK enc k (D.take i ++ List.replicate (D.length - i) x).toArray := by
  have hl : (D.take i ++ List.replicate (D.length - i) x).length = D.length := by rw [List.length_append, List.length_take, List.length_replicate]; omega
  refine ext_get! (by rw [size_setMany, size_flatK, size_flatK, List.size_toArray, List.size_toArray, hl]) fun t ht => ?_
  have ht' : t < D.length * k := by simpa using ht
  have k0 : 0 < k := by
    rcases Nat.eq_zero_or_pos k with h | h
    · subst h; simp at ht'
    · exact h
  have htk : t / k < D.length := Nat.div_lt_of_lt_mul (by rwa [Nat.mul_comm] at ht')
  have hz : (Builtin.zeroCells (enc x).toArray (D.length - i)).toList.length = (D.length - i) * k := by rw [Array.length_toList, size_zero, List.size_toArray, hk]
  rw [get_setMany _ _ _ t (by simpa using ht'), get_flatK _ _ _ t (by simpa using ht'), get_flatK _ _ _ t (by rw [List.size_toArray, hl]; exact ht'), hz]
  rw [getElem!_pos (D.take i ++ List.replicate (D.length - i) x).toArray (t / k) (by rw [List.size_toArray, hl]; exact htk), getElem!_pos D.toArray (t / k) (by simpa using htk), List.getElem_toArray, List.getElem_toArray]
  have hend : i * k + (D.length - i) * k = D.length * k := by rw [← Nat.add_mul, Nat.add_sub_cancel' hi]
  by_cases a : i ≤ t / k
  · have h1 : i * k ≤ t := (Nat.le_div_iff_mul_le k0).1 a
    rw [if_pos ⟨h1, by omega⟩, List.getElem_append_right (by rw [List.length_take]; omega), List.getElem_replicate]
    have h2 : t - i * k < (D.length - i) * k := by omega
    have h3 : (t - i * k) % k = t % k := by
      have e : t = t - i * k + i * k := by omega
      conv => rhs; rw [e, Nat.add_mul_mod_self_right]
    rw [getElem!_pos _ (t - i * k) (by rw [hz]; exact h2), Array.getElem_toList]
    simp only [Builtin.zeroCells, Array.getElem_map, Array.getElem_range, List.size_toArray, hk, h3]
    rw [List.getElem!_toArray]
  · have h1 : ¬ i * k ≤ t := fun h => a ((Nat.le_div_iff_mul_le k0).2 h)
    rw [if_neg (fun h => h1 h.1), List.getElem_append_left (by rw [List.length_take]; omega), List.getElem_take]
theorem setCells_world {enc : α → List Value} {k : Nat} {w0 W : World} {blk : Nat} {D D' : Array α} (h : SWK enc k w0 blk 0 D W) (hblk : blk < w0.heap.size) (s : Nat) (vs : List Value) (hs : s + vs.length ≤ D.size * k) (e : setMany (flatK enc k D) s vs = flatK enc k D') : SWK enc k w0 blk 0 D' (W.setCells blk s vs) := by
  obtain ⟨n, os, rfl⟩ := h
  refine ⟨n, os, ?_⟩
  unfold sortWorldK
  rw [setCells_grow os blk _ _ _ (by rw [size_putRowK]; exact hblk)]
  congr 1
  unfold putRowK
  have := setCells_putRow (Sort.ahead w0 n) blk 0 vs s (flatK enc k D) (by rw [size_flatK]; exact hs)
  rw [Nat.zero_add] at this
  rw [this, e]
theorem SWK.put {enc : α → List Value} {k : Nat} {w0 W : World} {blk : Nat} {D : List α} (h : SWK enc k w0 blk 0 D.toArray W) (hk : ∀ x, (enc x).length = k) (hblk : blk < w0.heap.size) (i : Nat) (x : α) (hi : i < D.length) : SWK enc k w0 blk 0 (D.set i x).toArray (W.setCells blk (i * k) (enc x)) := by
  refine setCells_world h hblk _ _ ?_ ?_
  · rw [hk, List.size_toArray]
    have := Nat.mul_le_mul_right k (show i + 1 ≤ D.length from hi)
    rwa [Nat.add_mul, Nat.one_mul] at this
  · rw [setMany_one enc k hk _ i x, List.setIfInBounds_toArray]
theorem SWK.zero {enc : α → List Value} {k : Nat} {w0 W : World} {blk : Nat} {D : List α} (h : SWK enc k w0 blk 0 D.toArray W) (hk : ∀ x, (enc x).length = k) (hblk : blk < w0.heap.size) (i : Nat) (x : α) (hi : i ≤ D.length) : SWK enc k w0 blk 0 (D.take i ++ List.replicate (D.length - i) x).toArray (W.setCells blk (i * k) (Builtin.zeroCells (enc x).toArray (D.length - i)).toList) := by
  refine setCells_world h hblk _ _ ?_ (setMany_tail enc k hk D i x hi)
  rw [Array.length_toList, size_zero, List.size_toArray, hk, List.size_toArray, ← Nat.add_mul, Nat.add_sub_cancel' hi]
  exact Nat.le_refl _
end

/-- Of neighbours alike the first: where the library stands. -/
structure CInv (key : Tg → Int) (zs : List Tg) (j kk : Nat) (D : List Tg) : Prop where
  len : D.length = zs.length
  pos : 1 ≤ j ∧ j ≤ zs.length
  low : D.take kk = dedupK key (zs.take j)
  lenk : (dedupK key (zs.take j)).length = kk
  high : D.drop (j - 1) = zs.drop (j - 1)
  lt : kk ≤ j - 1
theorem CInv.at {key : Tg → Int} {zs D : List Tg} {j kk : Nat} (h : CInv key zs j kk D) (i : Nat) (h1 : j - 1 ≤ i) (h2 : i < zs.length) : D[i]? = some zs[i] := by
  have h3 := congrArg (fun l => l[i - (j - 1)]?) h.high
  simp only [List.getElem?_drop] at h3
  rw [show j - 1 + (i - (j - 1)) = i from by omega] at h3
  rw [h3, List.getElem?_eq_getElem h2]
theorem drop_next {D zs : List Tg} {j : Nat} (h : D.drop (j - 1) = zs.drop (j - 1)) (hj : 1 ≤ j) : D.drop j = zs.drop j := by
  have h3 := congrArg (List.drop 1) h
  rw [List.drop_drop, List.drop_drop, show j - 1 + 1 = j from by omega] at h3
  exact h3
theorem dedup_next (key : Tg → Int) (zs : List Tg) (j : Nat) (hj : 1 ≤ j) (h : j < zs.length) : dedupK key (zs.take (j + 1)) = dedupK key (zs.take j) ++ (if key zs[j] = key zs[j - 1] then [] else [zs[j]]) := by
  obtain ⟨i, rfl⟩ : ∃ i, j = i + 1 := ⟨j - 1, by omega⟩
  exact dedupK_take key zs i h
theorem CInv.skip {key : Tg → Int} {zs D : List Tg} {j kk : Nat} (h : CInv key zs j kk D) (hj : j < zs.length) (e : key zs[j] = key zs[j - 1]) : CInv key zs (j + 1) kk D := by
  have hd := dedup_next key zs j h.pos.1 hj
  rw [if_pos e, List.append_nil] at hd
  exact ⟨h.len, ⟨by omega, by omega⟩, by rw [hd]; exact h.low, by rw [hd]; exact h.lenk, by rw [show j + 1 - 1 = j from by omega]; exact drop_next h.high h.pos.1, by have := h.lt; omega⟩
theorem CInv.keep {key : Tg → Int} {zs D : List Tg} {j kk : Nat} (h : CInv key zs j kk D) (hj : j < zs.length) (e : ¬ key zs[j] = key zs[j - 1]) : CInv key zs (j + 1) (kk + 1) (D.set kk zs[j]) := by
  have hd := dedup_next key zs j h.pos.1 hj
  rw [if_neg e] at hd
  have hl := h.len
  have hk := h.lt
  have hp := h.pos.1
  refine ⟨by rw [List.length_set]; exact h.len, ⟨by omega, by omega⟩, ?_, by rw [hd, List.length_append, h.lenk]; rfl, ?_, by omega⟩
  · rw [hd, ← h.low, List.take_succ_eq_append_getElem (by rw [List.length_set]; omega), List.getElem_set_self, List.take_set_of_le (Nat.le_refl _)]
  · rw [show j + 1 - 1 = j from by omega, List.drop_set_of_lt (by omega)]
    exact drop_next h.high h.pos.1
/-- .. where the first two alike are met. -/
theorem CInv.start {key : Tg → Int} {zs : List Tg} {k : Nat} (h1 : 1 ≤ k) (h2 : k < zs.length) (hd : dedupK key (zs.take k) = zs.take k) (e : key zs[k] = key zs[k - 1]) : CInv key zs (k + 1) k zs := by
  have hn := dedup_next key zs k h1 h2
  rw [if_pos e, List.append_nil, hd] at hn
  exact ⟨rfl, ⟨by omega, by omega⟩, hn.symm, by rw [hn, List.length_take]; omega, rfl, by omega⟩
theorem dedup_whole {key : Tg → Int} {zs : List Tg} {k : Nat} (h1 : 1 ≤ k) (h2 : k < zs.length) (hd : dedupK key (zs.take k) = zs.take k) (e : ¬ key zs[k] = key zs[k - 1]) : dedupK key (zs.take (k + 1)) = zs.take (k + 1) := by
  rw [dedup_next key zs k h1 h2, if_neg e, hd, List.take_succ_eq_append_getElem h2]
theorem dedup_one {key : Tg → Int} (zs : List Tg) : dedupK key (zs.take 1) = zs.take 1 := by
  rcases zs with _ | ⟨x, zs⟩ <;> rfl
end Go.Proofs.Ytdjmhagclcfnfaa
/- The library's CompactFunc, at records. -/
namespace Go.Proofs.Ytdjmhagclcfnfaa
open Go.Shelf Go.RowKit Go.Lib Go.Sort

def tgZ : Tg := (⟨false, 0, ⟨#[]⟩⟩, 0)
def tgK (x : Tg) : Int := x.1.block
theorem clear_tail {P : Program} {k : Nat} (tS : P.underlying 22 = some (TypeDesc.slice 34)) (vE : ∀ w, (zeroValue 34).run P w = .ok (.agg (tgE tgZ).toArray) w) {w0 W : World} {g : Nat} {d0 : Array Tg} {D : List Tg} (R : RowK tgE k w0 g 0 d0) (S : SWK tgE k w0 g 0 D.toArray W) (hs : D.length = d0.size) (i : Nat) (hi : i < D.length) (c : Nat) (ty : TypeId) :
    (Builtin.clear_ #[22] ty #[.slice (some ⟨g, i * k, none⟩) (D.length - i) c]).run P W = .ok (.tuple #[]) (W.setCells g (i * k) (Builtin.zeroCells (tgE tgZ).toArray (D.length - i)).toList) := by
  have hH : HoldsK tgE k W g 0 D.toArray := S.holds R.hblk R.hH (by simpa using hs)
  have hst := stores_of_holds P hH (i * k) (Builtin.zeroCells (tgE tgZ).toArray (D.length - i)).toList (by rw [Array.length_toList, size_zero, List.size_toArray, R.hk, size_flatK, List.size_toArray, ← Nat.add_mul, Nat.add_sub_cancel' (Nat.le_of_lt hi)]; exact Nat.le_refl _) (fun v hv => by
    simp only [Builtin.zeroCells, Array.toList_map, List.mem_map] at hv
    obtain ⟨j, -, rfl⟩ := hv
    have h3 : j % (tgE tgZ).toArray.size < (tgE tgZ).toArray.size := Nat.mod_lt _ (by decide)
    rw [getElem!_pos (tgE tgZ).toArray _ h3]
    exact R.h1 tgZ _ (by simp [List.getElem_mem]))
  rw [Nat.zero_add] at hst
  obtain ⟨m, hm⟩ : ∃ m, D.length - i = m + 1 := ⟨D.length - i - 1, by omega⟩
  rw [hm] at hst ⊢
  simp [Builtin.clear_, run_underlying tS, vE, hst, Value.cells]

/-- What is left of a row: of neighbours alike the first. -/
def CompOut (k g cap : Nat) (zs : List Tg) (d0 : Array Tg) (w0 : World) (e : Ending) (w' : World) : Prop :=
  ∃ (n : Nat) (D : List Tg), e = .returned (.slice (some ⟨g, 0, none⟩) n cap) ∧ D.length = d0.size ∧ n ≤ D.length ∧ D.take n = dedupK tgK zs ∧ SWK tgE k w0 g 0 D.toArray w'

set_option maxHeartbeats 4000000 in
set_option maxRecDepth 1000000 in
theorem compact_any {P : Program} {k : Nat} (L : StabL P k) (fC : P.funcs[137]? = some Try.f137) (vE : ∀ w, (zeroValue 34).run P w = .ok (.agg (tgE tgZ).toArray) w)
    (g cap ef : Nat) (zs : List Tg) (d0 : Array Tg) (w0 W : World) (R : RowK tgE k w0 g 0 d0) (eg : ∀ args w, (callFunc ef args).run P w = .ok (.enter ef args) w)
    (hE : ∀ (x y : Tg) (W : World), Calls P ef (#[.agg (tgE x).toArray, .agg (tgE y).toArray] ++ #[]) W fun e w' => e = .returned (.bool (decide (tgK x = tgK y))) ∧ ∃ q os', w' = grow (W.drewN q) os')
    (hs : zs.length = d0.size) (hcap : d0.size ≤ cap) (hsz : d0.size ≤ 400) (S : SWK tgE k w0 g 0 zs.toArray W) :
    Calls P 137 #[.slice (some ⟨g, 0, none⟩) d0.size cap, .func (.func ef) #[] #[]] W (CompOut k g cap zs d0 w0) := by
  have S0 : Aside (SWK tgE k w0 g 0 zs.toArray W) := S
  have HE : Aside _ := hE
  have HL : Hid (zs.length = d0.size) := hs
  have HLA : Hid (zs.toArray.size = d0.size) := by show _ = _; simpa using hs
  have HG : Hid (∀ i (h : i < zs.length), zs.toArray[i]! = zs[i]) := fun i h => getB (List.getElem?_eq_getElem h)
  have HCL : Hid (∀ (D : List Tg) (W : World), SWK tgE k w0 g 0 D.toArray W → D.length = d0.size → ∀ i, i < D.length → ∀ c ty, _) := fun D W S hs i hi c ty => clear_tail (W := W) L.tS vE R S hs i hi c ty
  have mixed := L.mixed; have t3 := L.t3; have a3 := L.a3; have z3 := L.z3; have v3 := L.v3; have t4 := L.t4; have a4 := L.a4; have z4 := L.z4; have v4 := L.v4; have tS := L.tS; have aS := L.aS; have zS := L.zS; have vS := L.vS; have aE := L.aE; have zE := L.zE
  clear S hE hs
  by_cases h2 : d0.size < 2
  · have hz2 : (d0.size : Int) < 2 := by omega
    go_enter fC, Try.ntmps137
    go_wp2
    go_ret
    refine ⟨d0.size, zs, rfl, HL.out, by rw [HL.out]; exact Nat.le_refl _, ?_, S0.out⟩
    have h := dedup_one (key := tgK) zs
    have hl := HL.out
    rw [List.take_of_length_le (by omega)] at h
    rw [List.take_of_length_le (by omega), h]
  · have hz2 : ¬ (d0.size : Int) < 2 := by omega
    go_enter fC, Try.ntmps137
    go_wp2
    go_loopg [5] d0.size (fun kx s5 wr => ∃ i : Nat, s5 = .int .i64 i ∧ 1 ≤ i ∧ i ≤ d0.size ∧ d0.size - i ≤ kx ∧ Hid (dedupK tgK (zs.take i) = zs.take i) ∧ Aside (SWK tgE k w0 g 0 zs.toArray wr))
    case atStart => exact ⟨1, rfl, Nat.le_refl _, by omega, by omega, dedup_one zs, S0⟩
    case round =>
      clear S0
      obtain ⟨i, rfl, hi1, hi2, hkx, HD, S1⟩ := hrel
      by_cases hlt : i < d0.size
      · have hltz : (i : Int) < (d0.size : Int) := by omega
        have hiz : i < zs.length := by rw [HL.out]; exact hlt
        obtain ⟨ip, hip⟩ : ∃ ip, i - 1 = ip := ⟨_, rfl⟩
        have hipz : (i : Int) - 1 = (ip : Int) := by omega
        have hiz1 : ip < zs.length := by omega
        have ea : (i : Int).toNat = i := by omega
        have pa : (0 : Int) ≤ (i : Int) := by omega
        have ra : IntKind.i64.wrap (i : Int) = (i : Int) := by rw [IntKind.wrap_i64]; omega
        have ec : (ip : Int).toNat = ip := by omega
        have pc : (0 : Int) ≤ (ip : Int) := by omega
        have bc : (ip : Int) < (d0.size : Int) := by omega
        have rc : IntKind.i64.wrap (ip : Int) = (ip : Int) := by rw [IntKind.wrap_i64]; omega
        have la := S1.out.ld R HLA.out P i (by rw [HLA.out]; omega)
        have lb := S1.out.ld R HLA.out P ip (by rw [HLA.out]; omega)
        rw [HG.out i hiz] at la
        rw [HG.out ip hiz1] at lb
        have hcm := fun n os => HE.out zs[i] zs[ip] (grow (wr.drewN n) os)
        have HST : Hid (tgK zs[i] = tgK zs[ip] → CInv tgK zs (i + 1) i zs) := fun e => CInv.start hi1 hiz HD.out (by simp only [hip]; exact e)
        have HGO : Hid (¬ tgK zs[i] = tgK zs[ip] → dedupK tgK (zs.take (i + 1)) = zs.take (i + 1)) := fun e => dedup_whole hi1 hiz HD.out (by simp only [hip]; exact e)
        generalize zs[i] = x at *
        generalize zs[ip] = y at *
        simp only [Nat.zero_add] at la lb
        clear HD hiz hiz1 hip
        by_cases hxy : tgK x = tgK y
        · have hd : decide (tgK x = tgK y) = true := decide_eq_true hxy
          have CI : Hid _ := HST.out hxy
          clear HST HGO
          go_wp2_with fail
          go_quiet_grown (first | (go_at_fn ef; refine Calls.grown_of (hcm _ _)))
          have S2 : Aside (SWK tgE k w0 g 0 zs.toArray (grow (wr.drewN nq) osq)) := S1.out.grown nq osq
          clear la lb hcm S1
          generalize grow (wr.drewN nq) osq = w2 at S2 ⊢
          clear nq osq
          go_wp2
          rw [hd]
          clear hxy hd hkx hipz ec pc bc rc ea pa ra
          go_loopg [5, 7] d0.size (fun kx s5 s7 wr => ∃ (kk k2 : Nat) (D : List Tg), s5 = .int .i64 kk ∧ s7 = .int .i64 k2 ∧ 1 ≤ k2 ∧ i + k2 ≤ d0.size ∧ d0.size - (i + k2) ≤ kx ∧ kk < i + k2 ∧ Hid (CInv tgK zs (i + k2) kk D) ∧ Aside (SWK tgE k w0 g 0 D.toArray wr))
          case atStart => exact ⟨i, 1, zs, rfl, rfl, Nat.le_refl _, by omega, by omega, by omega, CI, S2⟩
          case round =>
            clear S2 CI
            obtain ⟨kk, k2, D, rfl, rfl, hk1, hk2, hkx, hkk, CI, S1⟩ := hrel
            have HDL : Hid (D.toArray.size = d0.size) := by show _ = _; rw [List.size_toArray, CI.out.len]; exact HL.out
            by_cases hlt2 : k2 < d0.size - i
            · have hltz2 : (k2 : Int) < ((d0.size - i : Nat) : Int) := by omega
              have hjz : i + k2 < zs.length := by rw [HL.out]; omega
              obtain ⟨kp, hkp⟩ : ∃ kp, k2 - 1 = kp := ⟨_, rfl⟩
              have hkpz : (k2 : Int) - 1 = (kp : Int) := by omega
              have hjz1 : i + kp < zs.length := by omega
              have hjp : i + k2 - 1 = i + kp := by omega
              have ea : (k2 : Int).toNat = k2 := by omega
              have pa : (0 : Int) ≤ (k2 : Int) := by omega
              have ra : IntKind.i64.wrap (k2 : Int) = (k2 : Int) := by rw [IntKind.wrap_i64]; omega
              have ec : (kp : Int).toNat = kp := by omega
              have pc : (0 : Int) ≤ (kp : Int) := by omega
              have bc : (kp : Int) < ((d0.size - i : Nat) : Int) := by omega
              have rc : IntKind.i64.wrap (kp : Int) = (kp : Int) := by rw [IntKind.wrap_i64]; omega
              have ek : (kk : Int).toNat = kk := by omega
              have pk : (0 : Int) ≤ (kk : Int) := by omega
              have bk : (kk : Int) < (d0.size : Int) := by omega
              have rk : IntKind.i64.wrap (kk : Int) = (kk : Int) := by rw [IntKind.wrap_i64]; omega
              have HU : Hid (D.toArray[i + k2]! = zs[i + k2]) := getB (CI.out.at (i + k2) (by omega) hjz)
              have HV : Hid (D.toArray[i + kp]! = zs[i + kp]) := getB (CI.out.at (i + kp) (by omega) hjz1)
              have la := S1.out.ld R HDL.out P (i + k2) (by rw [HDL.out]; omega)
              have lb := S1.out.ld R HDL.out P (i + kp) (by rw [HDL.out]; omega)
              rw [HU.out] at la
              rw [HV.out] at lb
              have hcm := fun n os => HE.out zs[i + k2] zs[i + kp] (grow (wr.drewN n) os)
              have HSK : Hid (tgK zs[i + k2] = tgK zs[i + kp] → CInv tgK zs (i + k2 + 1) kk D) := fun e => CI.out.skip hjz (by simp only [hjp]; exact e)
              have HKE : Hid (¬ tgK zs[i + k2] = tgK zs[i + kp] → CInv tgK zs (i + k2 + 1) (kk + 1) (D.set kk zs[i + k2])) := fun e => CI.out.keep hjz (by simp only [hjp]; exact e)
              generalize zs[i + k2] = u at *
              generalize zs[i + kp] = v at *
              simp only [Nat.zero_add, Nat.add_mul] at la lb
              clear CI hjz hjz1 hkp hjp HV
              by_cases huv : tgK u = tgK v
              · have hd : decide (tgK u = tgK v) = true := decide_eq_true huv
                have CI2 : Hid _ := HSK.out huv
                clear HSK HKE HU
                go_wp2_with fail
                go_quiet_grown (first | (go_at_fn ef; refine Calls.grown_of (hcm _ _)))
                have S2 : Aside (SWK tgE k w0 g 0 D.toArray (grow (wr.drewN nq) osq)) := S1.out.grown nq osq
                clear la lb hcm S1
                generalize grow (wr.drewN nq) osq = w2 at S2 ⊢
                clear nq osq
                go_wp2
                go_roundg (d0.size - (i + (k2 + 1)))
                case measure => omega
                case rel => exact ⟨kk, k2 + 1, D, rfl, by go_num, by omega, by omega, Nat.le_refl _, by omega, CI2, S2⟩
              · have hd : decide (tgK u = tgK v) = false := decide_eq_false huv
                have CI2 : Hid _ := HKE.out huv
                clear HSK HKE
                go_wp2_with fail
                go_quiet_grown (first | (go_at_fn ef; refine Calls.grown_of (hcm _ _)))
                have S2 : Aside (SWK tgE k w0 g 0 D.toArray (grow (wr.drewN nq) osq)) := S1.out.grown nq osq
                clear la lb hcm S1
                generalize grow (wr.drewN nq) osq = w2 at S2 ⊢
                clear nq osq
                have l1 := S2.out.load R HDL.out P (i + k2) (by rw [HDL.out]; omega)
                rw [HU.out] at l1
                have s1 := stores_of_holds P (S2.out.holds R.hblk R.hH HDL.out) (kk * k) (tgE u) (by rw [R.hk, size_flatK]; exact rowK_bnd _ k kk (by rw [HDL.out]; omega)) (R.h1 _)
                have hdl : kk < D.length := by have := HDL.out; rw [List.size_toArray] at this; omega
                have S3 : Aside (SWK tgE k w0 g 0 (D.set kk u).toArray (w2.setCells g (kk * k) (tgE u))) := SWK.put S2.out R.hk R.hblk kk u hdl
                have nu : (tgE u).length = k := R.hk _
                simp only [Nat.zero_add, Nat.add_mul] at l1 s1
                generalize tgE u = cU at *
                clear S2 HU hdl hd huv
                go_wp2
                generalize w2.setCells g (kk * k) cU = w3 at S3 ⊢
                go_roundg (d0.size - (i + (k2 + 1)))
                case measure => omega
                case rel => exact ⟨kk + 1, k2 + 1, D.set kk u, by go_num, by go_num, by omega, by omega, Nat.le_refl _, by omega, CI2, S3⟩
            · have hltz2 : ¬ (k2 : Int) < ((d0.size - i : Nat) : Int) := by omega
              have hend : i + k2 = d0.size := by omega
              have hlt3 : kk < D.length := by have := HDL.out; rw [List.size_toArray] at this; omega
              have hlen : D.length = d0.size := by have := HDL.out; rwa [List.size_toArray] at this
              have hcl := HCL.out D wr S1.out hlen kk hlt3 (cap - kk)
              have S3 : Aside (SWK tgE k w0 g 0 (D.take kk ++ List.replicate (D.length - kk) tgZ).toArray (wr.setCells g (kk * k) (Builtin.zeroCells (tgE tgZ).toArray (D.length - kk)).toList)) := SWK.zero S1.out R.hk R.hblk kk tgZ (Nat.le_of_lt hlt3)
              rw [hlen] at hcl S3
              have HF : Hid ((D.take kk ++ List.replicate (d0.size - kk) tgZ).length = d0.size ∧ (D.take kk ++ List.replicate (d0.size - kk) tgZ).take kk = dedupK tgK zs) := by
                show _ ∧ _
                have h1 := CI.out.low
                rw [hend, List.take_of_length_le (show zs.length ≤ d0.size by rw [HL.out]; exact Nat.le_refl _)] at h1
                have h2 : (D.take kk).length = kk := by rw [List.length_take]; omega
                refine ⟨by rw [List.length_append, h2, List.length_replicate]; omega, ?_⟩
                rw [List.take_append_of_le_length (by omega), List.take_of_length_le (by omega), h1]
              have hkd : kk ≤ d0.size := by omega
              clear S1 CI HDL hlen hlt3 hend
              generalize D.take kk ++ List.replicate (d0.size - kk) tgZ = E at *
              generalize wr.setCells g (kk * k) (Builtin.zeroCells (tgE tgZ).toArray (d0.size - kk)).toList = w3 at *
              have bk : (kk : Int) ≤ (d0.size : Int) := by omega
              have bk2 : (kk : Int) ≤ (cap : Int) := by omega
              go_wp2
              go_ret
              exact ⟨kk, E, rfl, HF.out.1, by rw [HF.out.1]; exact hkd, HF.out.2, S3.out⟩
        · have hd : decide (tgK x = tgK y) = false := decide_eq_false hxy
          have HD2 : Hid _ := HGO.out hxy
          clear HST HGO
          go_wp2_with fail
          go_quiet_grown (first | (go_at_fn ef; refine Calls.grown_of (hcm _ _)))
          have S2 : Aside (SWK tgE k w0 g 0 zs.toArray (grow (wr.drewN nq) osq)) := S1.out.grown nq osq
          clear la lb hcm S1
          generalize grow (wr.drewN nq) osq = w2 at S2 ⊢
          clear nq osq
          go_wp2
          go_roundg (d0.size - (i + 1))
          case measure => omega
          case rel => exact ⟨i + 1, by go_num, by omega, by omega, Nat.le_refl _, HD2, S2⟩
      · have hltz : ¬ (i : Int) < (d0.size : Int) := by omega
        obtain rfl : i = d0.size := by omega
        go_wp2
        go_ret
        refine ⟨d0.size, zs, rfl, HL.out, by rw [HL.out]; exact Nat.le_refl _, ?_, S1.out⟩
        have h := HD.out
        have hl := HL.out
        rw [List.take_of_length_le (by omega)] at h
        rw [List.take_of_length_le (by omega), h]
end Go.Proofs.Ytdjmhagclcfnfaa
/- The program's latestOf: of each block the last record. -/
namespace Go.Proofs.Ytdjmhagclcfnfaa
open Go.Shelf Go.RowKit Go.Lib Go.Sort
def Try.revRec_ren : Go.Shelf.Ren := ⟨fun | 35 => 134 | n => n, fun | 22 => 22 | 23 => 34 | 3 => 3 | 4 => 4 | 0 => 0 | n => n, fun | n => n⟩
theorem Try.revRec : Go.Proofs.SlLaysE0.n35 Try.prog Try.revRec_ren := {
  mixed := by kernel_rfl
  f35 := ⟨Try.f134.name, by decide, Try.func134.trans (congrArg some (by kernel_rfl))⟩
  t0 := Try.underlying0
  a0 := Try.isAgg0
  z0 := Try.sizeOf0
  v0 := Try.zeroValue0
  t3 := Try.underlying3
  a3 := Try.isAgg3
  z3 := Try.sizeOf3
  v3 := Try.zeroValue3
  t4 := Try.underlying4
  a4 := Try.isAgg4
  z4 := Try.sizeOf4
  v4 := Try.zeroValue4
  t22 := Try.underlying22
  a22 := Try.isAgg22
  z22 := Try.sizeOf22
  v22 := Try.zeroValue22 }

theorem tg_at (xs : List Tg) (i : Nat) (h : i < xs.length * 3) : (flatK tgE 3 xs.toArray)[i]! = (tgE xs[i / 3]!)[i % 3]! := by
  rw [get_flatK _ _ _ i (by simpa using h), List.getElem!_toArray]
theorem tg_flat (xs : List Tg) : (flatK tgE 3 xs.toArray).toList = recVals (xs.map fun x => x.1) := by
  have hl : (recVals (xs.map fun x => x.1)).length = xs.length * 3 := by
    simp [recVals, List.length_flatMap, List.map_map]
    induction xs with
    | nil => rfl
    | cons x xs ih => simp [ih]; omega
  apply List.ext_getElem
  · rw [hl, Array.length_toList, size_flatK, List.size_toArray]
  intro i h1 h2
  have hi : i < xs.length * 3 := by rwa [hl] at h2
  have hd : i / 3 < xs.length := by omega
  have e1 : (flatK tgE 3 xs.toArray).toList[i] = (tgE xs[i / 3]!)[i % 3]! := by
    rw [← tg_at xs i hi, Array.getElem_toList, getElem!_pos]
  rw [e1, getElem!_pos xs (i / 3) hd]
  obtain ⟨q0, q1, q2⟩ := recVals_at (xs.map fun x => x.1) (i / 3) (by simpa using hd)
  rw [List.getElem_map] at q0 q1 q2
  have hc : i % 3 = 0 ∨ i % 3 = 1 ∨ i % 3 = 2 := by omega
  apply Option.some_inj.1
  rw [← List.getElem?_eq_getElem h2]
  rcases hc with hc | hc | hc
  · rw [show i / 3 * 3 = i from by omega] at q0
    rw [q0, hc]; rfl
  · rw [show i / 3 * 3 + 1 = i from by omega] at q1
    rw [q1, hc]; rfl
  · rw [show i / 3 * 3 + 2 = i from by omega] at q2
    rw [q2, hc]; rfl
theorem tg_hk : ∀ x, (tgE x).length = 3 := fun _ => rfl
theorem tg_h1 : ∀ x, ∀ v ∈ tgE x, v.oneCell' = true := fun x v hv => by
  simp [tgE] at hv
  rcases hv with rfl | rfl | rfl <;> rfl
theorem holds_tg {w : World} {g : Nat} {cur : Array Value} {e : TypeId} {xs : List Tg} (hb : w.heap[g]? = some (.cells cur e (0, 0))) (ht : cur.toList.take (xs.length * 3) = recVals (xs.map fun x => x.1)) : HoldsK tgE 3 w g 0 xs.toArray := by
  intro j hj
  have hj' : j < xs.length * 3 := by simpa using hj
  refine ⟨?_, by simp [World.frozen?, hb]⟩
  have h1 : (cur.toList.take (xs.length * 3))[j]? = (flatK tgE 3 xs.toArray).toList[j]? := by rw [ht, tg_flat]
  rw [List.getElem?_take_of_lt hj', Array.getElem?_toList, Array.getElem?_toList] at h1
  rw [Nat.zero_add]
  refine boxed_cell hb ?_
  rw [h1, getElem!_pos _ j hj, Array.getElem?_eq_getElem hj]
  rfl
theorem heap_tg {w : World} {g n : Nat} {os : Array Obj} {cur : Array Value} {e : TypeId} {fr : Nat × Nat} (d : Array Tg) (hb : w.heap[g]? = some (.cells cur e fr)) :
    (sortWorldK tgE 3 w g 0 n d os).heap[g]? = some (.cells (putCells id 0 (flatK tgE 3 d) cur) e fr) := by
  have hg : g < w.heap.size := (Array.getElem?_eq_some_iff.1 hb).1
  unfold sortWorldK putRowK
  rw [heap_grow_old _ _ (by simpa using hg)]
  simp [putRow, mapBlock, Sort.ahead, Array.getElem?_modify, hb, onCells]
theorem grown_tg {w : World} {g n : Nat} {os : Array Obj} (d : Array Tg) : w.grownBy (sortWorldK tgE 3 w g 0 n d os) (some g) := by
  refine ⟨rfl, rfl, rfl, by unfold sortWorldK putRowK; simp, fun k hk hne => ?_⟩
  unfold sortWorldK putRowK
  rw [heap_grow_old _ _ (by simpa using hk)]
  have : g ≠ k := fun e => hne (by rw [e])
  simp [putRow, mapBlock, Sort.ahead, Array.getElem?_modify, this]
theorem take_tg (cur F : Array Value) (k : Nat) (h : F.size ≤ cur.size) (hk : k ≤ F.size) : (putCells id 0 F cur).toList.take k = F.toList.take k := by
  apply List.ext_getElem?
  intro j
  by_cases hj : j < k
  · rw [List.getElem?_take_of_lt hj, List.getElem?_take_of_lt hj, Array.getElem?_toList, Array.getElem?_toList]
    simp [putCells, show j < F.size by omega, show j < cur.size by omega]
  · rw [List.getElem?_take_eq_none (by omega), List.getElem?_take_eq_none (by omega)]
/-- A row of the sort's, its first ones, as records that are owned. -/
theorem owns_tg {B : Nat} {w w' : World} {g cap n : Nat} {rs : List Rc} {D : List Tg} (h : OwnsR B w (.slice (some ⟨g, 0, none⟩) rs.length cap) rs) (S : SWK tgE 3 w g 0 D.toArray w') (hl : D.length = rs.length) (hn : n ≤ D.length) : OwnsR B w' (.slice (some ⟨g, 0, none⟩) n cap) ((D.take n).map fun x => x.1) ∧ w.grownBy w' (some g) := by
  obtain ⟨m, os, rfl⟩ := S
  refine ⟨?_, grown_tg _⟩
  have h0 : w.ownsRow B 34 3 (.slice (some ⟨g, 0, none⟩) rs.length cap) rs.length (recVals rs) := h
  rcases h0.2 with ⟨e, _⟩ | ⟨g', cap', cur, e, hb, hg, h1, h2, h3, h4⟩
  · cases e
  simp only [Value.slice.injEq, Option.some.injEq, Addr.mk.injEq] at e
  obtain ⟨⟨rfl, -, -⟩, -, rfl⟩ := e
  have hnl : ((D.take n).map fun x => x.1).length = n := by rw [List.length_map, List.length_take]; omega
  have hF := tg_flat D
  have hFt := tg_flat (D.take n)
  have hsz : (flatK tgE 3 D.toArray).size = D.length * 3 := by simp
  have hlen : (recVals ((D.take n).map fun x => x.1)).length = n * 3 := by rw [← hFt, Array.length_toList, size_flatK, List.size_toArray, List.length_take]; omega
  refine ⟨by rw [hnl]; exact hlen, .inr ⟨g, cap, _, by rw [hnl], hb, heap_tg _ hg, by rw [hnl]; omega, h2, by simp [putCells, h3], ?_⟩⟩
  rw [hnl, take_tg cur _ (n * 3) (by rw [hsz, h3]; omega) (by rw [hsz]; omega), hF]
  have e2 : D.map (fun x => x.1) = (D.take n).map (fun x => x.1) ++ (D.drop n).map (fun x => x.1) := by rw [← List.map_append, List.take_append_drop]
  rw [e2]
  have e3 : recVals ((D.take n).map (fun x => x.1) ++ (D.drop n).map (fun x => x.1)) = recVals ((D.take n).map fun x => x.1) ++ recVals ((D.drop n).map fun x => x.1) := List.flatMap_append
  rw [e3, List.take_append_of_le_length (by omega), List.take_of_length_le (by omega)]

set_option maxRecDepth 100000 in
set_option maxHeartbeats 1000000 in
theorem latest2_any (x y : Tg) (W : World) : Calls Try.prog 138 (#[.agg (tgE x).toArray, .agg (tgE y).toArray] ++ #[]) W fun e w' => e = .returned (.bool (decide (tgK x = tgK y))) ∧ ∃ q os', w' = grow (W.drewN q) os' := by
  obtain ⟨⟨f1, b1, d1⟩, t1⟩ := x
  obtain ⟨⟨f2, b2, d2⟩, t2⟩ := y
  show Calls Try.prog 138 #[.agg #[.bool f1, .int .i64 b1, .string d1], .agg #[.bool f2, .int .i64 b2, .string d2]] W fun e w' => e = .returned (.bool (decide (b1 = b2))) ∧ ∃ q os', w' = grow (W.drewN q) os'
  go_enter Try.func138, Try.ntmps138
  go_wp2
  go_ret
  exact ⟨by simp [BEq.beq], 0, _, by rw [alloc_eq_grow, alloc_eq_grow, grow_grow]; rfl⟩
theorem Try.egL2 : ∀ args w, (callFunc 138 args).run Try.prog w = .ok (.enter 138 args) w := enters_of Try.func138 (by kernel_rfl) rfl
theorem Try.zeroRec : ∀ w, (zeroValue 34).run Try.prog w = .ok (.agg (tgE tgZ).toArray) w := Try.zeroValue34

/-- Of neighbours alike the first: the marks have no say. -/
theorem dedup_fst : ∀ (zs : List Tg), (dedupK tgK zs).map (fun x => x.1) = dedupK Rc.block (zs.map fun x => x.1)
  | [] => rfl
  | x :: zs => by
    have h : ∀ (zs : List Tg) (k : Int), (outK tgK k zs).map (fun x => x.1) = outK Rc.block k (zs.map fun x => x.1) := by
      intro zs
      induction zs with
      | nil => intro k; rfl
      | cons y zs ih =>
        intro k
        rw [outK, List.map_cons, outK]
        by_cases e : tgK y = k
        · rw [if_pos e, if_pos (show y.1.block = k from e), ih]
        · rw [if_neg e, if_neg (show ¬ y.1.block = k from e), List.map_cons, ih]
          rfl
    rw [dedupK, List.map_cons, List.map_cons, dedupK, h]
    rfl
end Go.Proofs.Ytdjmhagclcfnfaa
/- The program's latestOf, walked. -/
namespace Go.Proofs.Ytdjmhagclcfnfaa
open Go.Shelf Go.RowKit Go.Lib Go.Sort

set_option maxHeartbeats 1000000 in
set_option maxRecDepth 1000000 in
theorem ins_nil (w : World) : Calls Try.prog 171 #[.slice none 0 0, .int .i64 0, .int .i64 0, .func (.func 136) #[] #[]] w fun e w' => e = .returned (.tuple #[]) ∧ w' = w := by
  go_enter Try.func171, Try.ntmps171
  go_wp2
  go_loopg [8] 0 (fun _ s8 wr => s8 = .int .i64 1 ∧ wr = w)
  case atStart => exact ⟨rfl, rfl⟩
  case round =>
    obtain ⟨rfl, rfl⟩ := hrel
    go_wp2
    go_end0
    exact ⟨rfl, rfl⟩
set_option maxHeartbeats 1000000 in
set_option maxRecDepth 1000000 in
theorem stable_nil (w : World) : Calls Try.prog 163 #[.slice none 0 0, .int .i64 0, .func (.func 136) #[] #[]] w fun e w' => e = .returned (.tuple #[]) ∧ w' = w := by
  go_enter Try.func163, Try.ntmps163
  go_wp2
  go_loopg [7, 8] 0 (fun _ s7 s8 wr => s7 = .int .i64 0 ∧ s8 = .int .i64 20 ∧ wr = w)
  case atStart => exact ⟨rfl, rfl, rfl⟩
  case round =>
    obtain ⟨rfl, rfl, rfl⟩ := hrel
    go_wp2_with fail
    refine (ins_nil _).mono ?_
    rintro e w2 ⟨rfl, rfl⟩
    go_wp2
    go_loopg [6, 7, 8, 9] 0 (fun _ s6 s7 s8 s9 wr => s6 = .int .i64 20 ∧ wr = w2)
    case atStart => exact ⟨rfl, rfl⟩
    case round =>
      obtain ⟨rfl, rfl⟩ := hrel
      go_wp2
      go_end0
      exact ⟨rfl, rfl⟩
set_option maxHeartbeats 1000000 in
set_option maxRecDepth 1000000 in
theorem sortStable_nil (w : World) : Calls Try.prog 135 #[.slice none 0 0, .func (.func 136) #[] #[]] w fun e w' => e = .returned (.tuple #[]) ∧ w' = w := by
  go_enter Try.func135, Try.ntmps135
  go_wp2_with fail
  refine (stable_nil _).mono ?_
  rintro e w2 ⟨rfl, rfl⟩
  go_wp2
  go_end0
  exact ⟨rfl, rfl⟩
set_option maxHeartbeats 1000000 in
set_option maxRecDepth 1000000 in
theorem compact_nil (w : World) : Calls Try.prog 137 #[.slice none 0 0, .func (.func 138) #[] #[]] w fun e w' => e = .returned (.slice none 0 0) ∧ w' = w := by
  go_enter Try.func137, Try.ntmps137
  go_wp2
  go_ret
  exact ⟨rfl, rfl⟩
theorem lastsR_nil (b : Nat) : lastsR [] b = [] := by
  unfold lastsR lastR
  rw [List.filterMap_eq_nil_iff]
  intro i _
  rfl

set_option maxHeartbeats 1000000 in
set_option maxRecDepth 1000000 in
/-- **Of each block the last record, in rising order.** -/
theorem latestOf_any (B : Nat) (rs : List Rc) (v : Value) (b : Nat) (w : World) (h : OwnsR B w v rs) (hn : rs.length ≤ 400) (hb : ∀ r ∈ rs, 0 ≤ r.block ∧ r.block < b) :
    Calls Try.prog 109 #[v] w fun e w' => ∃ v', e = .returned v' ∧ OwnsR B w' v' (lastsR rs b) ∧ w.grownBy w' v.ownBlock := by
  have h0 : w.ownsRow B 34 3 v rs.length (recVals rs) := h
  rcases h0.2 with ⟨rfl, hz⟩ | ⟨g, cap, cur, rfl, hbg, hg, hc, hm, hs, ht⟩
  · obtain rfl : rs = [] := List.eq_nil_of_length_eq_zero hz
    have HO : Hid (∀ W, OwnsR B W (.slice none 0 0) (lastsR [] b)) := fun W => by rw [lastsR_nil]; exact World.ownsRow_nil _ _ _ _
    have HR : Hid (∀ W, Calls Try.prog 134 #[.slice none 0 0] W _) := fun W => AnyQ.slices_Reverse_empty Try.revRec none 0 W
    clear h h0 hb hz
    go_enter Try.func109, Try.ntmps109
    go_wp2_with fail
    refine (HR.out _).mono ?_
    rintro e w2 ⟨rfl, rfl⟩
    go_wp2_with fail
    refine (sortStable_nil _).mono ?_
    rintro e w3 ⟨rfl, rfl⟩
    go_wp2_with fail
    refine (compact_nil _).mono ?_
    rintro e w4 ⟨rfl, rfl⟩
    go_wp2
    go_ret
    exact ⟨_, rfl, HO.out _, ⟨rfl, rfl, rfl, Nat.le_refl _, fun _ _ _ => rfl⟩⟩
  · have hzl : (rs.reverse.zipIdx 0).length = rs.length := by simp
    have hH : HoldsK tgE 3 w g 0 (rs.reverse.zipIdx 0).reverse.toArray := holds_tg hg (by rw [List.length_reverse, hzl, List.map_reverse, zipIdx_fst, List.reverse_reverse]; exact ht)
    have R : RowK tgE 3 w g 0 (rs.reverse.zipIdx 0).reverse.toArray := ⟨tg_hk, tg_h1, hH, (Array.getElem?_eq_some_iff.1 hg).1⟩
    have hd : (rs.reverse.zipIdx 0).reverse.toArray.size = rs.length := by simp
    have HR : Hid (∀ _ : Unit, Calls Try.prog 134 #[.slice (some ⟨g, 0, none⟩) rs.length cap] w fun e w' => e = .returned (.tuple #[]) ∧ SWK tgE 3 w g 0 (rs.reverse.zipIdx 0).toArray w') := fun _ => by
      have hcon := AnyQ.slices_Reverse Try.revRec 3 Try.isAgg34 Try.sizeOf34 tgE tg_hk tg_h1 g 0 cap (rs.reverse.zipIdx 0).reverse.toArray w hH (by rw [hd]; omega)
      change Calls Try.prog 134 _ _ _ at hcon
      rw [hd] at hcon
      refine hcon.mono ?_
      rintro e w' ⟨rfl, n, rfl⟩
      refine ⟨rfl, n, #[], ?_⟩
      unfold sortWorldK
      rw [grow_empty]
      simp
    have HST : Hid (∀ W, SWK tgE 3 w g 0 (rs.reverse.zipIdx 0).toArray W → _) := fun W S => sortStable_any g cap (rs.reverse.zipIdx 0) _ w W R (by rw [hd, hzl]) (by rw [hd]; exact hn) (zipIdx_rise _ _) S
    rw [hd] at HST
    have HCO : Hid (∀ (vs : List Tg) W, vs.length = rs.length → SWK tgE 3 w g 0 vs.toArray W → _) := fun vs W hl S => compact_any Try.stabL Try.func137 Try.zeroRec g cap 138 vs _ w W R Try.egL2 latest2_any (by rw [hd]; exact hl) (by rw [hd]; exact hc) (by rw [hd]; exact hn) S
    rw [hd] at HCO
    have HFIN : Hid (∀ vs : List Tg, vs.Perm (rs.reverse.zipIdx 0) → vs.Pairwise (tlt Rc.block) → ∀ (n : Nat) (D : List Tg) W, D.length = rs.length → n ≤ D.length → D.take n = dedupK tgK vs → SWK tgE 3 w g 0 D.toArray W → OwnsR B W (.slice (some ⟨g, 0, none⟩) n cap) (lastsR rs b) ∧ w.grownBy W (some g)) := by
      intro vs hp hs n D W hl hnn e S
      have h1 := owns_tg h S hl hnn
      rw [e, dedup_fst, dedup_stable Rc.block rs.reverse b (fun r hr => hb r (by simpa using hr)) vs hp hs] at h1
      exact h1
    clear h h0 hb hg hm hs ht hH R
    go_enter Try.func109, Try.ntmps109
    go_wp2_with fail
    refine (HR.out ()).mono ?_
    rintro e w2 ⟨rfl, S2⟩
    have S2' : Hid _ := S2
    clear S2 HR
    go_wp2_with fail
    refine (HST.out _ S2'.out).mono ?_
    rintro e w3 ⟨rfl, vs, hp, hso, S3⟩
    have HP : Hid _ := hp
    have HSO : Hid _ := hso
    have S3' : Hid _ := S3
    have hvl : vs.length = rs.length := by rw [hp.length_eq]; simp
    clear hp hso S3 S2'
    go_wp2_with fail
    refine (HCO.out vs _ hvl S3'.out).mono ?_
    rintro e w4 ⟨n, D, rfl, hl, hnn, hD, S4⟩
    rw [hd] at hl
    obtain ⟨f1, f2⟩ := HFIN.out vs HP.out HSO.out n D w4 hl hnn hD S4
    have F1 : Hid (OwnsR B w4 (.slice (some ⟨g, 0, none⟩) n cap) (lastsR rs b)) := f1
    have F2 : Hid (w.grownBy w4 (some g)) := f2
    clear f1 f2 S4 S3' HFIN HCO HST hD
    go_wp2
    go_ret
    exact ⟨_, rfl, F1.out, F2.out⟩
end Go.Proofs.Ytdjmhagclcfnfaa
/- The program's readUnsorted. -/
namespace Go.Proofs.Ytdjmhagclcfnfaa
open Go.RowKit Go.Shelf

theorem latest_told (B : Nat) (rs : List Rc) (v : Value) (b : Nat) (w : World) (h : OwnsR B w v rs) (hB : B ≤ w.heap.size) (hn : rs.length ≤ 400) (hb : ∀ r ∈ rs, 0 ≤ r.block ∧ r.block < b) :
    Calls Try.prog 109 #[v] w fun e w' => ∃ a ln cp, e = .returned (.slice a ln cp) ∧ OwnsR B w' (.slice a ln cp) (lastsR rs b) ∧ Below B w w' := by
  refine (latestOf_any B rs v b w h hn hb).mono ?_
  rintro e w' ⟨v', rfl, ho, hg⟩
  have hsl : ∃ a ln cp, v' = .slice a ln cp := by
    rcases ho.2 with ⟨rfl, _⟩ | ⟨g, cap, cur, rfl, _⟩
    · exact ⟨_, _, _, rfl⟩
    · exact ⟨_, _, _, rfl⟩
  obtain ⟨a, ln, cp, rfl⟩ := hsl
  refine ⟨a, ln, cp, rfl, ho, ⟨hg.os, hg.tape, hg.output, hg.size, fun k hk => hg.block k (by omega) (fun e => ?_)⟩⟩
  rcases h.2 with ⟨rfl, _⟩ | ⟨g, cap, cur, rfl, hbg, _⟩
  · cases e
  · simp [Value.ownBlock] at e
    omega

set_option maxRecDepth 100000 in
set_option maxHeartbeats 2000000 in
theorem readUnsorted_any (l : List UInt8) (w : World) (hl : l.length ≤ 4611686018427387904) :
    Calls Try.prog 75 #[.string ⟨l.toArray⟩] w fun e w' => w.grownBy w' none ∧
      ((∃ k, canonR l = .inl k ∧ e = .panicked (gave k)) ∨ (∃ f t b z rs v, canonR l = .inr (f, t, b, z, rs) ∧ e = .returned (.agg #[.int .i64 (f : Nat), .int .i64 (t : Nat), .int .i64 (b : Nat), .int .i64 (z : Nat), v]) ∧ OwnsR w.heap.size w' v rs)) := by
  go_enter Try.func75, Try.ntmps75
  go_wp2_with fail
  refine (overText_at l _ (w.heap.size + 2) (by simp)).mono ?_
  rintro e W1 ⟨rfl, hr1, hbl, hs1⟩
  have hb1 : W1.heap[w.heap.size]? = some (.cells #[.int .i64 0, .int .i64 0, .int .i64 0, .int .i64 0, .slice none 0 0] 24 (0, 0)) := (hbl.block _ (by simp)).trans (World.alloc_heap_new _ _)
  have hg1 : w.grownBy W1 none := gtrans (galloc _ _ _) (gbelow hbl)
  have HR1 : Hid (Rd W1 (w.heap.size + 2) l 0) := hr1
  clear hbl hr1
  go_wp2_with fail
  refine (unsHead_any (w.heap.size + 2) l W1 HR1.out hl).mono ?_
  clear HR1
  rintro e W2 ⟨hg2, (⟨k, hk, rfl⟩ | ⟨f, t, b, z, m, ho, rfl, hr2, h18, hok, hm400⟩)⟩
  · refine ⟨rfl, grown_fresh hg1 hg2 (by omega), .inl ⟨k, ?_, rfl⟩⟩
    rw [canonR_uns, hk]
  have HO : Hid _ := ho
  have HB2 : Hid _ := (hg2.block w.heap.size (by omega) (by simp)).trans hb1
  have HG2 : Hid (w.grownBy W2 none) := grown_fresh hg1 hg2 (by omega)
  have HR2 : Hid (Rd W2 (w.heap.size + 2) l 18) := hr2
  have hs2 : w.heap.size + 3 ≤ W2.heap.size := by have := hg2.size; omega
  have hhd := hok
  simp only [wellHead, decide_eq_true_eq] at hhd
  have hz64 : z ≤ 64 := by omega
  clear ho hg2 hg1 hr2 hb1 hok hhd
  obtain ⟨W3, hW3⟩ : ∃ W3, W3 = W2.alloc (.cells #[.int .i64 f, .int .i64 t, .int .i64 b, .int .i64 z, .int .i64 m] 101) := ⟨_, rfl⟩
  have hh3 : W3.heap[W2.heap.size]? = some (.cells #[.int .i64 f, .int .i64 t, .int .i64 b, .int .i64 z, .int .i64 m] 101 (0, 0)) := by rw [hW3]; exact World.alloc_heap_new _ _
  have hg3 : W2.grownBy W3 none := by rw [hW3]; exact galloc _ _ _
  have hs3 : W3.heap.size = W2.heap.size + 1 := by rw [hW3]; simp
  have hb3 : W3.heap[w.heap.size]? = _ := box5_grown HB2.out hg3 (by simp)
  go_wp2_with fail
  rw [← hW3]
  clear hW3
  have G3 : Hid (w.grownBy W3 none) := gtrans HG2.out hg3
  have HT : Hid (∀ u : Unit, _) := fun _ => unsorted_told (w.heap.size + 2) f t b z m l W3.drew (Rd.drew (Rd.kept HR2.out hg3) 1) h18 hl hz64 hm400
  have HB3 : Hid (W3.heap[w.heap.size]? = some (.cells #[.int .i64 0, .int .i64 0, .int .i64 0, .int .i64 0, .slice none 0 0] 24 (0, 0))) := hb3
  have HPR : Hid (canonR l = match unsR b z m (l.drop 18) with
      | .inl k => .inl k
      | .inr rs => .inr (f, t, b, z, lastsR rs b)) := by
    show _ = _
    rw [canonR_uns, HO.out]
    rfl
  have hne1 : W2.heap.size ≠ w.heap.size + 2 := by omega
  have hne2 : w.heap.size ≠ w.heap.size + 2 := by omega
  clear hb3 hg3
  cases hrec : unsR b z m (l.drop 18) with
  | inl k =>
    have HP : Hid (canonR l = .inl k) := by
      show _ = _
      rw [HPR.out, hrec]
    have HNO : Hid (∀ rs, unsR b z m (l.drop 18) = .inr rs → False) := fun rs h => by rw [hrec] at h; cases h
    have HEND : Hid (∀ (W4 W5 : World) (k' : Int), W3.drew.grownBy W4 none → W4.grownBy W5 (some (w.heap.size + 2)) → unsR b z m (l.drop 18) = .inl k' → w.grownBy W5 none ∧ ((∃ k, canonR l = .inl k ∧ Ending.panicked (gave k') = .panicked (gave k)) ∨ (∃ f t b z rs v, canonR l = .inr (f, t, b, z, rs) ∧ Ending.panicked (gave k') = .returned (.agg #[.int .i64 (f : Nat), .int .i64 (t : Nat), .int .i64 (b : Nat), .int .i64 (z : Nat), v]) ∧ OwnsR w.heap.size W5 v rs))) := fun W4 W5 k' h4 h5 hk => by
      rw [hrec] at hk
      cases hk
      exact ⟨grown_fresh (gtrans (gdrewR G3.out 1) h4) h5 (by omega), .inl ⟨_, HP.out, rfl⟩⟩
    obtain ⟨c0, c1, c2, c3, c4, -⟩ := box5_cells hh3
    have HL : Hid (∀ W : World, W3.drew.grownBy W none → W.cell? ⟨W2.heap.size, 0, none⟩ = some (.int .i64 f) ∧ W.cell? ⟨W2.heap.size, 1, none⟩ = some (.int .i64 t) ∧ W.cell? ⟨W2.heap.size, 2, none⟩ = some (.int .i64 b) ∧ W.cell? ⟨W2.heap.size, 3, none⟩ = some (.int .i64 z) ∧ W.cell? ⟨W2.heap.size, 4, none⟩ = some (.int .i64 m) ∧ W.heap[W2.heap.size]? = _) := fun W hg => box5_cells (box5_grown (W := W3.drew) hh3 hg (by simp))
    clear hh3
    go_region_with (first | (go_at_call 110; refine (HT.out ()).mono ?_; rintro e W4 ⟨fv, rfl, hg4, hC⟩; have HC : Hid (∀ u : Unit, _) := fun _ => hC; obtain ⟨d0, d1, d2, d3, d4, -⟩ := HL.out _ hg4; have G4 : Hid (W3.drew.grownBy W4 none) := hg4; clear hC hg4) | (go_at_call 85; refine (HC.out ()).mono ?_; rintro e W5 ⟨hg5, (⟨k', hk', rfl⟩ | ⟨rs, v, hk', rfl, hown⟩)⟩; refine ends_here W5 ⟨rfl, HEND.out _ _ _ G4.out hg5 hk'⟩ ?_; rotate_left; exact (HNO.out _ hk').elim))
    all_goals trivial
  | inr rs =>
    have HP : Hid (canonR l = .inr (f, t, b, z, lastsR rs b)) := by
      show _ = _
      rw [HPR.out, hrec]
    obtain ⟨hrl, hrok⟩ := unsR_ok b z m _ rs hrec
    have HC5 : Hid (∀ (W4 W5 : World) (e : Ending), W4.grownBy W5 (some (w.heap.size + 2)) ∧ ((∃ k, unsR b z m (l.drop 18) = .inl k ∧ e = .panicked (gave k)) ∨ (∃ rs v, unsR b z m (l.drop 18) = .inr rs ∧ e = .returned v ∧ OwnsR W4.heap.size W5 v rs)) → W4.grownBy W5 (some (w.heap.size + 2)) ∧ ∃ a ln cp, e = .returned (.slice a ln cp) ∧ OwnsR W4.heap.size W5 (.slice a ln cp) rs) := by
      rintro W4 W5 e ⟨hg, (⟨k, hk, rfl⟩ | ⟨rs', v, hk, rfl, ho⟩)⟩
      · rw [hrec] at hk; cases hk
      · rw [hrec] at hk
        cases hk
        obtain ⟨a, ln, cp, rfl⟩ : ∃ a ln cp, v = .slice a ln cp := by
          rcases ho.2 with ⟨rfl, _⟩ | ⟨g, cap, cur, rfl, _⟩
          · exact ⟨_, _, _, rfl⟩
          · exact ⟨_, _, _, rfl⟩
        exact ⟨hg, a, ln, cp, rfl, ho⟩
    have HLT : Hid (∀ (W4 W5 : World) v, W4.grownBy W5 (some (w.heap.size + 2)) → OwnsR W4.heap.size W5 v rs → _) := fun W4 W5 v hg ho => latest_told W4.heap.size rs v b W5 ho hg.size (by omega) (fun r hr => ⟨(hrok r hr).1, (hrok r hr).2.1⟩)
    have HRB : Hid (∀ (W4 W5 W6 W7 : World), W3.drew.grownBy W4 none → W4.grownBy W5 (some (w.heap.size + 2)) → Below W4.heap.size W5 W6 → Below W6.heap.size W6 W7 → W7.heap[w.heap.size]? = some (.cells #[.int .i64 0, .int .i64 0, .int .i64 0, .int .i64 0, .slice none 0 0] 24 (0, 0)) ∧ w.grownBy W7 none) := fun W4 W5 W6 W7 h4 h5 h6 h7 => by
      have q4 := h4.size
      have q4' : W3.drew.heap.size = W3.heap.size := rfl
      have b4 := box5_grown (W := W3.drew) HB3.out h4 (by simp)
      have b5 := box5_grown b4 h5 (by simp)
      have b6 := (h6.block w.heap.size (by omega)).trans b5
      have g5 : w.grownBy W5 none := grown_fresh (gtrans (gdrewR G3.out 1) h4) h5 (by omega)
      have g6 : w.grownBy W6 none := ⟨h6.os.trans g5.os, h6.tape.trans g5.tape, h6.output.trans g5.output, Nat.le_trans g5.size h6.size, fun j hj hne => (h6.block j (by have := G3.out.size; omega)).trans (g5.block j hj hne)⟩
      exact ⟨box5_grown b6 (gbelow (row := none) h7) (by simp), gtrans g6 (gbelow h7)⟩
    have HS4 : Hid (∀ W4 : World, W3.drew.grownBy W4 none → W4.heap[W2.heap.size]? = some (.cells #[.int .i64 f, .int .i64 t, .int .i64 b, .int .i64 z, .int .i64 m] 101 (0, 0)) ∧ W2.heap.size < W4.heap.size) := fun W4 h => ⟨box5_grown (W := W3.drew) hh3 h (by simp), by have := h.size; have e : W3.drew.heap.size = W3.heap.size := rfl; omega⟩
    have HS5 : Hid (∀ W4 W5 : World, W4.heap[W2.heap.size]? = some (.cells #[.int .i64 f, .int .i64 t, .int .i64 b, .int .i64 z, .int .i64 m] 101 (0, 0)) → W4.grownBy W5 (some (w.heap.size + 2)) → W5.heap[W2.heap.size]? = some (.cells #[.int .i64 f, .int .i64 t, .int .i64 b, .int .i64 z, .int .i64 m] 101 (0, 0))) := fun W4 W5 h hg => box5_grown h hg (by simpa using hne1)
    have HS6 : Hid (∀ W4 W5 W6 : World, W2.heap.size < W4.heap.size → W5.heap[W2.heap.size]? = some (.cells #[.int .i64 f, .int .i64 t, .int .i64 b, .int .i64 z, .int .i64 m] 101 (0, 0)) → Below W4.heap.size W5 W6 → W6.heap[W2.heap.size]? = some (.cells #[.int .i64 f, .int .i64 t, .int .i64 b, .int .i64 z, .int .i64 m] 101 (0, 0))) := fun W4 W5 W6 hlt h hg => (hg.block _ hlt).trans h
    have HS7 : Hid (∀ W6 W7 : World, W6.heap[W2.heap.size]? = some (.cells #[.int .i64 f, .int .i64 t, .int .i64 b, .int .i64 z, .int .i64 m] 101 (0, 0)) → Below W6.heap.size W6 W7 → W7.heap[W2.heap.size]? = some (.cells #[.int .i64 f, .int .i64 t, .int .i64 b, .int .i64 z, .int .i64 m] 101 (0, 0))) := fun W6 W7 h hg => box5_grown h (gbelow (row := none) hg) (by simp)
    have hne3 : W2.heap.size ≠ w.heap.size := by omega
    clear hrec HPR hrok hrl
    go_region_held3 (fun w' => w'.cell? ⟨W2.heap.size, 0, none⟩ = some (.int .i64 f) ∧ w'.cell? ⟨W2.heap.size, 1, none⟩ = some (.int .i64 t) ∧ w'.cell? ⟨W2.heap.size, 2, none⟩ = some (.int .i64 b) ∧ w'.cell? ⟨W2.heap.size, 3, none⟩ = some (.int .i64 z) ∧ w'.cell? ⟨W2.heap.size, 4, none⟩ = some (.int .i64 m) ∧ w'.heap[W2.heap.size]? = some (.cells #[.int .i64 f, .int .i64 t, .int .i64 b, .int .i64 z, .int .i64 m] 101 (0, 0)))
      (first | with_reducible exact box5_cells hS7 | with_reducible exact box5_cells hS6 | with_reducible exact box5_cells hS5 | with_reducible exact box5_cells hS4 | with_reducible exact box5_cells (box_set5 hS7 hne3 _ _ _ _ _) | exact box5_cells hh3)
      (first | (go_at_call 110; refine (HT.out ()).mono ?_; rintro e W4 ⟨fv, rfl, hg4, hC⟩; have HC : Hid (∀ u : Unit, _) := fun _ => hC; clear hC; obtain ⟨hS4, hlt4⟩ := HS4.out W4 hg4) | (go_at_call 85; refine (HC.out ()).mono ?_; rintro e W5 hh5; obtain ⟨hg5, a, ln, cp, rfl, hown⟩ := HC5.out _ _ _ hh5; have HOW : Hid (OwnsR W4.heap.size W5 (.slice a ln cp) rs) := hown; clear hown hh5; have hS5 := HS5.out W4 W5 hS4 hg5) | (go_at_call 109; refine (HLT.out W4 W5 _ hg5 HOW.out).mono ?_; rintro e W6 ⟨a6, ln6, cp6, rfl, hown6, hb6⟩; have HOW6 : Hid (OwnsR W4.heap.size W6 (.slice a6 ln6 cp6) (lastsR rs b)) := hown6; clear hown6; have hS6 := HS6.out W4 W5 W6 hlt4 hS5 hb6) | (go_at_call 84; refine (hstream_any _ _ _ _ _ _ _ _ _).mono ?_; rintro e W7 ⟨rfl, hb7⟩; obtain ⟨hrb, hgw⟩ := HRB.out _ _ _ _ hg4 hg5 hb6 hb7; obtain ⟨k0, k1, k2, k3, k4, -⟩ := box5_cells hrb; obtain ⟨z0, z1, z2, z3, z4⟩ := box5_froz hrb; have hS7 := HS7.out W6 W7 hS6 hb7))
    go_wp2
    refine bodyPost_ret (v := .agg #[.int .i64 f, .int .i64 t, .int .i64 b, .int .i64 z, .slice a6 ln6 cp6]) (by simp [results, Try.results75, go_sem, k0, k1, k2, k3, k4]) rfl ?_
    have hs4 : w.heap.size < W4.heap.size := by
      have := hg4.size
      have e : W3.drew.heap.size = W3.heap.size := rfl
      omega
    have hO7 : OwnsR W4.heap.size W7 (.slice a6 ln6 cp6) (lastsR rs b) := OwnsR.keptN HOW6.out (gbelow hb7)
    refine ⟨gfresh (gfresh (gfresh (gfresh (gfresh hgw (Nat.le_refl _)) (Nat.le_refl _)) (Nat.le_refl _)) (Nat.le_refl _)) (Nat.le_refl _), .inr ⟨f, t, b, z, lastsR rs b, _, HP.out, rfl, ?_⟩⟩
    exact OwnsR.base (OwnsR.set (OwnsR.set (OwnsR.set (OwnsR.set (OwnsR.set hO7 hs4) hs4) hs4) hs4) hs4) (by omega)
end Go.Proofs.Ytdjmhagclcfnfaa
/- The program's Canon. -/
namespace Go.Proofs.Ytdjmhagclcfnfaa
open Go.RowKit Go.Shelf

/-- How a reading ends, as Canon's face tells it. -/
def ToldU (l : List UInt8) (w : World) (e : Ending) (w' : World) : Prop :=
  w.grownBy w' none ∧
    ((∃ k, canonR l = .inl k ∧ e = .returned (.tuple #[.agg #[.int .i64 0, .int .i64 0, .int .i64 0, .int .i64 0, .slice none 0 0], .int .i64 k])) ∨
     (∃ f t b z rs v, canonR l = .inr (f, t, b, z, rs) ∧ e = .returned (.tuple #[.agg #[.int .i64 (f : Nat), .int .i64 (t : Nat), .int .i64 (b : Nat), .int .i64 (z : Nat), v], .int .i64 0]) ∧ OwnsR w.heap.size w' v rs))

set_option maxRecDepth 100000 in
set_option maxHeartbeats 1000000 in
theorem canon1_any (Bt : Nat) (l : List UInt8) (w : World) (hl : l.length ≤ 4611686018427387904) (ht : w.cell? ⟨Bt, 0, none⟩ = some (.string ⟨l.toArray⟩)) (hb : Bt < w.heap.size) :
    Calls Try.prog 74 #[.pointer (some ⟨Bt, 0, none⟩)] w fun e w' => w.grownBy w' none ∧
      ((∃ k, canonR l = .inl k ∧ e = .panicked (gave k)) ∨ (∃ f t b z rs v, canonR l = .inr (f, t, b, z, rs) ∧ e = .returned (.agg #[.int .i64 (f : Nat), .int .i64 (t : Nat), .int .i64 (b : Nat), .int .i64 (z : Nat), v]) ∧ OwnsR w.heap.size w' v rs)) := by
  have hne : Bt ≠ w.heap.size := by omega
  go_enter Try.func74, Try.ntmps74
  go_wp2_with fail
  obtain ⟨W1, hW1⟩ : ∃ W1, W1 = w.alloc (.cells #[.int .i64 0, .int .i64 0, .int .i64 0, .int .i64 0, .slice none 0 0] 24) := ⟨_, rfl⟩
  rw [← hW1]
  have hs1 : W1.heap.size = w.heap.size + 1 := by rw [hW1]; simp
  have hg1 : w.grownBy W1 none := by rw [hW1]; exact galloc _ _ _
  have hb1 : W1.heap[w.heap.size]? = some (.cells #[.int .i64 0, .int .i64 0, .int .i64 0, .int .i64 0, .slice none 0 0] 24 (0, 0)) := by rw [hW1]; exact World.alloc_heap_new _ _
  clear hW1 ht
  refine (readUnsorted_any l W1 hl).mono ?_
  rintro e W2 ⟨hg2, (⟨k, hk, rfl⟩ | ⟨f, t, b, z, rs, v, hk, rfl, hown⟩)⟩
  · exact ⟨rfl, gtrans hg1 hg2, .inl ⟨k, hk, rfl⟩⟩
  · have hb2 := (hg2.block w.heap.size (by omega) (by simp)).trans hb1
    have G2 : Hid (w.grownBy W2 none) := gtrans hg1 hg2
    have hlt2 : w.heap.size < W2.heap.size := by have := hg2.size; omega
    have HO : Hid _ := hown
    have HP : Hid _ := hk
    obtain ⟨a, ln, cp, rfl⟩ : ∃ a ln cp, v = .slice a ln cp := by
      rcases hown.2 with ⟨rfl, _⟩ | ⟨g, cap, cur, rfl, _⟩
      · exact ⟨_, _, _, rfl⟩
      · exact ⟨_, _, _, rfl⟩
    have c0 := boxed_cell (i := 0) hb2 rfl
    have f0 := boxed_frozen (i := 0) hb2
    have c1 := boxed_cell (i := 1) hb2 rfl
    have f1 := boxed_frozen (i := 1) hb2
    have c2 := boxed_cell (i := 2) hb2 rfl
    have f2 := boxed_frozen (i := 2) hb2
    have c3 := boxed_cell (i := 3) hb2 rfl
    have f3 := boxed_frozen (i := 3) hb2
    have c4 := boxed_cell (i := 4) hb2 rfl
    have f4 := boxed_frozen (i := 4) hb2
    clear hg1 hg2 hb1 hb2 hown hk
    go_wp2
    refine bodyPost_ret (v := .agg #[.int .i64 f, .int .i64 t, .int .i64 b, .int .i64 z, .slice a ln cp]) (by simp [results, Try.results74, go_sem, c0, c1, c2, c3, c4]) rfl ?_
    refine ⟨?_, .inr ⟨f, t, b, z, rs, _, HP.out, rfl, ?_⟩⟩
    · exact gfresh (gfresh (gfresh (gfresh (gfresh G2.out (Nat.le_refl _)) (Nat.le_refl _)) (Nat.le_refl _)) (Nat.le_refl _)) (Nat.le_refl _)
    · exact OwnsR.base (OwnsR.set (OwnsR.set (OwnsR.set (OwnsR.set (OwnsR.set HO.out (by omega)) (by omega)) (by omega)) (by omega)) (by omega)) (by omega)

theorem atFaceU_any (Bt : Nat) (l : List UInt8) (w : World) (hl : l.length ≤ 4611686018427387904) (ht : w.cell? ⟨Bt, 0, none⟩ = some (.string ⟨l.toArray⟩)) (hb : Bt < w.heap.size) :
    Calls Try.prog 48 #[.func (.func 74) #[] #[.pointer (some ⟨Bt, 0, none⟩)]] w (ToldU l w) :=
  atFace_gen 74 #[.pointer (some ⟨Bt, 0, none⟩)] (enters_of Try.func74 (by kernel_rfl) rfl) (fun k => canonR l = .inl k) (fun f t b z rs => canonR l = .inr (f, t, b, z, rs)) w
    (fun W hg => canon1_any Bt l W hl ((World.cell?_of_block (hg.block Bt hb (by simp))).trans ht) (Nat.lt_of_lt_of_le hb hg.size))

theorem canonR_ok (l : List UInt8) (f t b z : Nat) (rs : List Rc) (h : canonR l = .inr (f, t, b, z, rs)) : wellHead f t b z = true ∧ recsOk b z (-1) rs = true := by
  rw [canonR_uns] at h
  rcases ho : openG [83, 84, 82, 85] 18 400 l with k | ⟨f', t', b', z', m⟩
  · rw [ho] at h; cases h
  · rw [ho] at h
    simp only [] at h
    cases hu : unsR b' z' m (l.drop 18) with
    | inl k => rw [hu] at h; cases h
    | inr xs =>
      rw [hu] at h
      simp only [Sum.inr.injEq, Prod.mk.injEq] at h
      obtain ⟨rfl, rfl, rfl, rfl, rfl⟩ := h
      obtain ⟨-, hok⟩ := unsR_ok _ _ _ _ _ hu
      refine ⟨?_, (lastsR_ok _ _ _ hok _ (Nat.le_refl _)).1⟩
      unfold openG at ho
      by_cases h1 : l.length < 18
      · rw [if_pos h1] at ho; cases ho
      · rw [if_neg h1] at ho
        by_cases h2 : l.take 4 ≠ [83, 84, 82, 85]
        · rw [if_pos h2] at ho; cases ho
        · rw [if_neg h2] at ho
          by_cases h3 : (wellHead (headR l).1 (headR l).2.1 (headR l).2.2.1 (headR l).2.2.2.1 && decide ((headR l).2.2.2.2 ≤ if (400 : Nat) = 0 then (headR l).2.2.1 else 400)) = true
          · rw [if_pos h3] at ho
            have ho2 := Sum.inr.inj ho
            rw [ho2, Bool.and_eq_true] at h3
            exact h3.1
          · rw [if_neg h3] at ho; cases ho

theorem canonR_err (l : List UInt8) (k : Int) (h : canonR l = .inl k) : 2 ≤ k ∧ k ≤ 8 := by
  unfold canonR at h
  rcases ho : openG [83, 84, 82, 85] 18 400 l with k' | ⟨f, t, b, z, m⟩
  · rw [ho] at h
    cases h
    exact openG_err _ _ _ _ _ ho
  · rw [ho] at h
    simp only [] at h
    rcases hw : walkS (stepG true b z) m (-1) (l.drop 18) with ⟨rs, (k' | q)⟩
    · rw [hw] at h
      cases h
      exact walkS_err true b z m (-1) _ _ _ hw
    · rw [hw] at h
      simp only [] at h
      by_cases hq : q.length ≠ 0
      · rw [if_pos hq] at h
        cases h
        exact ⟨by omega, by omega⟩
      · rw [if_neg hq] at h
        cases h

set_option maxRecDepth 100000 in
set_option maxHeartbeats 1000000 in
/-- **Canon**, of any text. -/
theorem pcanon (l : List UInt8) (w : World) (hl : l.length ≤ 4611686018427387904) :
    Calls Try.prog 37 #[.string ⟨l.toArray⟩] w (ToldC l w) := by
  have hmf : ∀ (fn : Fn) (first cap : Array Value) (w : World), (Instr.makeFunc fn first cap).run Try.prog w = .ok (.func fn first cap) w := fun _ _ _ _ => rfl
  go_enter Try.func37, Try.ntmps37
  go_wp2_with fail
  obtain ⟨W1, hW1⟩ : ∃ W1, W1 = w.alloc (.cells #[.string ⟨l.toArray⟩] 9) := ⟨_, rfl⟩
  rw [← hW1]
  have hs1 : W1.heap.size = w.heap.size + 1 := by rw [hW1]; simp
  have hg1 : w.grownBy W1 none := by rw [hW1]; exact galloc _ _ _
  have ht1 : W1.heap[w.heap.size]? = some (.cells #[.string ⟨l.toArray⟩] 9 (0, 0)) := by rw [hW1]; exact World.alloc_heap_new _ _
  clear hW1
  refine (atFaceU_any w.heap.size l W1 hl (boxed_cell (i := 0) ht1 rfl) (by omega)).mono ?_
  rintro e W2 ⟨hg2, (⟨k, hk, rfl⟩ | ⟨f, t, b, z, rs, v, hk, rfl, hown⟩)⟩
  · have HP : Hid _ := hk
    have G2 : Hid (w.grownBy W2 none) := gtrans hg1 hg2
    have hke := canonR_err l k hk
    have hne : (k != 0) = true := by simp; omega
    clear hk hg1 hg2 ht1
    go_wp2
    go_ret2
    exact ⟨gallocR G2.out _, .inl ⟨k, HP.out, rfl⟩⟩
  · have HP : Hid _ := hk
    obtain ⟨hw, hro⟩ := canonR_ok l f t b z rs hk
    have G2 : Hid (w.grownBy W2 none) := gtrans hg1 hg2
    obtain ⟨a', c', rfl⟩ := hown.recs.slice
    obtain ⟨W3, hW3⟩ : ∃ W3, W3 = W2.alloc (.cells #[.int .i64 f, .int .i64 t, .int .i64 b, .int .i64 z, .slice a' rs.length c'] 24) := ⟨_, rfl⟩
    have HW : Hid (∀ u : Unit, _) := fun _ => write_any f t b z (.slice a' rs.length c') rs W3 (by rw [hW3]; exact (OwnsR.alloc hown _).recs) hw hro
    have G3 : Hid (w.grownBy W3 none) := by rw [hW3]; exact gallocR G2.out _
    clear hk hg1 hg2 ht1 hown hw hro
    go_wp2_with fail
    rw [← hW3]
    clear hW3
    refine (HW.out ()).mono ?_
    rintro e w4 ⟨rfl, hb⟩
    have G4 : Hid (w.grownBy w4 none) := gtrans G3.out (gbelow hb)
    clear hb HW
    go_wp2
    go_ret2
    exact ⟨G4.out, .inr ⟨f, t, b, z, rs, HP.out, rfl⟩⟩
end Go.Proofs.Ytdjmhagclcfnfaa
/- The walk of Canons. -/
namespace Go.Proofs.Ytdjmhagclcfnfaa
open Go.RowKit Go.Shelf

/-- Both answer the same. -/
theorem told_canon (l : List UInt8) : ∃ (q : ByteArray) (k : Int), ∀ w e w', ToldC l w e w' → e = .returned (.tuple #[.string q, .int .i64 k]) ∧ w.grownBy w' none := by
  cases hs : canonR l with
  | inl k =>
    refine ⟨⟨#[]⟩, k, ?_⟩
    rintro w e w' ⟨hg, (⟨k', hk, rfl⟩ | ⟨f, t, b, z, rs, hk, rfl⟩)⟩
    · rw [hs] at hk; cases hk
      exact ⟨rfl, hg⟩
    · rw [hs] at hk; cases hk
  | inr x =>
    obtain ⟨f, t, b, z, rs⟩ := x
    refine ⟨⟨(serB f t b z rs).toArray⟩, 0, ?_⟩
    rintro w e w' ⟨hg, (⟨k', hk, rfl⟩ | ⟨f', t', b', z', rs', hk, rfl⟩)⟩
    · rw [hs] at hk; cases hk
    · rw [hs] at hk; cases hk
      exact ⟨rfl, hg⟩

set_option maxRecDepth 100000 in
set_option maxHeartbeats 2000000 in
theorem canons_walk (l : List UInt8) (w : World) (hl : l.length ≤ 4611686018427387904) :
    Calls Try.prog 9 #[.string ⟨l.toArray⟩] w fun e w' => e = .returned (.bool true) ∧ w.grownBy w' none := by
  obtain ⟨q, k, hb⟩ := told_canon l
  have HR : Hid (∀ W, _) := fun W => (rcanon l W hl).mono (hb W)
  have HP : Hid (∀ W, _) := fun W => (pcanon l W hl).mono (hb W)
  clear hb
  go_enter Try.func9, Try.ntmps9
  go_wp2_with fail
  refine (HP.out _).mono ?_
  rintro e w1 ⟨rfl, g1⟩
  have G1 : Hid _ := g1
  clear g1
  go_wp2_with fail
  refine (HR.out _).mono ?_
  rintro e w2 ⟨rfl, g2⟩
  have G2 : Hid _ := g2
  clear g2
  go_wp2
  go_ret
  exact ⟨rfl, gtrans G1.out G2.out⟩
end Go.Proofs.Ytdjmhagclcfnfaa
/- The statement on Canons. -/
namespace Go.Proofs.Ytdjmhagclcfnfaa
open Go.ChangeShapes Go.WideShapes Go.ChangeAt Go.RowKit
open Go.ChangeMaps (open_string shut_string)

set_option maxRecDepth 100000 in
theorem canons_lifted (os : Os) (started : os.Started) (H : Type) (enc : TypeId × Value → H) :
    ReturnsInHanded {} Try.checked os 9 .any (Rows.canonsSpec.pre6 enc Try.prog Try.f9 Rows.canonsRow.domain false) (Rows.canonsSpec.post enc Try.prog Try.f9 false true false false) := by
  refine returnsInHanded_of_change_sized (C := Try.checked) Try.own started (by kernel_rfl) Try.func9
    (ChangeSpec.witness6 (enc := enc) (C := Try.checked) false ⟨#[], #[.string ByteArray.empty], []⟩ 8 (by kernel_rfl) (by kernel_rfl) (by kernel_rfl) (by kernel_rfl)) ?_
  intro W base args ds gs before hval0 hW _ hsz0 _
  have hsz : (DataW.weightsEach Try.prog (Try.f9.params.toList ++ Rows.canonsSpec.plain.varTypes Try.prog) (ds ++ gs)).all (· ≤ reachBytes) = true := hsz0
  clear hsz0
  have hval : ∀ (j : Nat) t v, Try.f9.params[j]? = some t → args[j]? = some v → Value.okWide Try.prog W .any base t v := hval0
  have hW' := hW
  obtain ⟨p, q, hA0, hV, rfl, _, _⟩ := hW
  have hA : DataW.TrodAll enc Try.prog W 0 (fun _ => true) true Try.f9.params.toList args.toList ds p := hA0
  rw [Try.params9] at hA hval hsz
  obtain ⟨v0, vs0, d0, ds0, p0, q0, hargs, rfl, rfl, h0, r0⟩ := trodAll_cons hA
  obtain ⟨rfl, rfl, rfl⟩ := trodAll_nil r0
  obtain rfl : args = #[v0] := by cases args; simp_all
  obtain ⟨rfl, rfl⟩ := trodVars_none hV
  obtain ⟨a0, rfl, rfl, rfl, w0⟩ := open_string Try.underlying9 (hval 0 9 v0 rfl rfl) h0
  clear hA0 hval0
  simp only [List.append_nil] at hW'
  have hlen : a0.data.toList.length ≤ 4611686018427387904 := by
    have h4 := DataW.weights_mem_each (H := H) (P := Try.prog) (j := 0) (ts := [9] ++ Rows.canonsSpec.plain.varTypes Try.prog) (ds := [.lit (.string a0.data.toList)] ++ []) rfl rfl a0.data.toList.length (by simp [DataW.weights])
    have h5 := of_decide_eq_true (List.all_eq_true.1 hsz _ h4)
    simp only [reachBytes] at h5
    omega
  have hwalk := canons_walk a0.data.toList W hlen
  rw [show (⟨a0.data.toList.toArray⟩ : ByteArray) = a0 from rfl] at hwalk
  refine hwalk.mono fun e W' ⟨he, hg⟩ => ?_
  subst he
  have hb := below_of_grown hg
  refine ⟨_, rfl, _, _, _, [], [] ++ [], [], hW', ?_, ?_, rfl, hb.frame _, fun h => by cases h⟩
  · exact trodAll_cons_mk (shut_bool Try.underlying4 _) trodAll_mk0
  · exact trodAll_cons_mk (shut_string Try.underlying9 w0) trodAll_mk0

theorem canons_holds : Rows.CanonsSaid :=
  OpenClaim.holds_of_wide 9 Try.f9 rfl rfl rfl rfl rfl rfl rfl ⟨rfl, rfl, rfl, rfl, rfl⟩ rfl rfl rfl rfl rfl (by kernel_rfl) Try.func9 (by kernel_rfl)
    (of_decide_eq_true (by kernel_rfl)) (by unfold Func.isWrapper; first | (rw [if_pos (by decide +kernel)]; kernel_rfl) | (rw [if_neg (by decide +kernel)]; exact ⟨rfl, rfl⟩))
    (fun os started H enc _ => canons_lifted os started H enc)
end Go.Proofs.Ytdjmhagclcfnfaa
