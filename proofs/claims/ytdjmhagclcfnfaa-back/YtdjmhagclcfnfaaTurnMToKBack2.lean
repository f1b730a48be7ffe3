/- TurnM, KTurned, KSame2, KBack, KInts, KBack2 -/
import Derived.Test.YtdjmhagclcfnfaaParseM
import Derived.Test.YtdjmhagclcfnfaaKText
import Derived.Test.YtdjmhagclcfnfaaPFace
import Derived.Test.YtdjmhagclcfnfaaKSame
import Derived.Test.YtdjmhagclcfnfaaRParse2
import Derived.Test.YtdjmhagclcfnfaaBackM
import Derived.Test.YtdjmhagclcfnfaaLExact2
import Derived.Test.YtdjmhagclcfnfaaKPick
import Derived.Test.YtdjmhagclcfnfaaLWrites3
import Derived.ChangeSlices
/- One byte turned makes a text none. -/
namespace Go.Proofs.Ytdjmhagclcfnfaa

theorem xor_cancel {a b k : Nat} (h : a ^^^ k = b ^^^ k) : a = b := by
  have := congrArg (· ^^^ k) h
  simpa [Nat.xor_assoc] using this
theorem xor_cancel_left {a b k : Nat} (h : k ^^^ a = k ^^^ b) : a = b := xor_cancel (k := k) (by rw [Nat.xor_comm a, Nat.xor_comm b]; exact h)
theorem crcBit_top (x : Nat) (h : x < 2 ^ 32) : (crcBit x).testBit 31 = decide (x % 2 = 1) := by
  have h1 : (x / 2).testBit 31 = false := Nat.testBit_lt_two_pow (by omega)
  unfold crcBit
  split
  · rename_i hp
    rw [Nat.testBit_xor, h1, hp]
    decide
  · rename_i hp
    rw [h1]
    simp [hp]
theorem crcBit_inj (c d : Nat) (hc : c < 2 ^ 32) (hd : d < 2 ^ 32) (h : crcBit c = crcBit d) : c = d := by
  have t := crcBit_top c hc
  rw [h, crcBit_top d hd] at t
  unfold crcBit at h
  by_cases p : c % 2 = 1 <;> by_cases q : d % 2 = 1 <;> simp only [p, q, if_true, if_false, decide_true, decide_false] at h t
  · have := xor_cancel h
    omega
  · simp at t
  · simp at t
  · omega
theorem crcBits_inj : ∀ (k c d : Nat), c < 2 ^ 32 → d < 2 ^ 32 → crcBits k c = crcBits k d → c = d
  | 0, _, _, _, _, h => h
  | k + 1, c, d, hc, hd, h => crcBits_inj k c d hc hd (crcBit_inj _ _ (crcBits_lt c hc k) (crcBits_lt d hd k) h)
theorem crcByte_inj (c d : Nat) (x : UInt8) (hc : c < 2 ^ 32) (hd : d < 2 ^ 32) (h : crcByte c x = crcByte d x) : c = d :=
  xor_cancel (crcBits_inj 8 _ _ (Nat.xor_lt_two_pow hc (by have := x.toNat_lt; omega)) (Nat.xor_lt_two_pow hd (by have := x.toNat_lt; omega)) h)
theorem crcByte_byte (c : Nat) (x y : UInt8) (hc : c < 2 ^ 32) (h : crcByte c x = crcByte c y) : x = y :=
  UInt8.toNat_inj.1 (xor_cancel_left (crcBits_inj 8 _ _ (Nat.xor_lt_two_pow hc (by have := x.toNat_lt; omega)) (Nat.xor_lt_two_pow hc (by have := y.toNat_lt; omega)) h))
theorem crcFold_inj : ∀ (l : List UInt8) (c d : Nat), c < 2 ^ 32 → d < 2 ^ 32 → l.foldl crcByte c = l.foldl crcByte d → c = d
  | [], _, _, _, _, h => h
  | x :: l, c, d, hc, hd, h => crcByte_inj c d x hc hd (crcFold_inj l _ _ (crcByte_lt c x hc) (crcByte_lt d x hd) h)
theorem crc_turn (l m : List UInt8) (x y : UInt8) (h : crc (l ++ x :: m) = crc (l ++ y :: m)) : x = y := by
  have h1 := xor_cancel h
  unfold crcN at h1
  rw [List.foldl_append, List.foldl_append, List.foldl_cons, List.foldl_cons] at h1
  have hl := crcFold_lt l 4294967295 (by omega)
  exact crcByte_byte _ x y hl (crcFold_inj m _ _ (crcByte_lt _ x hl) (crcByte_lt _ y hl) h1)
theorem lowB_crc (a b : List UInt8) (h : lowB (crc a) 4 = lowB (crc b) 4) : crc a = crc b := by
  have h1 := congrArg num h
  rw [num_lowB, num_lowB] at h1
  have := crc_lt a
  have := crc_lt b
  omega

/-- Two texts that differ in one byte are not both texts. -/
theorem turned_sum (A A' : List UInt8) (i : Nat) (x : UInt8) (hi : i < (A ++ lowB (crc A) 4).length) (h : (A ++ lowB (crc A) 4).set i x = A' ++ lowB (crc A') 4) : x = (A ++ lowB (crc A) 4)[i] := by
  have hl := congrArg List.length h
  rw [List.length_set, List.length_append, List.length_append, lowB_length, lowB_length] at hl
  have hA : A.length = A'.length := by omega
  by_cases hlt : i < A.length
  · rw [List.set_append_left _ _ hlt] at h
    obtain ⟨h1, h2⟩ := List.append_inj h (by rw [List.length_set]; exact hA)
    have h3 := lowB_crc _ _ h2
    rw [← h1, List.set_eq_take_append_cons_drop, if_pos hlt] at h3
    have e : A = A.take i ++ A[i] :: A.drop (i + 1) := by rw [← List.drop_eq_getElem_cons hlt, List.take_append_drop]
    have h4 : crc (A.take i ++ A[i] :: A.drop (i + 1)) = crc (A.take i ++ x :: A.drop (i + 1)) := by rw [← e]; exact h3
    rw [List.getElem_append_left hlt]
    exact (crc_turn _ _ _ _ h4).symm
  · rw [List.set_append_right _ _ (by omega)] at h
    obtain ⟨h1, h2⟩ := List.append_inj h hA
    rw [← h1] at h2
    rw [List.getElem_append_right (by omega)]
    have hj : i - A.length < (lowB (crc A) 4).length := by rw [List.length_append] at hi; omega
    have h3 : ((lowB (crc A) 4).set (i - A.length) x)[i - A.length]'(by rw [List.length_set]; exact hj) = x := List.getElem_set_self _
    simp only [h2] at h3
    exact h3.symm
theorem turned_none (f t b z : Nat) (rs : List Rc) (i : Nat) (x : UInt8) (hi : i < (serB f t b z rs).length) (hx : x ≠ (serB f t b z rs)[i]) : ∃ k, parseR ((serB f t b z rs).set i x) = .inl k := by
  cases h : parseR ((serB f t b z rs).set i x) with
  | inl k => exact ⟨k, rfl⟩
  | inr v =>
    obtain ⟨f', t', b', z', rs'⟩ := v
    obtain ⟨e, _, _⟩ := parse_exact _ f' t' b' z' rs' h
    exact absurd (turned_sum (aheadB f t b z rs) (aheadB f' t' b' z' rs') i x hi e) hx
end Go.Proofs.Ytdjmhagclcfnfaa
/- The walk of Turned. -/
namespace Go.Proofs.Ytdjmhagclcfnfaa
open Go.RowKit Go.Shelf

theorem conv_cells (W : World) (g cap : Nat) (l : List UInt8) (h : ∀ j (hj : j < l.length), W.cell? ⟨g, j, none⟩ = some (.int .u8 (l[j].toNat : Int))) :
    (convert 72 9 (.slice (some ⟨g, 0, none⟩) l.length cap)).run Try.prog W = .ok (.string ⟨l.toArray⟩) W := by
  refine run_convert_bytes_back (P := Try.prog) W 72 9 5 ⟨g, 0, none⟩ cap l Try.underlying72 Try.underlying5 Try.underlying9 ?_
  intro j hj
  have := h j hj
  rw [Addr.add_lit, Nat.zero_add]
  exact this
theorem conv_bytes2 (W : World) (bs : List UInt8) : ∃ c W2 cs, (convert 9 72 (.string ⟨bs.toArray⟩)).run Try.prog W = .ok (.slice (some ⟨W.heap.size, 0, none⟩) bs.length c) W2 ∧ W.grownBy W2 none ∧
    W2.heap[W.heap.size]? = some (.cells cs 5 (cs.size, cs.size + 1)) ∧ bs.length ≤ cs.size ∧ ∀ j (h : j < bs.length), cs[j]? = some (.int .u8 (bs[j].toNat : Int)) := by
  refine ⟨_, _, _, run_bytes_of_string W 9 72 5 ⟨bs.toArray⟩ Try.underlying9 Try.underlying72 Try.underlying5, ?_, World.alloc_heap_new W.drew _, ?_, ?_⟩
  · exact ⟨rfl, rfl, rfl, by simp, fun j hj _ => Below.heap_alloc W.drew _ j hj⟩
  · unfold bytesRow
    rw [Array.size_append]
    simp [ByteArray.size]
  · intro j hj
    unfold bytesRow
    rw [Array.getElem?_append_left (by simpa using hj)]
    simp [hj]
theorem u8_xor_nat (a b : Nat) (ha : a < 256) (hb : b < 256) : bits .xor .u8 (a : Int) (b : Int) = ((a ^^^ b : Nat) : Int) := by
  have hx : a ^^^ b < 2 ^ 8 := Nat.xor_lt_two_pow (by omega) (by omega)
  have h1 : (BitVec.ofInt 8 (a : Int)).toNat = a := by
    rw [BitVec.ofInt_natCast, BitVec.toNat_ofNat]; exact Nat.mod_eq_of_lt (by omega)
  have h2 : (BitVec.ofInt 8 (b : Int)).toNat = b := by
    rw [BitVec.ofInt_natCast, BitVec.toNat_ofNat]; exact Nat.mod_eq_of_lt (by omega)
  show IntKind.u8.wrap ((BitVec.ofInt 8 (a : Int) ^^^ BitVec.ofInt 8 (b : Int)).toNat : Int) = _
  rw [BitVec.toNat_xor, h1, h2, IntKind.wrap_u8]
  omega

set_option maxRecDepth 100000 in
set_option maxHeartbeats 2000000 in
theorem turned_walk (x y at' by' : Int) (v : Value) (xs : List Int) (w : World) (hx : I64 x) (hy : I64 y) (ha : I64 at') (hb : I64 by') (hv : Ints w.heap.size w v xs) (hxs : ∀ c ∈ xs, I64 c) (hxl : xs.length ≤ 9223372036854775807) :
    Calls Try.prog 12 #[.int .i64 x, .int .i64 y, v, .int .i64 at', .int .i64 by'] w fun e w' => e = .returned (.bool true) ∧ w.grownBy w' none := by
  obtain ⟨a, cap, rfl⟩ := hv.slice
  have HV : Hid _ := hv
  have hn : pickN x 100 + 1 ≤ 100 := pickN_lt x 100 (by omega)
  have hz : pickN y 64 + 1 ≤ 64 := pickN_lt y 64 (by omega)
  have HM : Hid (∀ u : Unit, _) := fun _ => made_any 1 2 (pickN x 100 + 1) (pickN y 64 + 1) (.slice a xs.length cap) xs false w HV.out hxs hxl (by omega) (by omega)
  have HS : Hid (∀ W, _) := fun W => shape_any x y W hx hy
  have hwh : wellHead 1 2 ((pickN x 100 + 1 : Nat) : Int) ((pickN y 64 + 1 : Nat) : Int) = true := decide_eq_true ⟨by omega, by omega, by omega, by omega, by omega, by omega, by omega, by omega, by omega⟩
  generalize pickN x 100 + 1 = n at *
  generalize pickN y 64 + 1 = z at *
  clear hv hx hy hxs hxl
  go_enter Try.func12, Try.ntmps12
  go_wp2_with fail
  refine (HS.out _).mono ?_
  rintro e w1 ⟨rfl, rfl⟩
  go_wp2_with fail
  refine (HM.out ()).mono ?_
  rintro e w2 ⟨sv, rs, rfl, hok, -, hown, hg2⟩
  have HT : Hid (∀ u : Unit, _) := fun _ => text_good 1 2 n z sv rs w2 hown.recs hwh hok
  have hsm := serB_small 1 2 n z rs (by omega) (by omega) hok
  have HPB : Hid _ := parse_back 1 2 n z rs hwh hok
  have HTU : Hid (∀ i q, _) := turned_none 1 2 n z rs
  have G2 : Hid _ := hg2
  clear hg2 hok hown
  generalize serB 1 2 n z rs = L at *
  go_wp2_with fail
  refine (HT.out ()).mono ?_
  rintro e w3 ⟨rfl, hg3⟩
  have G3 : Hid _ := hg3
  clear hg3 HT HM HS HV
  have hL0 : (L == []) = false := by
    cases L with
    | nil => simp at hsm
    | cons _ _ => rfl
  obtain ⟨cb, W4, cs, hcv, hg4, hblk, hcl, hcs⟩ := conv_bytes2 w3 L
  have G4 : Hid _ := hg4
  have C4 : Hid (∀ j (h : j < L.length), W4.cell? ⟨w3.heap.size, j, none⟩ = some (.int .u8 (L[j].toNat : Int))) := fun j h => cell_marked hblk (hcs j h)
  have F4 : Hid (∀ j, j < L.length → W4.frozen? ⟨w3.heap.size, j, none⟩ = false) := fun j h => by
    simp only [World.frozen?, hblk]
    simp
    omega
  clear hg4 hcs hblk hcl
  go_wp2_with fail
  refine (pick_any at' L.length _ ha (by omega) (by omega)).mono ?_
  rintro e w4 ⟨rfl, rfl⟩
  have hi := pickN_lt at' L.length (by omega)
  generalize pickN at' L.length = i at *
  have HP : Hid (∀ W, _) := fun W => pick_at by' 255 255 W hb rfl (by omega) (by omega)
  have hd := pickN_lt by' 255 (by omega)
  generalize pickN by' 255 = d at *
  have c4 := C4.out i hi
  have f4 := F4.out i hi
  obtain ⟨q, hq⟩ : ∃ q : UInt8, q = UInt8.ofNat (L[i].toNat ^^^ (1 + d)) := ⟨_, rfl⟩
  have hxl : L[i].toNat ^^^ (1 + d) < 2 ^ 8 := Nat.xor_lt_two_pow (by have := L[i].toNat_lt; omega) (by omega)
  have hqn : q.toNat = L[i].toNat ^^^ (1 + d) := by
    rw [hq, UInt8.toNat_ofNat']
    omega
  have hne : q ≠ L[i] := by
    rintro rfl
    have h0 : L[i].toNat ^^^ (1 + d) = L[i].toNat ^^^ 0 := by rw [← hqn, Nat.xor_zero]
    have := xor_cancel_left h0
    omega
  have ex : bits .xor .u8 (L[i].toNat : Int) (IntKind.u8.wrap (IntKind.i64.wrap (1 + (d : Int)))) = (q.toNat : Int) := by
    rw [show IntKind.u8.wrap (IntKind.i64.wrap (1 + (d : Int))) = ((1 + d : Nat) : Int) from by rw [IntKind.wrap_i64, IntKind.wrap_u8]; omega, u8_xor_nat _ _ L[i].toNat_lt (by omega), hqn]
  obtain ⟨kt, hkt⟩ := HTU.out i q hi hne
  have HKT : Hid _ := hkt
  have hke := parse_err _ kt hkt
  have e1 : (kt != 0) = true := by simp; omega
  have HCV : Hid (∀ W, (w4.setCell ⟨w3.heap.size, i, none⟩ (.int .u8 (q.toNat : Int))).drew.grownBy W none → (convert 72 9 (.slice (some ⟨w3.heap.size, 0, none⟩) L.length cb)).run Try.prog W = .ok (.string ⟨(L.set i q).toArray⟩) W) := by
    intro W hW
    have h := conv_cells W w3.heap.size cb (L.set i q) ?_
    · rw [List.length_set] at h
      exact h
    · intro j hj
      rw [List.length_set] at hj
      have hlt4 : w3.heap.size < w4.heap.size := World.block_lt_of_cell? w4 _ c4
      have hblk := hW.block w3.heap.size (by simpa [World.drew] using hlt4) (by simp)
      rw [World.cell?_of_block (w := (w4.setCell ⟨w3.heap.size, i, none⟩ (.int .u8 (q.toNat : Int))).drew) (w' := W) hblk]
      show (w4.setCell ⟨w3.heap.size, i, none⟩ (.int .u8 (q.toNat : Int))).cell? _ = _
      by_cases hji : j = i
      · subst hji
        rw [World.cell?_setCell_same (h := c4), List.getElem_set_self]
      · rw [World.cell?_setCell_other (h := fun e => hji (by simp only [Addr.mk.injEq] at e; omega)), List.getElem_set_ne (by omega)]
        exact C4.out j hj
  have HG5 : Hid (w1.grownBy (w4.setCell ⟨w3.heap.size, i, none⟩ (.int .u8 (q.toNat : Int))).drew none) := by
    have h := gtrans G2.out G3.out
    exact gtrans (gfresh (k := w3.heap.size) (gtrans h G4.out) h.size) (drew_grown _ 1 none)
  have HPA : Hid (∀ W, _) := fun W => pparse L W (by omega)
  have HPS : Hid (∀ W, _) := fun W => pparse (L.set i q) W (by rw [List.length_set]; omega)
  clear hq hxl hqn hne hkt hke HTU C4 F4 hcv
  go_wp2_with fail
  go_region_with (go_at_call 40; refine (HP.out _).mono ?_; rintro e w5 ⟨rfl, rfl⟩)
  all_goals
    generalize (w4.setCell ⟨w3.heap.size, i, none⟩ (.int .u8 (q.toNat : Int))).drew = W5 at *
    go_wp2_with fail
    refine (HPA.out _).mono ?_
    rintro e w6 ⟨hg6, (⟨k6, hk, rfl⟩ | ⟨f6, t6, b6, z6, rs6, v6, hk, rfl, hown⟩)⟩
    · rw [HPB.out] at hk
      cases hk
    obtain ⟨a6, l6, c6, rfl⟩ := hown.slice
    have hcv6 := HCV.out (w6.alloc (.cells #[.int .i64 (f6 : Nat), .int .i64 (t6 : Nat), .int .i64 (b6 : Nat), .int .i64 (z6 : Nat), .slice a6 l6 c6] 24)) (gallocR hg6 _)
    have G6 : Hid _ := hg6
    clear hg6 hk hown
    go_wp2_with fail
    refine (HPS.out _).mono ?_
    rintro e w7 ⟨hg7, (⟨k7, hk, rfl⟩ | ⟨f7, t7, b7, z7, rs7, v7, hk, rfl, hown⟩)⟩
    · rw [HKT.out] at hk
      cases hk
      have G7 : Hid _ := hg7
      clear hg7
      go_wp2
      go_ret
      exact ⟨rfl, gallocR (gtrans HG5.out (gtrans (gallocR G6.out _) G7.out)) _⟩
    · rw [HKT.out] at hk
      cases hk
end Go.Proofs.Ytdjmhagclcfnfaa
/- strandkeep's sameStream of any two streams with one head. -/
namespace Go.Proofs.Ytdjmhagclcfnfaa
open Go.RowKit Go.Shelf

theorem take_next {l m : List Rc} {k : Nat} (h : k < l.length) (h' : k < m.length) (e : l.take k = m.take k) (hx : l[k] = m[k]) : l.take (k + 1) = m.take (k + 1) := by
  rw [List.take_succ_eq_append_getElem h, List.take_succ_eq_append_getElem h', e, hx]
theorem rc_ext {r s : Rc} (h0 : r.free = s.free) (h1 : r.block = s.block) (h2 : r.data = s.data) : r = s := by
  cases r; cases s; simp_all

set_option maxRecDepth 100000 in
set_option maxHeartbeats 2000000 in
theorem ksame_any (f t b z : Int) (sv sv' : Value) (rs rs' : List Rc) (w : World) (hR : Recs w.heap.size w sv rs) (hR' : Recs w.heap.size w sv' rs') (_hlen : rs.length ≤ 1000000) (_hlen' : rs'.length ≤ 1000000) :
    Calls Try.prog 43 #[.agg #[.int .i64 f, .int .i64 t, .int .i64 b, .int .i64 z, sv], .agg #[.int .i64 f, .int .i64 t, .int .i64 b, .int .i64 z, sv']] w fun e w' => ∃ o : Bool, e = .returned (.bool o) ∧ (o = true ↔ rs = rs') ∧ w.grownBy w' none := by
  obtain ⟨a, c, rfl⟩ := hR.slice
  obtain ⟨a', c', rfl⟩ := hR'.slice
  go_enter Try.func43, Try.ntmps43
  by_cases hl : rs.length = rs'.length
  · have hR0 : ∃ n, n = rs.length ∧ n = rs'.length := ⟨_, rfl, hl⟩
    obtain ⟨n0, e1, e2⟩ := hR0
    rw [← e1] at hR _hlen
    rw [← e2] at hR'
    rw [← e1, ← e2]
    have hl1 : rs.length = n0 := e1.symm
    have hl2 : rs'.length = n0 := e2.symm
    clear e1 e2 hl
    go_wp2
    obtain ⟨h1, h2, hB⟩ := two_boxes w #[.int .i64 f, .int .i64 t, .int .i64 b, .int .i64 z, .slice a n0 c] #[.int .i64 f, .int .i64 t, .int .i64 b, .int .i64 z, .slice a' n0 c'] 24
    replace hR := hR.moved hB
    replace hR' := hR'.moved hB
    generalize (w.alloc (.cells #[.int .i64 f, .int .i64 t, .int .i64 b, .int .i64 z, .slice a n0 c] 24)).alloc (.cells #[.int .i64 f, .int .i64 t, .int .i64 b, .int .i64 z, .slice a' n0 c'] 24) = W0 at *
    obtain ⟨x0, x1, x2, x3, x4, -⟩ := box5 h1
    obtain ⟨y0, y1, y2, y3, y4, -⟩ := box5 h2
    have HB : Hid _ := hB
    have HR : Hid _ := hR
    have HR' : Hid _ := hR'
    clear h1 h2 hB hR hR'
    go_loopw [5] (fun i wr => ∃ k : Nat, k ≤ n0 ∧ i = .int .i64 k ∧ rs.take k = rs'.take k ∧ ∃ n, wr = W0.drewN n) (fun i _ => n0 - (intOf i).toNat)
    case atStart => exact ⟨0, Nat.zero_le _, rfl, by simp, 0, rfl⟩
    case round =>
      obtain ⟨k, hk, rfl, htk, n, rfl⟩ := hrel
      by_cases hlt : k < n0
      · obtain ⟨b1, off, ha, hb, q0, q1, q2⟩ := Recs.at HR.out (show k < rs.length by omega)
        obtain ⟨b', off', ha', hb', q0', q1', q2'⟩ := Recs.at HR'.out (show k < rs'.length by omega)
        subst ha
        subst ha'
        have HNX : Hid (rs[k] = rs'[k] → rs.take (k + 1) = rs'.take (k + 1)) := fun e => take_next (by omega) (by omega) htk e
        have HNE : Hid (rs[k] ≠ rs'[k] → rs ≠ rs') := fun e h => e (by simp only [h])
        clear htk
        generalize rs[k] = r at *
        generalize rs'[k] = r' at *
        by_cases hrr : r = r'
        · have HNX2 : Hid (rs.take (k + 1) = rs'.take (k + 1)) := HNX.out hrr
          clear HNX HNE
          subst hrr
          go_wp2
          go_quiet (fail)
          go_wp2
          go_roundw
          case rel => exact ⟨k + 1, by omega, by go_num, HNX2.out, _, rfl⟩
          case measure => simp [intOf]; omega
        · have HNE2 : Hid (rs ≠ rs') := HNE.out hrr
          clear HNX HNE
          obtain ⟨f1, p1, d1⟩ := r
          obtain ⟨f2, p2, d2⟩ := r'
          simp only at *
          by_cases h0 : f1 = f2
          · subst h0
            by_cases h1 : p1 = p2
            · subst h1
              have h2 : d1 ≠ d2 := fun e => hrr (by rw [e])
              have e3 : (d1.toList == d2.toList) = false := by
                rw [beq_eq_false_iff_ne]
                intro e
                rw [ByteArray.toList_eq, ByteArray.toList_eq] at e
                exact h2 (ByteArray.ext (Array.toList_inj.1 e))
              clear h2 hrr
              go_wp2
              go_quiet (fail)
              go_wp2
              go_ret
              exact ⟨false, rfl, ⟨(fun h => by cases h), fun h => absurd h HNE2.out⟩, gdrewR (gdrewR (gbelow HB.out) n) _⟩
            · have e1 : (p1 == p2) = false := by simp [h1]
              clear hrr
              go_wp2
              go_quiet (fail)
              go_wp2
              go_ret
              exact ⟨false, rfl, ⟨(fun h => by cases h), fun h => absurd h HNE2.out⟩, gdrewR (gdrewR (gbelow HB.out) n) _⟩
          · clear hrr
            have e0 : (f1 == f2) = false := by simp [h0]
            go_wp2
            go_quiet (fail)
            go_wp2
            go_ret
            exact ⟨false, rfl, ⟨(fun h => by cases h), fun h => absurd h HNE2.out⟩, gdrewR (gdrewR (gbelow HB.out) n) _⟩
      · go_wp2
        go_ret
        refine ⟨true, rfl, ⟨fun _ => ?_, fun _ => rfl⟩, gdrewR (gbelow HB.out) n⟩
        rw [List.take_of_length_le (by omega), List.take_of_length_le (by omega)] at htk
        exact htk
  · have hne : ((rs.length : Int) != (rs'.length : Int)) = true := by simp; omega
    go_wp2
    go_ret
    refine ⟨false, rfl, ⟨(fun h => by cases h), fun h => absurd (congrArg List.length h) hl⟩, ?_⟩
    exact gallocR (galloc _ _ _) _
end Go.Proofs.Ytdjmhagclcfnfaa
/- The walk of Back. -/
namespace Go.Proofs.Ytdjmhagclcfnfaa
open Go.RowKit Go.Shelf

theorem Ints.mono {B B' : Nat} {W : World} {v : Value} {xs : List Int} (h : Ints B W v xs) (hB : B ≤ B') : Ints B' W v xs := by
  rcases h with h | ⟨b, o, cap, e, hlt, hc⟩
  · exact .inl h
  · exact .inr ⟨b, o, cap, e, Nat.lt_of_lt_of_le hlt hB, hc⟩

/-- All of the texts of two streams with one head. -/
theorem text_two (f t : Int) (n z : Nat) (rs us : List Rc) (hw : wellHead f t n z = true) (ho : recsOk n z (-1) rs = true) (hu : recsOk n z (-1) us = true) :
    ∃ L M : List UInt8, (∀ sv w, Recs w.heap.size w sv rs → Calls Try.prog 42 #[.agg #[.int .i64 f, .int .i64 t, .int .i64 n, .int .i64 z, sv]] w fun e w' => e = .returned (.string ⟨L.toArray⟩) ∧ w.grownBy w' none) ∧
      (∀ sv w, Recs w.heap.size w sv us → Calls Try.prog 42 #[.agg #[.int .i64 f, .int .i64 t, .int .i64 n, .int .i64 z, sv]] w fun e w' => e = .returned (.string ⟨M.toArray⟩) ∧ w.grownBy w' none) ∧
      22 ≤ L.length ∧ L.length ≤ 10000 ∧ (M = L ↔ rs = us) ∧ (∃ F T : Nat, (F : Int) = f ∧ (T : Int) = t ∧ parseR L = .inr (F, T, n, z, rs)) ∧ (∀ c, c < L.length → parseR (L.take c) = .inl 2) ∧ parseR (L ++ [0]) = .inl 8 ∧ rs.length ≤ 100 ∧ us.length ≤ 100 := by
  have hw' := hw
  obtain ⟨h1, h2, h3, h4, h5, h6, h7, h8, h9⟩ : (0 : Int) ≤ f ∧ f ≤ 2147483647 ∧ (1 : Int) ≤ t ∧ t ≤ 2147483647 ∧ f ≠ t ∧ (1 : Int) ≤ n ∧ (n : Int) ≤ 100 ∧ (1 : Int) ≤ z ∧ (z : Int) ≤ 64 := of_decide_eq_true hw
  obtain ⟨F, rfl⟩ := Int.eq_ofNat_of_zero_le h1
  obtain ⟨T, rfl⟩ := Int.eq_ofNat_of_zero_le (show 0 ≤ t by omega)
  have hr := recsOk_length n z rs ho (by omega)
  have hr' := recsOk_length n z us hu (by omega)
  obtain ⟨a1, a2⟩ := serB_small F T n z rs (by omega) (by omega) ho
  refine ⟨serB F T n z rs, serB F T n z us, fun sv w h => text_good F T n z sv rs w h hw' ho, fun sv w h => text_good F T n z sv us w h hw' hu, a1, a2, ⟨fun e => ser_inj F T n z rs us hw' ho hu e, fun e => by rw [e]⟩, ⟨F, T, rfl, rfl, parse_back F T n z rs hw' ho⟩, fun c hc => parse_short F T n z rs hw' ho c hc, parse_more F T n z rs hw' ho 0, by omega, by omega⟩

set_option maxRecDepth 100000 in
set_option maxHeartbeats 2000000 in
theorem back_walk (fr to x y cut : Int) (v u : Value) (xs us : List Int) (w : World) (hfr : I64 fr) (hto : I64 to) (hx : I64 x) (hy : I64 y) (hcut : I64 cut) (hv : Ints w.heap.size w v xs) (hxs : ∀ c ∈ xs, I64 c) (hxl : xs.length ≤ 9223372036854775807) (hu : Ints w.heap.size w u us) (hus : ∀ c ∈ us, I64 c) (hul : us.length ≤ 9223372036854775807) :
    Calls Try.prog 10 #[.int .i64 fr, .int .i64 to, .int .i64 x, .int .i64 y, v, u, .int .i64 cut] w fun e w' => e = .returned (.bool true) ∧ w.grownBy w' none := by
  obtain ⟨av, cv, rfl⟩ := hv.slice
  obtain ⟨au, cu, rfl⟩ := hu.slice
  have hn : pickN x 100 + 1 ≤ 100 := pickN_lt x 100 (by omega)
  have hz : pickN y 64 + 1 ≤ 64 := pickN_lt y 64 (by omega)
  have HS : Hid (∀ W, _) := fun W => shape_any x y W hx hy
  have hn1 : 1 ≤ pickN x 100 + 1 := by omega
  have hz1 : 1 ≤ pickN y 64 + 1 := by omega
  generalize pickN x 100 + 1 = n at *
  generalize pickN y 64 + 1 = z at *
  have HPF : Hid (∀ W, _) := fun W => pick_at fr 2147483647 2147483647 W hfr rfl (by omega) (by omega)
  have HPT : Hid (∀ W, _) := fun W => pick_at to 2147483647 2147483647 W hto rfl (by omega) (by omega)
  have hpf := pickN_lt fr 2147483647 (by omega)
  have hpt := pickN_lt to 2147483647 (by omega)
  generalize pickN fr 2147483647 = pf at *
  generalize pickN to 2147483647 = pt at *
  have HV : Hid (∀ (A B : Int) (W : World), Below w.heap.size w W → _) := fun A B W hW => made_any A B n z (.slice av xs.length cv) xs false W ((hv.below hW).mono hW.size) hxs hxl hn hz
  have HU : Hid (∀ (A B : Int) (W : World), Below w.heap.size w W → _) := fun A B W hW => made_any A B n z (.slice au us.length cu) us false W ((hu.below hW).mono hW.size) hus hul hn hz
  clear hx hy hv hu hxs hus hxl hul hfr hto
  go_enter Try.func10, Try.ntmps10
  go_wp2_with fail
  refine (HS.out _).mono ?_
  rintro e w1 ⟨rfl, rfl⟩
  go_wp2_with fail
  refine (HPF.out _).mono ?_
  rintro e w2 ⟨rfl, rfl⟩
  go_wp2_with fail
  refine (HPT.out _).mono ?_
  rintro e w0 ⟨rfl, rfl⟩
  clear HS HPF HPT
  have hb1 : (1 : Int) ≤ n := by omega
  have hb2 : (1 : Int) ≤ z := by omega
  have hwe : ∀ A : Int, 0 ≤ A → A ≤ 2147483647 → A ≠ 1 + (pt : Int) → wellHead A (1 + (pt : Int)) n z = true := fun A h1 h2 h3 => decide_eq_true ⟨h1, h2, by omega, by omega, h3, hb1, by omega, hb2, by omega⟩
  by_cases hab : pf = pt + 1
  · have hwell := hwe 0 (by omega) (by omega) (by omega)
    clear hwe
    subst hab
    go_wp2_with fail
    refine (HV.out _ _ _ (Below.refl _ _)).mono ?_
    rintro e w1 ⟨sv, rs, rfl, hok, -, ho1, hg1⟩
    obtain ⟨a1, l1, c1, rfl⟩ := ho1.slice
    obtain ⟨W1, hW1⟩ : ∃ W1, W1 = w1.alloc (.cells #[.int .i64 0, .int .i64 (1 + (pt : Int)), .int .i64 n, .int .i64 z, .slice a1 l1 c1] 24) := ⟨_, rfl⟩
    have s1 : Hid (W1.heap[w1.heap.size]? = some (.cells #[.int .i64 0, .int .i64 (1 + (pt : Int)), .int .i64 n, .int .i64 z, .slice a1 l1 c1] 24 (0, 0))) := by rw [hW1]; exact World.alloc_heap_new _ _
    have g1 : Hid (w0.grownBy W1 none) := by rw [hW1]; exact gallocR hg1 _
    have R1 : Hid (Recs W1.heap.size W1 (.slice a1 l1 c1) rs) := by rw [hW1]; exact (OwnsR.alloc ho1 _).recs
    have y1 : w1.heap.size < W1.heap.size := by rw [hW1]; simp
    clear hg1 ho1
    go_wp2_with fail
    rw [← hW1]
    clear hW1
    refine (HU.out _ _ _ (below_of_grown g1.out)).mono ?_
    rintro e w2 ⟨su, ts, rfl, hou, -, ho2, hg2⟩
    obtain ⟨a2, l2, c2, rfl⟩ := ho2.slice
    obtain ⟨W2, hW2⟩ : ∃ W2, W2 = w2.alloc (.cells #[.int .i64 0, .int .i64 (1 + (pt : Int)), .int .i64 n, .int .i64 z, .slice a2 l2 c2] 24) := ⟨_, rfl⟩
    have u2 : Hid (W2.heap[w2.heap.size]? = some (.cells #[.int .i64 0, .int .i64 (1 + (pt : Int)), .int .i64 n, .int .i64 z, .slice a2 l2 c2] 24 (0, 0))) := by rw [hW2]; exact World.alloc_heap_new _ _
    have g12 : Hid (W1.grownBy W2 none) := by rw [hW2]; exact gallocR hg2 _
    have R2 : Hid (Recs W2.heap.size W2 (.slice a2 l2 c2) ts) := by rw [hW2]; exact (OwnsR.alloc ho2 _).recs
    have SB : Hid (∀ W, W2.grownBy W none → W.heap[w1.heap.size]? = some (.cells #[.int .i64 0, .int .i64 (1 + (pt : Int)), .int .i64 n, .int .i64 z, .slice a1 l1 c1] 24 (0, 0))) := fun W h => (box_kept s1.out (gtrans g12.out h)).1
    have UB : Hid (∀ W, W2.grownBy W none → W.heap[w2.heap.size]? = some (.cells #[.int .i64 0, .int .i64 (1 + (pt : Int)), .int .i64 n, .int .i64 z, .slice a2 l2 c2] 24 (0, 0))) := fun W h => (box_kept u2.out h).1
    have RS : Hid (∀ W, W2.grownBy W none → Recs W.heap.size W (.slice a1 l1 c1) rs) := fun W h => Recs.moved R1.out (below_of_grown (gtrans g12.out h))
    have RU : Hid (∀ W, W2.grownBy W none → Recs W.heap.size W (.slice a2 l2 c2) ts) := fun W h => Recs.moved R2.out (below_of_grown h)
    have G2 : Hid (w0.grownBy W2 none) := gtrans g1.out g12.out
    have G0 : Hid (W2.grownBy W2 none) := ⟨rfl, rfl, rfl, Nat.le_refl _, fun _ _ _ => rfl⟩
    have y2 : w1.heap.size < w2.heap.size := Nat.lt_of_lt_of_le y1 hg2.size
    have y3 : w2.heap.size < W2.heap.size := by rw [hW2]; simp
    obtain ⟨L, M, hT, hM, hL1, hL2, hLM, ⟨F, T, hF, hT', hPB⟩, hPS, hPM, hrl, hul⟩ := text_two _ _ n z rs ts hwell hok hou
    have HT : Hid (∀ u : Unit, _) := fun _ => hT (.slice a1 l1 c1) W2 (RS.out _ G0.out)
    have HM : Hid (∀ W, W2.grownBy W none → _) := fun W h => hM (.slice a2 l2 c2) W (RU.out _ h)
    have HPB : Hid _ := hPB
    have HPS : Hid _ := hPS
    have HPM : Hid _ := hPM
    have HLM : Hid _ := hLM
    have HPA : Hid (∀ W, _) := fun W => pparse L W (by omega)
    obtain ⟨q0, q1, q2, q3, q4, -⟩ := box5 (box_kept s1.out hg2).1
    clear hg2 ho2 hT hM hPB hPS hPM hLM s1 u2 g1 g12 R1 R2 hwell hok hou HV HU
    go_wp2_with fail
    rw [← hW2]
    clear hW2 q0 q1 q2 q3 q4
    refine (HT.out ()).mono ?_
    rintro e w3 ⟨rfl, g3⟩
    have G3 : Hid _ := g3
    clear g3 HT
    go_wp2_with fail
    refine (HPA.out _).mono ?_
    rintro e w4 ⟨hg4, (⟨k4, hk, rfl⟩ | ⟨f4, t4, b4, z4, rs4, v4, hk, rfl, hown⟩)⟩
    · rw [HPB.out] at hk
      cases hk
    rw [HPB.out] at hk
    simp only [Sum.inr.injEq, Prod.mk.injEq] at hk
    obtain ⟨rfl, rfl, rfl, rfl, rfl⟩ := hk
    rw [hF, hT']
    obtain ⟨a4, l4, c4, rfl⟩ := hown.slice
    obtain ⟨W4, hW4⟩ : ∃ W4, W4 = w4.alloc (.cells #[.int .i64 0, .int .i64 (1 + (pt : Int)), .int .i64 n, .int .i64 z, .slice a4 l4 c4] 24) := ⟨_, rfl⟩
    have G4 : Hid (W2.grownBy W4 none) := by rw [hW4]; exact gallocR (gtrans G3.out hg4) _
    have R4 : Hid (Recs W4.heap.size W4 (.slice a4 l4 c4) rs) := by rw [hW4]; exact (OwnsR.alloc hown _).recs
    have y4 : w1.heap.size < w4.heap.size := by have h1 := G3.out.size; have h2 := hg4.size; omega
    obtain ⟨q0, q1, q2, q3, q4, -⟩ := box5 (SB.out w4 (gtrans G3.out hg4))
    clear hg4 hown HPB
    go_wp2_with fail
    rw [← hW4]
    clear hW4 q0 q1 q2 q3 q4
    refine (ksame_eq _ _ _ _ _ _ rs W4 R4.out (RS.out _ G4.out) (by omega)).mono ?_
    rintro e w5 ⟨rfl, g5⟩
    have G5 : Hid (W2.grownBy w5 none) := gtrans G4.out g5
    obtain ⟨q0, q1, q2, q3, q4, -⟩ := box5 (SB.out w5 G5.out)
    obtain ⟨r0, r1, r2, r3, r4, -⟩ := box5 (UB.out w5 G5.out)
    have hL0 : (L == []) = false := by
      cases L with
      | nil => simp at hL1
      | cons _ _ => rfl
    clear g5 R4
    go_wp2_with fail
    refine (ksame_any _ _ _ _ _ _ rs ts w5 (RS.out _ G5.out) (RU.out _ G5.out) (by omega) (by omega)).mono ?_
    rintro e w6 ⟨o, rfl, ho6, g6⟩
    have G6 : Hid (W2.grownBy w6 none) := gtrans G5.out g6
    clear q0 q1 q2 q3 q4 r0 r1 r2 r3 r4 g6
    obtain ⟨r0, r1, r2, r3, r4, -⟩ := box5 (UB.out w6 G6.out)
    go_wp2_with fail
    refine (HM.out _ G6.out).mono ?_
    rintro e w7 ⟨rfl, g7⟩
    have G7 : Hid (W2.grownBy w7 none) := gtrans G6.out g7
    have hcmp : (M == L) = o := by
      rw [Bool.eq_iff_iff, ho6, ← HLM.out]
      simp
    clear r0 r1 r2 r3 r4 g7 ho6 HLM
    have hoo : (o != o) = false := by simp
    go_wp2_with fail
    refine (pick_any cut L.length _ hcut (by omega) (by omega)).mono ?_
    rintro e w8 ⟨rfl, rfl⟩
    have hcl := pickN_lt cut L.length (by omega)
    generalize pickN cut L.length = c at *
    have HPC : Hid (∀ W, _) := fun W => pparse (L.take c) W (by rw [List.length_take]; omega)
    have HPD : Hid (∀ W, _) := fun W => pparse (L ++ [0]) W (by rw [List.length_append]; simp; omega)
    have HPS2 : Hid _ := HPS.out c hcl
    have ex1 : (⟨L.toArray⟩ : ByteArray).extract 0 c = ⟨(L.take c).toArray⟩ := by
      apply ByteArray.ext
      rw [← Array.toList_inj, Lib.extract_data]
      simp
    have ex2 : (⟨L.toArray⟩ : ByteArray) ++ ⟨#[0]⟩ = ⟨(L ++ [0]).toArray⟩ := by
      apply ByteArray.ext
      simp
    go_wp2_with fail
    refine (HPC.out _).mono ?_
    rintro e w9 ⟨hg9, (⟨k9, hk, rfl⟩ | ⟨f9, t9, b9, z9, rs9, v9, hk, rfl, hown⟩)⟩
    rotate_left
    · rw [HPS2.out] at hk
      cases hk
    rw [HPS2.out] at hk
    cases hk
    have G9 : Hid (w0.grownBy w9 none) := gtrans G2.out (gtrans G7.out hg9)
    clear hg9
    go_wp2_with fail
    refine (HPD.out _).mono ?_
    rintro e w10 ⟨hg10, (⟨k10, hk, rfl⟩ | ⟨f10, t10, b10, z10, rs10, v10, hk, rfl, hown⟩)⟩
    rotate_left
    · rw [HPM.out] at hk
      cases hk
    rw [HPM.out] at hk
    cases hk
    have G10 : Hid _ := hg10
    clear hg10
    go_wp2
    go_ret
    exact ⟨rfl, gallocR (gtrans (gallocR G9.out _) G10.out) _⟩
  · have hwell := hwe pf (by omega) (by omega) (by omega)
    clear hwe
    go_wp2_with fail
    refine (HV.out _ _ _ (Below.refl _ _)).mono ?_
    rintro e w1 ⟨sv, rs, rfl, hok, -, ho1, hg1⟩
    obtain ⟨a1, l1, c1, rfl⟩ := ho1.slice
    obtain ⟨W1, hW1⟩ : ∃ W1, W1 = w1.alloc (.cells #[.int .i64 (pf : Int), .int .i64 (1 + (pt : Int)), .int .i64 n, .int .i64 z, .slice a1 l1 c1] 24) := ⟨_, rfl⟩
    have s1 : Hid (W1.heap[w1.heap.size]? = some (.cells #[.int .i64 (pf : Int), .int .i64 (1 + (pt : Int)), .int .i64 n, .int .i64 z, .slice a1 l1 c1] 24 (0, 0))) := by rw [hW1]; exact World.alloc_heap_new _ _
    have g1 : Hid (w0.grownBy W1 none) := by rw [hW1]; exact gallocR hg1 _
    have R1 : Hid (Recs W1.heap.size W1 (.slice a1 l1 c1) rs) := by rw [hW1]; exact (OwnsR.alloc ho1 _).recs
    have y1 : w1.heap.size < W1.heap.size := by rw [hW1]; simp
    clear hg1 ho1
    go_wp2_with fail
    rw [← hW1]
    clear hW1
    refine (HU.out _ _ _ (below_of_grown g1.out)).mono ?_
    rintro e w2 ⟨su, ts, rfl, hou, -, ho2, hg2⟩
    obtain ⟨a2, l2, c2, rfl⟩ := ho2.slice
    obtain ⟨W2, hW2⟩ : ∃ W2, W2 = w2.alloc (.cells #[.int .i64 (pf : Int), .int .i64 (1 + (pt : Int)), .int .i64 n, .int .i64 z, .slice a2 l2 c2] 24) := ⟨_, rfl⟩
    have u2 : Hid (W2.heap[w2.heap.size]? = some (.cells #[.int .i64 (pf : Int), .int .i64 (1 + (pt : Int)), .int .i64 n, .int .i64 z, .slice a2 l2 c2] 24 (0, 0))) := by rw [hW2]; exact World.alloc_heap_new _ _
    have g12 : Hid (W1.grownBy W2 none) := by rw [hW2]; exact gallocR hg2 _
    have R2 : Hid (Recs W2.heap.size W2 (.slice a2 l2 c2) ts) := by rw [hW2]; exact (OwnsR.alloc ho2 _).recs
    have SB : Hid (∀ W, W2.grownBy W none → W.heap[w1.heap.size]? = some (.cells #[.int .i64 (pf : Int), .int .i64 (1 + (pt : Int)), .int .i64 n, .int .i64 z, .slice a1 l1 c1] 24 (0, 0))) := fun W h => (box_kept s1.out (gtrans g12.out h)).1
    have UB : Hid (∀ W, W2.grownBy W none → W.heap[w2.heap.size]? = some (.cells #[.int .i64 (pf : Int), .int .i64 (1 + (pt : Int)), .int .i64 n, .int .i64 z, .slice a2 l2 c2] 24 (0, 0))) := fun W h => (box_kept u2.out h).1
    have RS : Hid (∀ W, W2.grownBy W none → Recs W.heap.size W (.slice a1 l1 c1) rs) := fun W h => Recs.moved R1.out (below_of_grown (gtrans g12.out h))
    have RU : Hid (∀ W, W2.grownBy W none → Recs W.heap.size W (.slice a2 l2 c2) ts) := fun W h => Recs.moved R2.out (below_of_grown h)
    have G2 : Hid (w0.grownBy W2 none) := gtrans g1.out g12.out
    have G0 : Hid (W2.grownBy W2 none) := ⟨rfl, rfl, rfl, Nat.le_refl _, fun _ _ _ => rfl⟩
    have y2 : w1.heap.size < w2.heap.size := Nat.lt_of_lt_of_le y1 hg2.size
    have y3 : w2.heap.size < W2.heap.size := by rw [hW2]; simp
    obtain ⟨L, M, hT, hM, hL1, hL2, hLM, ⟨F, T, hF, hT', hPB⟩, hPS, hPM, hrl, hul⟩ := text_two _ _ n z rs ts hwell hok hou
    have HT : Hid (∀ u : Unit, _) := fun _ => hT (.slice a1 l1 c1) W2 (RS.out _ G0.out)
    have HM : Hid (∀ W, W2.grownBy W none → _) := fun W h => hM (.slice a2 l2 c2) W (RU.out _ h)
    have HPB : Hid _ := hPB
    have HPS : Hid _ := hPS
    have HPM : Hid _ := hPM
    have HLM : Hid _ := hLM
    have HPA : Hid (∀ W, _) := fun W => pparse L W (by omega)
    obtain ⟨q0, q1, q2, q3, q4, -⟩ := box5 (box_kept s1.out hg2).1
    clear hg2 ho2 hT hM hPB hPS hPM hLM s1 u2 g1 g12 R1 R2 hwell hok hou HV HU
    go_wp2_with fail
    rw [← hW2]
    clear hW2 q0 q1 q2 q3 q4
    refine (HT.out ()).mono ?_
    rintro e w3 ⟨rfl, g3⟩
    have G3 : Hid _ := g3
    clear g3 HT
    go_wp2_with fail
    refine (HPA.out _).mono ?_
    rintro e w4 ⟨hg4, (⟨k4, hk, rfl⟩ | ⟨f4, t4, b4, z4, rs4, v4, hk, rfl, hown⟩)⟩
    · rw [HPB.out] at hk
      cases hk
    rw [HPB.out] at hk
    simp only [Sum.inr.injEq, Prod.mk.injEq] at hk
    obtain ⟨rfl, rfl, rfl, rfl, rfl⟩ := hk
    rw [hF, hT']
    obtain ⟨a4, l4, c4, rfl⟩ := hown.slice
    obtain ⟨W4, hW4⟩ : ∃ W4, W4 = w4.alloc (.cells #[.int .i64 (pf : Int), .int .i64 (1 + (pt : Int)), .int .i64 n, .int .i64 z, .slice a4 l4 c4] 24) := ⟨_, rfl⟩
    have G4 : Hid (W2.grownBy W4 none) := by rw [hW4]; exact gallocR (gtrans G3.out hg4) _
    have R4 : Hid (Recs W4.heap.size W4 (.slice a4 l4 c4) rs) := by rw [hW4]; exact (OwnsR.alloc hown _).recs
    have y4 : w1.heap.size < w4.heap.size := by have h1 := G3.out.size; have h2 := hg4.size; omega
    obtain ⟨q0, q1, q2, q3, q4, -⟩ := box5 (SB.out w4 (gtrans G3.out hg4))
    clear hg4 hown HPB
    go_wp2_with fail
    rw [← hW4]
    clear hW4 q0 q1 q2 q3 q4
    refine (ksame_eq _ _ _ _ _ _ rs W4 R4.out (RS.out _ G4.out) (by omega)).mono ?_
    rintro e w5 ⟨rfl, g5⟩
    have G5 : Hid (W2.grownBy w5 none) := gtrans G4.out g5
    obtain ⟨q0, q1, q2, q3, q4, -⟩ := box5 (SB.out w5 G5.out)
    obtain ⟨r0, r1, r2, r3, r4, -⟩ := box5 (UB.out w5 G5.out)
    have hL0 : (L == []) = false := by
      cases L with
      | nil => simp at hL1
      | cons _ _ => rfl
    clear g5 R4
    go_wp2_with fail
    refine (ksame_any _ _ _ _ _ _ rs ts w5 (RS.out _ G5.out) (RU.out _ G5.out) (by omega) (by omega)).mono ?_
    rintro e w6 ⟨o, rfl, ho6, g6⟩
    have G6 : Hid (W2.grownBy w6 none) := gtrans G5.out g6
    clear q0 q1 q2 q3 q4 r0 r1 r2 r3 r4 g6
    obtain ⟨r0, r1, r2, r3, r4, -⟩ := box5 (UB.out w6 G6.out)
    go_wp2_with fail
    refine (HM.out _ G6.out).mono ?_
    rintro e w7 ⟨rfl, g7⟩
    have G7 : Hid (W2.grownBy w7 none) := gtrans G6.out g7
    have hcmp : (M == L) = o := by
      rw [Bool.eq_iff_iff, ho6, ← HLM.out]
      simp
    clear r0 r1 r2 r3 r4 g7 ho6 HLM
    have hoo : (o != o) = false := by simp
    go_wp2_with fail
    refine (pick_any cut L.length _ hcut (by omega) (by omega)).mono ?_
    rintro e w8 ⟨rfl, rfl⟩
    have hcl := pickN_lt cut L.length (by omega)
    generalize pickN cut L.length = c at *
    have HPC : Hid (∀ W, _) := fun W => pparse (L.take c) W (by rw [List.length_take]; omega)
    have HPD : Hid (∀ W, _) := fun W => pparse (L ++ [0]) W (by rw [List.length_append]; simp; omega)
    have HPS2 : Hid _ := HPS.out c hcl
    have ex1 : (⟨L.toArray⟩ : ByteArray).extract 0 c = ⟨(L.take c).toArray⟩ := by
      apply ByteArray.ext
      rw [← Array.toList_inj, Lib.extract_data]
      simp
    have ex2 : (⟨L.toArray⟩ : ByteArray) ++ ⟨#[0]⟩ = ⟨(L ++ [0]).toArray⟩ := by
      apply ByteArray.ext
      simp
    go_wp2_with fail
    refine (HPC.out _).mono ?_
    rintro e w9 ⟨hg9, (⟨k9, hk, rfl⟩ | ⟨f9, t9, b9, z9, rs9, v9, hk, rfl, hown⟩)⟩
    rotate_left
    · rw [HPS2.out] at hk
      cases hk
    rw [HPS2.out] at hk
    cases hk
    have G9 : Hid (w0.grownBy w9 none) := gtrans G2.out (gtrans G7.out hg9)
    clear hg9
    go_wp2_with fail
    refine (HPD.out _).mono ?_
    rintro e w10 ⟨hg10, (⟨k10, hk, rfl⟩ | ⟨f10, t10, b10, z10, rs10, v10, hk, rfl, hown⟩)⟩
    rotate_left
    · rw [HPM.out] at hk
      cases hk
    rw [HPM.out] at hk
    cases hk
    have G10 : Hid _ := hg10
    clear hg10
    go_wp2
    go_ret
    exact ⟨rfl, gallocR (gtrans (gallocR G9.out _) G10.out) _⟩
end Go.Proofs.Ytdjmhagclcfnfaa
/- Lists of ints and ints, opened. -/
namespace Go.Proofs.Ytdjmhagclcfnfaa
open Go.ChangeShapes Go.WideShapes Go.ChangeAt Go.RowKit

theorem wf_i64 {n : Int} (h : (Lit.int .i64 n).wf = true) : I64 n := by
  simp only [Lit.wf, Bool.and_eq_true, decide_eq_true_eq] at h
  exact ⟨h.1, h.2⟩
theorem getD_at (zs : List Int) (j : Nat) (h : j < zs.length) : zs.getD j 0 = zs[j] := by
  rw [List.getD_eq_getElem?_getD, List.getElem?_eq_getElem h, Option.getD_some]
set_option maxRecDepth 100000 in
theorem open_nums {H : Type} {enc : TypeId × Value → H} {W : World} {base : Nat} {v : Value} {d : DataW H} {p : List MemPlace} (hv : Value.okWide Try.prog W .any base 64 v) (h : DataW.Trod enc Try.prog W 0 (fun _ => true) true 64 v d p) :
    ∃ xs : List Int, Ints W.heap.size W v xs ∧ (∀ x ∈ xs, I64 x) ∧ xs.length ≤ 9223372036854775807 := by
  obtain ⟨a, len, cap, rfl⟩ := okWide_slice Try.underlying64 hv
  obtain ⟨fuel, hf⟩ := h
  rcases open_ints Try.underlying64 Try.underlying3 Try.cellsInt hf with ⟨e, _⟩ | ⟨a', len', cap', zs, e, _, hl, hm, hzl, _, hc, hwf⟩
  · simp [Value.cells] at e
    obtain ⟨rfl, rfl, rfl⟩ := e
    exact ⟨[], .inl ⟨rfl, none, 0, rfl⟩, (fun x hx => by cases hx), by simp⟩
  · simp [Value.cells] at e
    obtain ⟨rfl, rfl, rfl⟩ := e
    simp only [if_true] at hzl
    have hl2 : (zs.take len).length = len := by rw [List.length_take]; omega
    have hm' : cap ≤ 9223372036854775807 := hm
    refine ⟨zs.take len, ?_, fun x hx => wf_i64 (hwf x (List.mem_of_mem_take hx)), by omega⟩
    by_cases h0 : len = 0
    · subst h0
      exact .inl ⟨by simp, some a', cap, rfl⟩
    · have c0 := hc 0 (by omega)
      obtain ⟨b, o, sp⟩ := a'
      obtain rfl : sp = none := by
        have := World.cell?_spot c0
        simpa [Addr.add] using this
      refine .inr ⟨b, o, cap, by rw [hl2], World.block_lt_of_cell? W _ c0, fun j hj => ?_⟩
      rw [hl2] at hj
      have := hc j (by omega)
      rw [Addr.add_lit, getD_at zs j (by omega)] at this
      rw [List.getElem_take]
      exact this
end Go.Proofs.Ytdjmhagclcfnfaa
/- The statement on Back. -/
namespace Go.Proofs.Ytdjmhagclcfnfaa
open Go.ChangeShapes Go.WideShapes Go.ChangeAt Go.RowKit

set_option maxRecDepth 100000 in
theorem back_lifted (os : Os) (started : os.Started) (H : Type) (enc : TypeId × Value → H) :
    ReturnsInHanded {} Try.checked os 10 .any (Rows.backSpec.pre6 enc Try.prog Try.f10 Rows.backRow.domain false) (Rows.backSpec.post enc Try.prog Try.f10 false true false false) := by
  refine returnsInHanded_of_change_sized (C := Try.checked) Try.own started (by kernel_rfl) Try.func10
    (ChangeSpec.witness6 (enc := enc) (C := Try.checked) false ⟨#[], #[.int .i64 0, .int .i64 0, .int .i64 0, .int .i64 0, .slice none 0 0, .slice none 0 0, .int .i64 0], []⟩ 8 (by kernel_rfl) (by kernel_rfl) (by kernel_rfl) (by kernel_rfl)) ?_
  intro W base args ds gs before hval0 hW _ _ _
  have hval : ∀ (j : Nat) t v, Try.f10.params[j]? = some t → args[j]? = some v → Value.okWide Try.prog W .any base t v := hval0
  have hW' := hW
  obtain ⟨p, q, hA0, hV, rfl, _, _⟩ := hW
  have hA : DataW.TrodAll enc Try.prog W 0 (fun _ => true) true Try.f10.params.toList args.toList ds p := hA0
  rw [Try.params10] at hA hval
  obtain ⟨v0, vs0, d0, ds0, p0, q0, hargs, rfl, rfl, h0, r0⟩ := trodAll_cons hA
  obtain ⟨v1, vs1, d1, ds1, p1, q1, rfl, rfl, rfl, h1, r1⟩ := trodAll_cons r0
  obtain ⟨v2, vs2, d2, ds2, p2, q2, rfl, rfl, rfl, h2, r2⟩ := trodAll_cons r1
  obtain ⟨v3, vs3, d3, ds3, p3, q3, rfl, rfl, rfl, h3, r3⟩ := trodAll_cons r2
  obtain ⟨v4, vs4, d4, ds4, p4, q4, rfl, rfl, rfl, h4, r4⟩ := trodAll_cons r3
  obtain ⟨v5, vs5, d5, ds5, p5, q5, rfl, rfl, rfl, h5, r5⟩ := trodAll_cons r4
  obtain ⟨v6, vs6, d6, ds6, p6, q6, rfl, rfl, rfl, h6, r6⟩ := trodAll_cons r5
  obtain ⟨rfl, rfl, rfl⟩ := trodAll_nil r6
  obtain rfl : args = #[v0, v1, v2, v3, v4, v5, v6] := by cases args; simp_all
  obtain ⟨rfl, rfl⟩ := trodVars_none hV
  obtain ⟨a0, rfl, rfl, rfl, w0⟩ := open_int Try.underlying3 (hval 0 3 v0 rfl rfl) h0
  obtain ⟨a1, rfl, rfl, rfl, w1⟩ := open_int Try.underlying3 (hval 1 3 v1 rfl rfl) h1
  obtain ⟨a2, rfl, rfl, rfl, w2⟩ := open_int Try.underlying3 (hval 2 3 v2 rfl rfl) h2
  obtain ⟨a3, rfl, rfl, rfl, w3⟩ := open_int Try.underlying3 (hval 3 3 v3 rfl rfl) h3
  obtain ⟨a6, rfl, rfl, rfl, w6⟩ := open_int Try.underlying3 (hval 6 3 v6 rfl rfl) h6
  obtain ⟨xs, hi, hx, hl⟩ := open_nums (hval 4 64 v4 rfl rfl) h4
  obtain ⟨us, ui, ux, ul⟩ := open_nums (hval 5 64 v5 rfl rfl) h5
  clear hA0 hval0
  simp only [List.append_nil] at hW'
  have hlt4 : ∀ x ∈ p4, x.block < W.heap.size := fun x hx => by simpa using hW'.lt x (by simp [hx])
  have hlt5 : ∀ x ∈ p5, x.block < W.heap.size := fun x hx => by simpa using hW'.lt x (by simp [hx])
  refine (back_walk a0 a1 a2 a3 a6 v4 v5 xs us W (wf_i64 w0) (wf_i64 w1) (wf_i64 w2) (wf_i64 w3) (wf_i64 w6) hi hx hl ui ux ul).mono fun e W' ⟨he, hg⟩ => ?_
  subst he
  have hb := below_of_grown hg
  refine ⟨_, rfl, _, _, _, [], [] ++ ([] ++ ([] ++ ([] ++ (p4 ++ (p5 ++ ([] ++ [])))))), [], hW', ?_, ?_, rfl, hb.frame _, fun h => by cases h⟩
  · exact trodAll_cons_mk (shut_bool Try.underlying4 _) trodAll_mk0
  · exact trodAll_cons_mk (shut_int Try.underlying3 w0) (trodAll_cons_mk (shut_int Try.underlying3 w1) (trodAll_cons_mk (shut_int Try.underlying3 w2) (trodAll_cons_mk (shut_int Try.underlying3 w3) (trodAll_cons_mk (Below.trod Try.laidOut (by kernel_rfl) (of_decide_eq_true (by kernel_rfl)) h4 hb hlt4) (trodAll_cons_mk (Below.trod Try.laidOut (by kernel_rfl) (of_decide_eq_true (by kernel_rfl)) h5 hb hlt5) (trodAll_cons_mk (shut_int Try.underlying3 w6) trodAll_mk0))))))

theorem back_holds : Rows.BackSaid :=
  OpenClaim.holds_of_wide 10 Try.f10 rfl rfl rfl rfl rfl rfl rfl ⟨rfl, rfl, rfl, rfl, rfl⟩ rfl rfl rfl rfl rfl (by kernel_rfl) Try.func10 (by kernel_rfl)
    (of_decide_eq_true (by kernel_rfl)) (by unfold Func.isWrapper; first | (rw [if_pos (by decide +kernel)]; kernel_rfl) | (rw [if_neg (by decide +kernel)]; exact ⟨rfl, rfl⟩))
    (fun os started H enc _ => back_lifted os started H enc)
end Go.Proofs.Ytdjmhagclcfnfaa
