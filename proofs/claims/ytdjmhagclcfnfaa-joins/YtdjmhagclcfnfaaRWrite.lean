/- The reference's write: a chunk's text. -/
import Derived.Test.YtdjmhagclcfnfaaRParse2
namespace Go.Proofs.Ytdjmhagclcfnfaa
open Go.RowKit Go.Shelf

def chunkA (f t b z all nu many : Nat) (rs : List Rc) : List UInt8 := [83, 84, 82, 67] ++ headB f t b z all ++ lowB nu 2 ++ lowB many 2 ++ lowB rs.length 2 ++ recsB rs
def chunkB (f t b z all nu many : Nat) (rs : List Rc) : List UInt8 := chunkA f t b z all nu many rs ++ lowB (crc (chunkA f t b z all nu many rs)) 4

theorem box8 {W : World} {k : Nat} {t : TypeId} {v0 v1 v2 v3 v4 v5 v6 v7 : Value} (h : W.heap[k]? = some (.cells #[v0, v1, v2, v3, v4, v5, v6, v7] t (0, 0))) :
    W.cell? ⟨k, 0, none⟩ = some v0 ∧ W.cell? ⟨k, 1, none⟩ = some v1 ∧ W.cell? ⟨k, 2, none⟩ = some v2 ∧ W.cell? ⟨k, 3, none⟩ = some v3 ∧ W.cell? ⟨k, 4, none⟩ = some v4 ∧ W.cell? ⟨k, 5, none⟩ = some v5 ∧ W.cell? ⟨k, 6, none⟩ = some v6 ∧ W.cell? ⟨k, 7, none⟩ = some v7 :=
  ⟨boxed_cell (i := 0) h rfl, boxed_cell (i := 1) h rfl, boxed_cell (i := 2) h rfl, boxed_cell (i := 3) h rfl, boxed_cell (i := 4) h rfl, boxed_cell (i := 5) h rfl, boxed_cell (i := 6) h rfl, boxed_cell (i := 7) h rfl⟩

theorem keep8 {W0 W w' : World} {k : Nat} {v0 v1 v2 v3 v4 v5 v6 v7 : Value} (h : W.cell? ⟨k, 0, none⟩ = some v0 ∧ W.cell? ⟨k, 1, none⟩ = some v1 ∧ W.cell? ⟨k, 2, none⟩ = some v2 ∧ W.cell? ⟨k, 3, none⟩ = some v3 ∧ W.cell? ⟨k, 4, none⟩ = some v4 ∧ W.cell? ⟨k, 5, none⟩ = some v5 ∧ W.cell? ⟨k, 6, none⟩ = some v6 ∧ W.cell? ⟨k, 7, none⟩ = some v7 ∧ Below W0.heap.size W0 W) (hb : Below W.heap.size W w') (hk : k < W0.heap.size) :
    w'.cell? ⟨k, 0, none⟩ = some v0 ∧ w'.cell? ⟨k, 1, none⟩ = some v1 ∧ w'.cell? ⟨k, 2, none⟩ = some v2 ∧ w'.cell? ⟨k, 3, none⟩ = some v3 ∧ w'.cell? ⟨k, 4, none⟩ = some v4 ∧ w'.cell? ⟨k, 5, none⟩ = some v5 ∧ w'.cell? ⟨k, 6, none⟩ = some v6 ∧ w'.cell? ⟨k, 7, none⟩ = some v7 ∧ Below W0.heap.size W0 w' := by
  obtain ⟨h0, h1, h2, h3, h4, h5, h6, h7, hB⟩ := h
  exact ⟨keep1 h0 hB hb hk, keep1 h1 hB hb hk, keep1 h2 hB hb hk, keep1 h3 hB hb hk, keep1 h4 hB hb hk, keep1 h5 hB hb hk, keep1 h6 hB hb hk, keep1 h7 hB hb hk, keepB hB hb⟩

set_option maxRecDepth 100000 in
set_option maxHeartbeats 4000000 in
theorem rwrite (f t b z all nu many : Nat) (last : Int) (sv : Value) (rs : List Rc) (w : World) (hr : Recs w.heap.size w sv rs) (hw : wellHead f t b z = true) (ho : recsOk b z last rs = true) (hla : -1 ≤ last) (hn : rs.length ≤ 100) (hall : all ≤ 65535) (hnu : nu ≤ 65535) (hmany : many ≤ 65535) :
    Calls Try.prog 65 #[.agg #[.int .i64 f, .int .i64 t, .int .i64 b, .int .i64 z, sv, .int .i64 all, .int .i64 nu, .int .i64 many]] w fun e w' => e = .returned (.string ⟨(chunkB f t b z all nu many rs).toArray⟩) ∧ Below w.heap.size w w' := by
  obtain ⟨h1, h2, h3, h4, h5, h6, h7, h8, h9⟩ : (0 : Int) ≤ f ∧ (f : Int) ≤ 2147483647 ∧ (1 : Int) ≤ t ∧ (t : Int) ≤ 2147483647 ∧ (f : Int) ≠ t ∧ (1 : Int) ≤ b ∧ (b : Int) ≤ 100 ∧ (1 : Int) ≤ z ∧ (z : Int) ≤ 64 := of_decide_eq_true hw
  have hrb := recsB_length b z h9 rs last ho
  have hat := recsOk_at b z rs last ho
  obtain ⟨a, cap, rfl⟩ := hr.slice
  have hat' : ∀ k (h : k < rs.length), 0 ≤ rs[k].block ∧ rs[k].block ≤ 65535 ∧ rs[k].data.size ≤ 100000 := by
    intro k h
    have := hat k h
    refine ⟨by omega, by omega, ?_⟩
    have h3 := this.2.2
    split at h3 <;> omega
  clear hat
  have HA : Hid _ := hat'
  clear hat'
  have hlb := lowB_length
  have hhb := headB_length f t b z all
  go_enter Try.func65, Try.ntmps65
  go_wp2
  obtain ⟨W0, hW0⟩ : ∃ W0, W0 = w.alloc (.cells #[.int .i64 f, .int .i64 t, .int .i64 b, .int .i64 z, .slice a rs.length cap, .int .i64 all, .int .i64 nu, .int .i64 many] 96) := ⟨_, rfl⟩
  have hB0 : Below w.heap.size w W0 := by rw [hW0]; exact (Below.refl _ _).alloc (Nat.le_refl _) _
  have hx : W0.heap[w.heap.size]? = some (.cells #[.int .i64 f, .int .i64 t, .int .i64 b, .int .i64 z, .slice a rs.length cap, .int .i64 all, .int .i64 nu, .int .i64 many] 96 (0, 0)) := by rw [hW0]; exact World.alloc_heap_new _ _
  have hsz : w.heap.size < W0.heap.size := (Array.getElem?_eq_some_iff.1 hx).1
  rw [← hW0]
  clear hW0
  have H8 := box8 hx
  obtain ⟨c0, c1, c2, c3, c4, c5, c6, c7⟩ := H8
  go_region_held3 (fun w' => w'.cell? ⟨w.heap.size, 0, none⟩ = some (.int .i64 f) ∧ w'.cell? ⟨w.heap.size, 1, none⟩ = some (.int .i64 t) ∧ w'.cell? ⟨w.heap.size, 2, none⟩ = some (.int .i64 b) ∧ w'.cell? ⟨w.heap.size, 3, none⟩ = some (.int .i64 z) ∧ w'.cell? ⟨w.heap.size, 4, none⟩ = some (.slice a rs.length cap) ∧ w'.cell? ⟨w.heap.size, 5, none⟩ = some (.int .i64 all) ∧ w'.cell? ⟨w.heap.size, 6, none⟩ = some (.int .i64 nu) ∧ w'.cell? ⟨w.heap.size, 7, none⟩ = some (.int .i64 many) ∧ Below W0.heap.size W0 w')
    (first | exact ⟨c0, c1, c2, c3, c4, c5, c6, c7, (Below.refl _ _).drew⟩ | exact keep8 (by assumption) hb hsz)
    (first | (go_at_call 54; refine (head_any f t b z all _ _ (by omega) (by omega) (by omega) (by omega) (by omega) a rs.length cap rfl).mono ?_; rintro e w' ⟨rfl, hb⟩) | (go_at_call 91; refine (bytes_int _ _ _ ?_ ?_ ?_ ?_).mono ?_; omega; omega; omega; omega; rintro e w' ⟨rfl, hb⟩))
  rename_i hS
  have hB2 : Hid (Below W0.heap.size W0 w') := hS.2.2.2.2.2.2.2.2
  clear hS hb
  go_wp2
  clear c0 c1 c2 c3 c5 c6 c7
  have HP : Hid (({ data := #[83, 84, 82, 67] } : ByteArray) ++ { data := (headB f t b z all).toArray } ++ { data := (lowB nu 2).toArray } ++ { data := (lowB many 2).toArray } ++ { data := (lowB rs.length 2).toArray } = ⟨([83, 84, 82, 67] ++ headB f t b z all ++ lowB nu 2 ++ lowB many 2 ++ lowB rs.length 2 ++ recsB (rs.take 0)).toArray⟩) := by
    show _ = _
    apply ByteArray.ext
    simp [recsB]
  rw [HP.out]
  obtain ⟨H, hH⟩ : ∃ H, H = [83, 84, 82, 67] ++ headB f t b z all ++ lowB nu 2 ++ lowB many 2 ++ lowB rs.length 2 := ⟨_, rfl⟩
  have hHl : H.length = 24 := by rw [hH]; simp [hhb, hlb]
  rw [← hH]
  have HH : Hid _ := hH
  clear HP hH
  go_loopw [3, 4] (fun tx i wr => ∃ k : Nat, k ≤ rs.length ∧ i = .int .i64 k ∧ tx = .string ⟨(H ++ recsB (rs.take k)).toArray⟩ ∧ Below W0.heap.size W0 wr) (fun _ i _ => rs.length - (intOf i).toNat)
  case atStart => exact ⟨0, Nat.zero_le _, rfl, rfl, hB2.out⟩
  case round =>
    obtain ⟨k, hk, rfl, rfl, hB⟩ := hrel
    have g4 := (hB.cell (p := ⟨w.heap.size, 4, none⟩) hsz).trans c4
    have hsw : w.heap.size < wr.heap.size := Nat.lt_of_lt_of_le hsz hB.size
    have hLl : (H ++ recsB (rs.take k)).length ≤ 10000 := by
      have := recsB_take_length b z h9 rs last ho k
      rw [List.length_append, hHl]
      omega
    by_cases hlt : k < rs.length
    · obtain ⟨bb, off, ha, hbb, q0, q1, q2⟩ := hr.at hlt
      subst ha
      have hB2' := hB0.trans (hB.mono (Nat.le_of_lt hsz))
      replace q0 := (hB2'.cell (p := ⟨bb, off + k * 3, none⟩) hbb).trans q0
      replace q1 := (hB2'.cell (p := ⟨bb, off + k * 3 + 1, none⟩) hbb).trans q1
      replace q2 := (hB2'.cell (p := ⟨bb, off + k * 3 + 2, none⟩) hbb).trans q2
      have hrk := HA.out k hlt
      have hrl : (recB rs[k]).length ≤ 67 := recB_length _ z h9 (recsOk_at b z rs last ho k hlt).2.2
      have HT : Hid (H ++ recsB (rs.take (k + 1)) = (H ++ recsB (rs.take k)) ++ recB rs[k]) := by
        show _ = _
        rw [List.take_succ_eq_append_getElem hlt, recsB_snoc, List.append_assoc]
      generalize rs[k] = r at *
      generalize hL : H ++ recsB (rs.take k) = L at *
      clear hL
      go_wp2_with (go_at_call 55; refine (record_any r _ hrk.1 hrk.2.1 hrk.2.2).mono ?_; rintro e w3 ⟨rfl, hb3⟩)
      go_roundw
      case rel =>
        have hfin : Value.string (⟨L.toArray⟩ ++ ⟨(recB r).toArray⟩) = Value.string ⟨(H ++ recsB (rs.take (k + 1))).toArray⟩ := by
          rw [HT.out]
          exact congrArg Value.string (by apply ByteArray.ext; simp)
        (repeat apply Exists.intro); exact ⟨⟨k + 1, by omega, by go_num, hfin, keepB hB hb3⟩, rfl⟩
      case measure => simp [intOf]; omega
    · obtain rfl : k = rs.length := by omega
      rw [List.take_length] at hLl
      rw [List.take_length]
      have HS : Hid (chunkB f t b z all nu many rs = (H ++ recsB rs) ++ lowB (crc (H ++ recsB rs)) 4) := by
        show _ = _
        rw [HH.out]
        rfl
      generalize H ++ recsB rs = L at *
      have hl4 := lowB_length (crc L) 4
      go_wp2_with (go_at_call 56; refine (check_list L _ (by omega)).mono ?_; rintro e w3 ⟨rfl, hb3⟩)
      go_ret
      rw [HS.out]
      exact ⟨by simp [bapp], hB0.trans ((keepB hB hb3).mono (Nat.le_of_lt hsz))⟩
end Go.Proofs.Ytdjmhagclcfnfaa
