/- The program's appendRecord. -/
import Derived.Test.YtkmeingnhaomaaaPHead
import Derived.Deep.RegionHeld2
namespace Go.Proofs.Ytkmeingnhaomaaa
open Go.RowKit

theorem OwnsB.drew {B : Nat} {w : World} {v : Value} {l : List UInt8} (h : OwnsB B w v l) : OwnsB B w.drew v l := h

theorem Grew.ofDrew {w w2 : World} {v v2 : Value} (h : Grew w.drew w2 v v2) : Grew w w2 v v2 := ⟨⟨h.by_.os, h.by_.tape, h.by_.output, h.by_.size, h.by_.block⟩, h.at_⟩

set_option maxRecDepth 100000 in
set_option maxHeartbeats 2000000 in
theorem appRec_full (B : Nat) (v : Value) (l : List UInt8) (n : Nat) (d : ByteArray) (w : World) (hn : n ≤ 65535) (hd : d.size ≤ 64) (hl : l.length ≤ 90000) (hB : B ≤ w.heap.size) (hown : OwnsB B w v l) :
    Calls Try.prog 116 #[v, .agg #[.bool false, .int .i64 n, .string d]] w fun e w' => ∃ v', e = .returned v' ∧ OwnsB B w' v' (l ++ (1 :: (lowB n 2 ++ d.data.toList))) ∧ Grew w w' v v' := by
  have en : IntKind.u32.wrap (n : Int) = n := by rw [IntKind.wrap_u32]; omega
  have hlt := hown.lt
  have HA : Hid (∀ O w2 v2, Grew (w.alloc O) w2 v v2 → Grew w w2 v v2) := fun _ _ _ h => h.alloc
  have HC : Hid (∀ O w2 v2, Grew (w.alloc O) w2 v v2 → ∀ o x, (w.alloc O).cell? ⟨w.heap.size, o, none⟩ = some x → w2.cell? ⟨w.heap.size, o, none⟩ = some x) := fun O _ _ h o x hx => (h.cell (by simp) hlt).trans hx
  have HO : Hid (∀ O, OwnsB B (w.alloc O) v l) := fun O => hown.alloc O
  clear hown hlt
  go_enter Try.func116, Try.ntmps116
  go_wp2
  generalize hO : (Obj.cells #[.bool false, .int .i64 n, .string d] 34) = O at *
  have c1 : (w.alloc O).cell? ⟨w.heap.size, 1, none⟩ = some (.int .i64 n) := by subst hO; simp [go_sem]
  have c2 : (w.alloc O).cell? ⟨w.heap.size, 2, none⟩ = some (.string d) := by subst hO; simp [go_sem]
  have hsz : w.heap.size < (w.alloc O).heap.size := by simp
  have hB0 : B ≤ (w.alloc O).heap.size := by simp; omega
  replace HO : Hid (OwnsB B (w.alloc O) v l) := HO.out O
  replace HA : Hid (∀ w2 v2, Grew (w.alloc O) w2 v v2 → Grew w w2 v v2) := HA.out O
  replace HC : Hid (∀ w2 v2, Grew (w.alloc O) w2 v v2 → ∀ o x, (w.alloc O).cell? ⟨w.heap.size, o, none⟩ = some x → w2.cell? ⟨w.heap.size, o, none⟩ = some x) := HC.out O
  clear hO
  generalize w.alloc O = W0 at *
  have HAL : Hid (∀ O', (W0.alloc O').cell? ⟨w.heap.size, 1, none⟩ = some (.int .i64 n)) := fun O' => (World.cell?_alloc_lt _ _ _ hsz).trans c1
  have HNB : Hid ((W0.alloc (.cells #[.int .u8 1] 5)).cell? ⟨W0.heap.size, 0, none⟩ = some (.int .u8 ((1 : UInt8).toNat : Int))) := by
    show _ = _
    simp [go_sem]
  have HB1 : Hid (B ≤ (W0.alloc (.cells #[.int .u8 1] 5)).heap.size) := by
    show _ ≤ _
    simp; omega
  go_region_held2 (fun w' => w'.cell? ⟨w.heap.size, 1, none⟩ = some (.int .i64 n))
    (first | exact c1 | exact HAL.out _ | exact HC.out _ _ hg1 _ _ c1 | exact HC.out _ _ hg2 _ _ c1)
    (first | (go_at_call 117; refine (num_int B _ _ _ _ _ ?_ ?_ ?_ ?_ ?_ ?_ ho1).mono ?_; omega; omega; omega; omega; (simp; omega); exact Nat.le_trans hB0 hg1.by_.size; rintro e w2 ⟨v2, rfl, ho2, hg2⟩; replace hg2 := hg1.trans hg2) | (refine step_byte ?_ (.tmp 8) (.tmp 10) ?_ B v l 1 W0.heap.size ?_ ?_ ?_ ?_ ?_ ?_ ?_; rfl; rfl; rfl; exact (HO.out.alloc _).drew; rfl; exact HNB.out; omega; exact HB1.out; intro v1 w1 ho1 hg1; replace hg1 : Grew W0 w1 v v1 := hg1.ofDrew.alloc))
  have k2 := HC.out _ _ hg2 _ _ c2
  have hB2 : B ≤ w2.heap.size := Nat.le_trans hB0 hg2.by_.size
  have hd2 : d.data.toList.length ≤ 64 := hd
  go_wp2_with (at_builtin; go_must (refine wpList_str rfl (.tmp 16) (.tmp 18) rfl B _ _ _ rfl ho2 rfl (by simp [lowB_length]; omega) hB2 ?_); intro v3 w3 ho3 hg3)
  go_ret
  refine ⟨_, rfl, ?_, HA.out _ _ (hg2.trans hg3)⟩
  simpa using ho3
set_option maxRecDepth 100000 in
set_option maxHeartbeats 2000000 in
theorem appRec_free (B : Nat) (v : Value) (l : List UInt8) (n : Nat) (d : ByteArray) (w : World) (hn : n ≤ 65535) (hd : d.size ≤ 64) (hl : l.length ≤ 90000) (hB : B ≤ w.heap.size) (hown : OwnsB B w v l) :
    Calls Try.prog 116 #[v, .agg #[.bool true, .int .i64 n, .string d]] w fun e w' => ∃ v', e = .returned v' ∧ OwnsB B w' v' (l ++ (2 :: (lowB n 2 ++ d.data.toList))) ∧ Grew w w' v v' := by
  have en : IntKind.u32.wrap (n : Int) = n := by rw [IntKind.wrap_u32]; omega
  have hlt := hown.lt
  have HA : Hid (∀ O w2 v2, Grew (w.alloc O) w2 v v2 → Grew w w2 v v2) := fun _ _ _ h => h.alloc
  have HC : Hid (∀ O w2 v2, Grew (w.alloc O) w2 v v2 → ∀ o x, (w.alloc O).cell? ⟨w.heap.size, o, none⟩ = some x → w2.cell? ⟨w.heap.size, o, none⟩ = some x) := fun O _ _ h o x hx => (h.cell (by simp) hlt).trans hx
  have HO : Hid (∀ O, OwnsB B (w.alloc O) v l) := fun O => hown.alloc O
  clear hown hlt
  go_enter Try.func116, Try.ntmps116
  go_wp2
  generalize hO : (Obj.cells #[.bool true, .int .i64 n, .string d] 34) = O at *
  have c1 : (w.alloc O).cell? ⟨w.heap.size, 1, none⟩ = some (.int .i64 n) := by subst hO; simp [go_sem]
  have c2 : (w.alloc O).cell? ⟨w.heap.size, 2, none⟩ = some (.string d) := by subst hO; simp [go_sem]
  have hsz : w.heap.size < (w.alloc O).heap.size := by simp
  have hB0 : B ≤ (w.alloc O).heap.size := by simp; omega
  replace HO : Hid (OwnsB B (w.alloc O) v l) := HO.out O
  replace HA : Hid (∀ w2 v2, Grew (w.alloc O) w2 v v2 → Grew w w2 v v2) := HA.out O
  replace HC : Hid (∀ w2 v2, Grew (w.alloc O) w2 v v2 → ∀ o x, (w.alloc O).cell? ⟨w.heap.size, o, none⟩ = some x → w2.cell? ⟨w.heap.size, o, none⟩ = some x) := HC.out O
  clear hO
  generalize w.alloc O = W0 at *
  have HAL : Hid (∀ O', (W0.alloc O').cell? ⟨w.heap.size, 1, none⟩ = some (.int .i64 n)) := fun O' => (World.cell?_alloc_lt _ _ _ hsz).trans c1
  have HNB : Hid ((W0.alloc (.cells #[.int .u8 2] 5)).cell? ⟨W0.heap.size, 0, none⟩ = some (.int .u8 ((2 : UInt8).toNat : Int))) := by
    show _ = _
    simp [go_sem]
  have HB1 : Hid (B ≤ (W0.alloc (.cells #[.int .u8 2] 5)).heap.size) := by
    show _ ≤ _
    simp; omega
  go_region_held2 (fun w' => w'.cell? ⟨w.heap.size, 1, none⟩ = some (.int .i64 n))
    (first | exact c1 | exact HAL.out _ | exact HC.out _ _ hg1 _ _ c1 | exact HC.out _ _ hg2 _ _ c1)
    (first | (go_at_call 117; refine (num_int B _ _ _ _ _ ?_ ?_ ?_ ?_ ?_ ?_ ho1).mono ?_; omega; omega; omega; omega; (simp; omega); exact Nat.le_trans hB0 hg1.by_.size; rintro e w2 ⟨v2, rfl, ho2, hg2⟩; replace hg2 := hg1.trans hg2) | (refine step_byte ?_ (.tmp 8) (.tmp 10) ?_ B v l 2 W0.heap.size ?_ ?_ ?_ ?_ ?_ ?_ ?_; rfl; rfl; rfl; exact (HO.out.alloc _).drew; rfl; exact HNB.out; omega; exact HB1.out; intro v1 w1 ho1 hg1; replace hg1 : Grew W0 w1 v v1 := hg1.ofDrew.alloc))
  have k2 := HC.out _ _ hg2 _ _ c2
  have hB2 : B ≤ w2.heap.size := Nat.le_trans hB0 hg2.by_.size
  have hd2 : d.data.toList.length ≤ 64 := hd
  go_wp2_with (at_builtin; go_must (refine wpList_str rfl (.tmp 16) (.tmp 18) rfl B _ _ _ rfl ho2 rfl (by simp [lowB_length]; omega) hB2 ?_); intro v3 w3 ho3 hg3)
  go_ret
  refine ⟨_, rfl, ?_, HA.out _ _ (hg2.trans hg3)⟩
  simpa using ho3

theorem appRec_any (B : Nat) (v : Value) (l : List UInt8) (r : Rc) (w : World) (z : Int) (hz : z ≤ 64) (h0 : 0 ≤ r.block) (h1 : r.block ≤ 65535) (hd : (r.data.size : Int) = if r.free then 0 else z) (hl : l.length ≤ 90000) (hB : B ≤ w.heap.size) (hown : OwnsB B w v l) :
    Calls Try.prog 116 #[v, .agg #[.bool r.free, .int .i64 r.block, .string r.data]] w fun e w' => ∃ v', e = .returned v' ∧ OwnsB B w' v' (l ++ recB r) ∧ Grew w w' v v' := by
  obtain ⟨f, n, d⟩ := r
  obtain ⟨n, rfl⟩ := Int.eq_ofNat_of_zero_le h0
  dsimp only at *
  cases f
  · simp only [Bool.false_eq_true, if_false] at hd
    exact appRec_full B v l n d w (by omega) (by omega) hl hB hown
  · simp only [if_true] at hd
    have hd0 : d.size = 0 := by omega
    have e : d.data.toList = [] := by rw [empty_of_size d hd0]
    have := appRec_free B v l n d w (by omega) (by omega) hl hB hown
    rw [e, List.append_nil] at this
    exact this
end Go.Proofs.Ytkmeingnhaomaaa
