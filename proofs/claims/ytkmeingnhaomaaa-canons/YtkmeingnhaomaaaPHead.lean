/- The program's appendHead and appendRecord. -/
import Derived.Test.YtkmeingnhaomaaaPSmall
import Derived.Test.YtkmeingnhaomaaaPApp
import Derived.Test.YtkmeingnhaomaaaSerGood
namespace Go.Proofs.Ytkmeingnhaomaaa
open Go.RowKit

theorem num_int (B : Nat) (v : Value) (l : List UInt8) (n size : Int) (w : World) (h0 : 0 ≤ n) (hn : n < 4294967296) (hs : size ≤ 4) (h1 : 1 ≤ size) (hl : l.length ≤ 100000) (hB : B ≤ w.heap.size) (hown : OwnsB B w v l) :
    Calls Try.prog 117 #[v, .int .u32 n, .int .i64 size] w fun e w' => ∃ v', e = .returned v' ∧ OwnsB B w' v' (l ++ lowB n.toNat size.toNat) ∧ Grew w w' v v' := by
  obtain ⟨a, rfl⟩ := Int.eq_ofNat_of_zero_le h0
  obtain ⟨b, rfl⟩ := Int.eq_ofNat_of_zero_le (show 0 ≤ size by omega)
  exact num_any B v l a b w (by omega) (by omega) (by omega) hl hB hown

theorem Grew.cell {w w' : World} {v v' : Value} (h : Grew w w' v v') {k o : Nat} (hk : k < w.heap.size) (hne : some k ≠ v.ownBlock) : w'.cell? ⟨k, o, none⟩ = w.cell? ⟨k, o, none⟩ :=
  World.cell?_of_block (h.by_.block k hk hne)
theorem OwnsB.alloc {B : Nat} {w : World} {v : Value} {l : List UInt8} (h : OwnsB B w v l) (o : Obj) : OwnsB B (w.alloc o) v l := World.ownsRow.alloc h o
theorem OwnsB.lt {B : Nat} {w : World} {v : Value} {l : List UInt8} (h : OwnsB B w v l) : some w.heap.size ≠ v.ownBlock := by
  rcases h.2 with ⟨rfl, _⟩ | ⟨g', cap, cur, rfl, hb, hg, _⟩
  · simp [Value.ownBlock]
  · have := (Array.getElem?_eq_some_iff.1 hg).1
    simp [Value.ownBlock]; omega
theorem Grew.alloc {w w2 : World} {o : Obj} {v v2 : Value} (h : Grew (w.alloc o) w2 v v2) : Grew w w2 v v2 :=
  Grew.trans (v1 := v) (w1 := w.alloc o) ⟨⟨rfl, rfl, rfl, by simp, fun j hj _ => Below.heap_alloc w o j hj⟩, .inl rfl⟩ h

set_option maxRecDepth 100000 in
set_option maxHeartbeats 2000000 in
theorem appHead_any (B : Nat) (v : Value) (l M : List UInt8) (hM : M.length = 4) (f t b z n : Nat) (w : World) (hf : f < 4294967296) (ht : t < 4294967296) (hb : b < 4294967296) (hz : z < 4294967296) (hn : n < 4294967296) (hl : l.length ≤ 90000) (hB : B ≤ w.heap.size) (hown : OwnsB B w v l) :
    Calls Try.prog 89 #[v, .string ⟨M.toArray⟩, .agg #[.int .i64 f, .int .i64 t, .int .i64 b, .int .i64 z, .int .i64 n]] w fun e w' => ∃ v', e = .returned v' ∧ OwnsB B w' v' (l ++ (M ++ headB f t b z n)) ∧ Grew w w' v v' := by
  have ef : (f : Int) % 4294967296 = f := by omega
  have et : (t : Int) % 4294967296 = t := by omega
  have eb : (b : Int) % 4294967296 = b := by omega
  have ez : (z : Int) % 4294967296 = z := by omega
  have en : (n : Int) % 4294967296 = n := by omega
  have hlt := hown.lt
  have HA : Hid (∀ O w2 v2, Grew (w.alloc O) w2 v v2 → Grew w w2 v v2) := fun _ _ _ h => h.alloc
  have HC : Hid (∀ O w2 v2, Grew (w.alloc O) w2 v v2 → ∀ o x, (w.alloc O).cell? ⟨w.heap.size, o, none⟩ = some x → w2.cell? ⟨w.heap.size, o, none⟩ = some x) := fun O _ _ h o x hx => (h.cell (by simp) hlt).trans hx
  have HO : Hid (OwnsB B w v l) := hown
  clear hown hlt
  go_enter Try.func89, Try.ntmps89
  go_wp2_with (at_builtin; go_must (refine wpList_str rfl _ _ rfl B _ l ⟨M.toArray⟩ rfl (HO.out.alloc _) rfl (by show l.length + M.length ≤ 1000000; omega) (by simp; omega) ?_); intro v1 w1 ho1 hg1; have c0 := HC.out _ _ _ hg1 0 (.int .i64 f) (by simp [go_sem]))
  have hB1 : B ≤ w1.heap.size := Nat.le_trans (Nat.le_trans hB (by simp)) hg1.by_.size
  refine (num_int B v1 _ f 4 w1 (by omega) (by omega) (by omega) (by omega) (by simp; omega) hB1 ho1).mono ?_
  rintro e w2 ⟨v2, rfl, ho2, hg2⟩
  replace hg2 := hg1.trans hg2
  have hB2 : B ≤ w2.heap.size := Nat.le_trans (Nat.le_trans hB (by simp)) hg2.by_.size
  clear ho1 hg1 hB1 c0
  have c1 := HC.out _ _ _ hg2 1 (.int .i64 t) (by simp [go_sem])
  go_wp2_with fail
  refine (num_int B v2 _ t 4 w2 (by omega) (by omega) (by omega) (by omega) (by simp [lowB_length]; omega) hB2 ho2).mono ?_
  rintro e w3 ⟨v3, rfl, ho3, hg3⟩
  replace hg3 := hg2.trans hg3
  have hB3 : B ≤ w3.heap.size := Nat.le_trans (Nat.le_trans hB (by simp)) hg3.by_.size
  clear ho2 hg2 hB2 c1
  have c2 := HC.out _ _ _ hg3 2 (.int .i64 b) (by simp [go_sem])
  go_wp2_with fail
  refine (num_int B v3 _ b 2 w3 (by omega) (by omega) (by omega) (by omega) (by simp [lowB_length]; omega) hB3 ho3).mono ?_
  rintro e w4 ⟨v4, rfl, ho4, hg4⟩
  replace hg4 := hg3.trans hg4
  have hB4 : B ≤ w4.heap.size := Nat.le_trans (Nat.le_trans hB (by simp)) hg4.by_.size
  clear ho3 hg3 hB3 c2
  have c3 := HC.out _ _ _ hg4 3 (.int .i64 z) (by simp [go_sem])
  go_wp2_with fail
  refine (num_int B v4 _ z 2 w4 (by omega) (by omega) (by omega) (by omega) (by simp [lowB_length]; omega) hB4 ho4).mono ?_
  rintro e w5 ⟨v5, rfl, ho5, hg5⟩
  replace hg5 := hg4.trans hg5
  have hB5 : B ≤ w5.heap.size := Nat.le_trans (Nat.le_trans hB (by simp)) hg5.by_.size
  clear ho4 hg4 hB4 c3
  have c4 := HC.out _ _ _ hg5 4 (.int .i64 n) (by simp [go_sem])
  go_wp2_with fail
  refine (num_int B v5 _ n 2 w5 (by omega) (by omega) (by omega) (by omega) (by simp [lowB_length]; omega) hB5 ho5).mono ?_
  rintro e w6 ⟨v6, rfl, ho6, hg6⟩
  replace hg6 := hg5.trans hg6
  have hB6 : B ≤ w6.heap.size := Nat.le_trans (Nat.le_trans hB (by simp)) hg6.by_.size
  clear ho5 hg5 hB5 c4
  go_wp2
  go_ret
  refine ⟨_, rfl, ?_, HA.out _ _ _ hg6⟩
  simpa [headB] using ho6
end Go.Proofs.Ytkmeingnhaomaaa
