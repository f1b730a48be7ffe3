/- The program's NumberText. -/
import Derived.Test.YtdjmhagclcfnfaaPWell
namespace Go.Proofs.Ytdjmhagclcfnfaa
open Go.RowKit Go.Shelf

/-- 'string(b)' of bytes of one's own. -/
theorem conv_own {B : Nat} {w : World} {v : Value} {l : List UInt8} (h : OwnsB B w v l) : (convert 72 9 v).run Try.prog w = .ok (.string ⟨l.toArray⟩) w := by
  have h0 : w.ownsRow B 5 1 v l.length (byteVals l) := h
  rcases h0.2 with ⟨rfl, hn⟩ | ⟨g, cap, cur, rfl, _⟩
  · have hl : l = [] := List.eq_nil_of_length_eq_zero hn
    subst hl
    exact run_convert_bytes_nil (P := Try.prog) w 72 5 Try.underlying72 Try.underlying5 0 0 9 Try.underlying9
  · refine run_convert_bytes_back (P := Try.prog) w 72 9 5 ⟨g, 0, none⟩ cap l Try.underlying72 Try.underlying5 Try.underlying9 ?_
    intro j hj
    exact h0.cells (g := g) rfl j _ (by simp [byteVals, hj])

theorem lowB_get (n : Nat) : ∀ (k j : Nat) (h : j < (lowB n k).length), (lowB n k)[j] = UInt8.ofNat (n / 256 ^ (k - 1 - j) % 256)
  | 0, j, h => by simp [lowB] at h
  | k + 1, 0, h => by simp [lowB]
  | k + 1, j + 1, h => by
    have h2 : j < (lowB n k).length := by simpa [lowB] using h
    have := lowB_get n k j h2
    simp only [lowB, List.getElem_cons_succ]
    rw [this, show k + 1 - 1 - (j + 1) = k - 1 - j from by omega]
/-- The bytes of a number, the first k of them written. -/
def numK (n size k : Nat) : Array Value := ((byteVals (lowB n size)).take k ++ List.replicate (size - k) (Value.int .u8 0)).toArray
theorem numK_size (n size k : Nat) (h : k ≤ size) : (numK n size k).size = size := by
  simp [numK, byteVals, lowB_length]
  omega
theorem numK_set (n size k : Nat) (h : k < size) : (numK n size k).setIfInBounds k (.int .u8 (((n / 256 ^ (size - 1 - k) : Nat) : Int) % 256)) = numK n size (k + 1) := by
  unfold numK
  apply Array.ext'
  rw [Array.toList_setIfInBounds]
  have hl : (byteVals (lowB n size)).length = size := by simp [byteVals, lowB_length]
  have hx : (byteVals (lowB n size))[k]'(by omega) = .int .u8 (((n / 256 ^ (size - 1 - k) : Nat) : Int) % 256) := by
    have h2 : k < (lowB n size).length := by rw [lowB_length]; exact h
    simp only [byteVals, List.getElem_map]
    rw [lowB_get n size k h2, u8_cast]
  rw [show (((byteVals (lowB n size)).take k ++ List.replicate (size - k) (Value.int .u8 0)).toArray).toList = (byteVals (lowB n size)).take k ++ List.replicate (size - k) (Value.int .u8 0) from rfl]
  rw [List.set_append_right _ _ (by rw [List.length_take]; omega), List.length_take, Nat.min_eq_left (by omega), Nat.sub_self, show size - k = (size - (k + 1)) + 1 from by omega, List.replicate_succ, List.set_cons_zero, List.take_succ_eq_append_getElem (by omega), hx, List.append_assoc]
  rfl
theorem numK_all (n size : Nat) : numK n size size = (byteVals (lowB n size)).toArray := by
  have hl : (byteVals (lowB n size)).length = size := by simp [byteVals, lowB_length]
  simp only [numK, Nat.sub_self, List.replicate_zero, List.append_nil]
  rw [List.take_of_length_le (by omega)]
theorem numK_none (n size : Nat) : madeCells (Value.int .u8 0).cells size = numK n size 0 := by
  apply Array.ext'
  apply List.ext_getElem?
  intro i
  rw [Array.getElem?_toList]
  simp only [numK, List.take_zero, List.nil_append, Nat.sub_zero]
  by_cases hi : i < size
  · rw [List.getElem?_replicate, if_pos hi]
    simp [madeCells, hi, Value.cells, Nat.mod_one]
  · rw [List.getElem?_eq_none (by simp; omega), Array.getElem?_eq_none (by simp [size_madeCells]; omega)]

set_option maxRecDepth 100000 in
set_option maxHeartbeats 2000000 in
theorem ntext_any (n size : Nat) (w : World) (hn : n < 2 ^ 32) (hs : size ≤ 4) (h1 : 1 ≤ size) :
    Calls Try.prog 124 #[.int .u32 n, .int .i64 size] w fun e w' => e = .returned (.string ⟨(lowB n size).toArray⟩) ∧ Below w.heap.size w w' := by
  obtain ⟨i0, hi, hz0, hz1, hz2⟩ := info_parts Try.infoU8
  have hmk : ∀ W : World, (Instr.makeSlice 72 (.int .i64 (size : Int)) (.int .i64 (size : Int))).run Try.prog W = .ok (.slice (some ⟨W.heap.size, 0, none⟩) size size) (W.alloc (.cells (numK n size 0) 5)) := by
    intro W
    have h := run_make (P := Try.prog) W 72 5 i0 (.int .u8 0) Try.underlying72 hi hz0 .i64 .i64 (size : Int) (size : Int) (by omega) (by omega) (by rw [hz2]; omega) (by omega)
    rw [hz1, Int.toNat_natCast, Nat.mul_one, numK_none n size] at h
    exact h
  have HCV : Hid (∀ W : World, W.heap[w.heap.size]? = some (.cells (numK n size size) 5 (0, 0)) → (convert 72 9 (.slice (some ⟨w.heap.size, 0, none⟩) size size)).run Try.prog W = .ok (.string ⟨(lowB n size).toArray⟩) W) := by
    intro W h
    have hh := run_convert_bytes_back (P := Try.prog) W 72 9 5 ⟨w.heap.size, 0, none⟩ size (lowB n size) Try.underlying72 Try.underlying5 Try.underlying9 (fun j hj => by
      rw [numK_all] at h
      rw [Addr.add_lit]
      exact boxed_cell h (by simp [byteVals, hj]))
    rw [lowB_length] at hh
    exact hh
  have HS : Hid (∀ k, k < size → (numK n size k).setIfInBounds k (.int .u8 (((n / 256 ^ (size - 1 - k) : Nat) : Int) % 256)) = numK n size (k + 1)) := fun k hk => numK_set n size k hk
  have HG : Hid (∀ k, k < size → ∃ v, (numK n size k)[k]? = some v) := fun k hk => ⟨_, Array.getElem?_eq_getElem (by rw [numK_size n size k (by omega)]; exact hk)⟩
  go_enter Try.func124, Try.ntmps124
  go_wp2
  go_loopw [11] (fun i wr => ∃ k : Nat, k ≤ size ∧ i = .int .i64 k ∧ wr.heap[w.heap.size]? = some (.cells (numK n size k) 5 (0, 0)) ∧ Below w.heap.size w wr) (fun i _ => size - (intOf i).toNat)
  case atStart => exact ⟨0, Nat.zero_le _, rfl, World.alloc_heap_new _ _, (Below.refl _ _).alloc (Nat.le_refl _) _⟩
  case round =>
    obtain ⟨k, hk, rfl, hb, hB⟩ := hrel
    have H_B : Hid (Below w.heap.size w wr) := hB
    have H_H : Hid (wr.heap[w.heap.size]? = some (.cells (numK n size k) 5 (0, 0))) := hb
    clear hB
    by_cases hlt : k < size
    · obtain ⟨v, hv⟩ := HG.out k hlt
      have c0 := boxed_cell (i := k) hb hv
      have f0 := boxed_frozen (i := k) hb
      clear hb
      have HB1 : Hid (∀ x : Int, x = ((n / 256 ^ (size - 1 - k) : Nat) : Int) % 256 → (wr.setCell ⟨w.heap.size, k, none⟩ (.int .u8 x)).heap[w.heap.size]? = some (.cells (numK n size (k + 1)) 5 (0, 0)) ∧ Below w.heap.size w (wr.setCell ⟨w.heap.size, k, none⟩ (.int .u8 x))) := by
        rintro x rfl
        refine ⟨?_, H_B.out.setCell (p := ⟨w.heap.size, k, none⟩) (Nat.le_refl _) _⟩
        rw [← HS.out k hlt]
        exact block_set (i := k) H_H.out _
      clear H_H HS HG hmk HCV hv
      have hs4 : (size = 1 ∧ k = 0) ∨ (size = 2 ∧ k = 0) ∨ (size = 2 ∧ k = 1) ∨ (size = 3 ∧ k = 0) ∨ (size = 3 ∧ k = 1) ∨ (size = 3 ∧ k = 2) ∨ (size = 4 ∧ k = 0) ∨ (size = 4 ∧ k = 1) ∨ (size = 4 ∧ k = 2) ∨ (size = 4 ∧ k = 3) := by omega
      rcases hs4 with ⟨rfl, rfl⟩ | ⟨rfl, rfl⟩ | ⟨rfl, rfl⟩ | ⟨rfl, rfl⟩ | ⟨rfl, rfl⟩ | ⟨rfl, rfl⟩ | ⟨rfl, rfl⟩ | ⟨rfl, rfl⟩ | ⟨rfl, rfl⟩ | ⟨rfl, rfl⟩
      all_goals
        go_wp2
        go_roundw
        case rel =>
          refine ⟨_, ?_, ?_, (HB1.out _ ?_).1, (HB1.out _ ?_).2⟩
          · omega
          · go_num
          all_goals first | rfl | (simp only [Nat.reducePow, Nat.reduceSub]; omega)
        case measure => simp [intOf]
    · obtain rfl : k = size := by omega
      have hcv := HCV.out wr hb
      clear hb
      go_wp2
      go_ret
      exact ⟨rfl, H_B.out⟩
/-- The same, its arguments integers with their bounds. -/
theorem ntext_int (n size : Int) (w : World) (h0 : 0 ≤ n) (hn : n < 4294967296) (hs : size ≤ 4) (h1 : 1 ≤ size) :
    Calls Try.prog 124 #[.int .u32 n, .int .i64 size] w fun e w' => e = .returned (.string ⟨(lowB n.toNat size.toNat).toArray⟩) ∧ Below w.heap.size w w' := by
  obtain ⟨a, rfl⟩ := Int.eq_ofNat_of_zero_le h0
  obtain ⟨b, rfl⟩ := Int.eq_ofNat_of_zero_le (show 0 ≤ size by omega)
  exact ntext_any a b w (by omega) (by omega) (by omega)
end Go.Proofs.Ytdjmhagclcfnfaa
