/- The program's reader: Clone, take, number. -/
import Derived.Test.YtkmeingnhaomaaaLWrites2
import Derived.Lib.UnsafeStr
import Derived.Lib.BufferWrite
namespace Go.Proofs.Ytkmeingnhaomaaa
open Go.RowKit Go.Shelf

theorem Try.cellsU8 : Try.prog.cellsOf 5 = 1 := by kernel_rfl

set_option maxRecDepth 100000 in
set_option maxHeartbeats 1000000 in
theorem clone0 (s : ByteArray) (w : World) (hs : s.size ≤ 100000) :
    Calls Try.prog 119 #[.string s] w fun e w' => e = .returned (.string s) ∧ Below w.heap.size w w' := by
  by_cases h0 : s.size = 0
  · have e := empty_of_size s h0
    subst e
    go_enter Try.func119, Try.ntmps119
    go_wp2
    go_ret
    exact ⟨rfl, Below.refl _ _⟩
  · obtain ⟨i0, hi, hz0, hz1, hz2⟩ := info_parts Try.infoU8
    have hinfo : (Try.prog.info? 5).map (·.size) = some 1 := by rw [hi]; simp [hz1]
    obtain ⟨M, hM⟩ : ∃ M, M = madeCells (Value.int .u8 0).cells s.size := ⟨_, rfl⟩
    have hMs : M.size = s.size := by rw [hM, size_madeCells]
    have hmk : ∀ W : World, (Instr.makeSlice 72 (.int .i64 (s.size : Int)) (.int .i64 (s.size : Int))).run Try.prog W = .ok (.slice (some ⟨W.heap.size, 0, none⟩) s.size s.size) (W.alloc (.cells M 5)) := by
      intro W
      have h := run_make (P := Try.prog) W 72 5 i0 (.int .u8 0) Try.underlying72 hi hz0 .i64 .i64 (s.size : Int) (s.size : Int) (by omega) (by omega) (by rw [hz2]; omega) (by omega)
      rw [hz1, Int.toNat_natCast, Nat.mul_one, ← hM] at h
      exact h
    clear hM
    have hg1 : (w.alloc (.cells M 5)).heap[w.heap.size]? = some (.cells M 5 (0, 0)) := World.alloc_heap_new _ _
    have hcp := Lib.run_copy_row_string (P := Try.prog) (w.alloc (.cells M 5)) 72 9 3 5 w.heap.size 0 s.size s.size s M 5 Try.underlying72 hinfo hg1 (Nat.le_refl _) (by omega)
    obtain ⟨W2, hW2⟩ : ∃ W2, W2 = (w.alloc (.cells M 5)).setRow w.heap.size (M.toList.take 0 ++ Lib.byteCells s.data.toList ++ M.toList.drop (0 + s.size)).toArray := ⟨_, rfl⟩
    have hg2 : W2.heap[w.heap.size]? = some (.cells (M.toList.take 0 ++ Lib.byteCells s.data.toList ++ M.toList.drop (0 + s.size)).toArray 5 (0, 0)) := by rw [hW2]; exact setRow_heap _ _ _ _ _ _ hg1
    have hB2 : Below w.heap.size w W2 := by
      rw [hW2]
      exact ((Below.refl _ _).alloc (Nat.le_refl _) _).trans ⟨rfl, rfl, rfl, by simp [World.setRow], fun k hk => setRow_other _ _ _ _ (by omega)⟩
    rw [← hW2] at hcp
    clear hW2 hg1
    have hlen : s.data.toList.length = s.size := rfl
    have hne : s.data.toList ≠ [] := fun e => h0 (by rw [← hlen, e]; rfl)
    have hus := Lib.run_unsafeString_row (P := Try.prog) W2 166 3 9 5 Try.underlying166 Try.cellsU8 w.heap.size s.size (by unfold World.shape?; rw [hg2]; simp [Lib.byteCells, hMs, hlen]) s.data.toList hne (by omega) (by omega)
      (fun j x hx => by
        rw [Addr.add_lit]
        refine boxed_cell hg2 ?_
        have hj := (List.getElem?_eq_some_iff.1 hx).1
        simp only [List.take_zero, List.nil_append, Nat.zero_add, List.getElem?_toArray]
        rw [List.getElem?_append_left (by simpa [Lib.byteCells] using hj)]
        simp [Lib.byteCells, hx])
    rw [hlen] at hus
    clear hg2
    go_enter Try.func119, Try.ntmps119
    go_wp2
    go_ret
    exact ⟨rfl, Lib.below_freeze hB2 (p := ⟨w.heap.size, 0, none⟩) (Nat.le_refl _) _⟩

set_option maxHeartbeats 400000 in
theorem clone_any (s : ByteArray) (w : World) (hs : s.size ≤ 100000) :
    Calls Try.prog 91 #[.string s] w fun e w' => e = .returned (.string s) ∧ Below w.heap.size w w' := by
  go_enter Try.func91, Try.ntmps91
  go_wp2_with (go_at_call 119; refine (clone0 _ _ hs).mono ?_; rintro e w' ⟨rfl, hb⟩)
  go_ret
  exact ⟨rfl, hb⟩

/-- A reader at block R: the text l, of which p bytes have been read. -/
def Rd (W : World) (R : Nat) (l : List UInt8) (p : Nat) : Prop := W.heap[R]? = some (.cells #[.string ⟨l.toArray⟩, .int .i64 p] 124 (0, 0))
/-- What is given up with the error number k. -/
def gave (k : Int) : List PanicEntry := [{ v := .iface 25 (.int .i64 k), recovered := false }]

theorem drew_grown (w : World) (n : Nat) (row : Option Nat) : w.grownBy (w.drewN n) row := ⟨rfl, rfl, rfl, Nat.le_refl _, fun _ _ _ => rfl⟩

set_option maxRecDepth 100000 in
set_option maxHeartbeats 1000000 in
theorem take_short (R : Nat) (l : List UInt8) (p : Nat) (n : Int) (w : World) (hr : Rd w R l p) (hp : p ≤ l.length) (_hl : l.length ≤ 4611686018427387904) (h0 : 0 ≤ n) (hn : (l.length : Int) < p + n) (hn2 : n ≤ 1000000) :
    Calls Try.prog 135 #[.pointer (some ⟨R, 0, none⟩), .int .i64 n] w fun e w' => e = .panicked (gave 2) ∧ w.grownBy w' none := by
  have c0 := boxed_cell (i := 0) (v := .string ⟨l.toArray⟩) hr rfl
  have c1 := boxed_cell (i := 1) (v := .int .i64 p) hr rfl
  have hd : decide ((l.length : Int) - p < n) = true := by simp; omega
  go_enter Try.func135, Try.ntmps135
  go_wp2
  go_quiet (fail)
  go_wp2
  exact ⟨rfl, rfl, drew_grown _ _ _⟩

theorem gtrans {A B C : World} {row : Option Nat} (h : A.grownBy B row) (k : B.grownBy C row) : A.grownBy C row :=
  ⟨k.os.trans h.os, k.tape.trans h.tape, k.output.trans h.output, Nat.le_trans h.size k.size, fun j hj hne => (k.block j (Nat.lt_of_lt_of_le hj h.size) hne).trans (h.block j hj hne)⟩
theorem gnone {A B : World} {row : Option Nat} (h : A.grownBy B none) : A.grownBy B row := ⟨h.os, h.tape, h.output, h.size, fun j hj _ => h.block j hj (by simp)⟩
theorem gbelow {A B : World} {row : Option Nat} (h : Below A.heap.size A B) : A.grownBy B row := ⟨h.os, h.tape, h.output, h.size, fun j hj _ => h.block j hj⟩
theorem gset (w : World) (b o : Nat) (v : Value) : w.grownBy (w.setCell ⟨b, o, none⟩ v) (some b) :=
  ⟨rfl, rfl, rfl, by simp, fun k _ hk => Below.heap_setCell _ _ _ k (fun e => hk (by rw [e]))⟩
theorem Rd.kept {A B : World} {R : Nat} {l : List UInt8} {p : Nat} (h : Rd A R l p) (hg : A.grownBy B none) : Rd B R l p := (hg.block R (Array.getElem?_eq_some_iff.1 h).1 (by simp)).trans h
theorem Rd.drew {A : World} {R : Nat} {l : List UInt8} {p : Nat} (h : Rd A R l p) (n : Nat) : Rd (A.drewN n) R l p := h
theorem Rd.lt {A : World} {R : Nat} {l : List UInt8} {p : Nat} (h : Rd A R l p) : R < A.heap.size := (Array.getElem?_eq_some_iff.1 h).1

set_option maxRecDepth 100000 in
set_option maxHeartbeats 1000000 in
theorem take_ok (R : Nat) (l : List UInt8) (p : Nat) (n : Nat) (w : World) (hr : Rd w R l p) (hl : l.length ≤ 4611686018427387904) (hn : p + n ≤ l.length) :
    Calls Try.prog 135 #[.pointer (some ⟨R, 0, none⟩), .int .i64 n] w fun e w' => e = .returned (.string ⟨((l.drop p).take n).toArray⟩) ∧ Rd w' R l (p + n) ∧ w.grownBy w' (some R) := by
  have HR : Hid _ := hr
  have c0 := boxed_cell (i := 0) (v := .string ⟨l.toArray⟩) hr rfl
  have c1 := boxed_cell (i := 1) (v := .int .i64 p) hr rfl
  have f1 := boxed_frozen (i := 1) hr
  have hd : decide ((l.length : Int) - p < n) = false := by simp; omega
  clear hr
  go_enter Try.func135, Try.ntmps135
  go_wp2
  go_quiet (fail)
  have hsub : ((p : Int) + n - n) = p := by omega
  go_wp2
  go_quiet (fail)
  go_wp2
  go_ret
  refine ⟨ret_str (by rw [Lib.extract_data]; simp), ?_, ?_⟩
  · have h := block_set (w := w) (i := 1) HR.out (.int .i64 ((p : Int) + n))
    show _ = _
    rw [Int.natCast_add]
    exact h
  · exact gtrans (drew_grown w _ _) (gtrans (gset _ R 1 _) (drew_grown _ _ _))

/-- The number that some bytes are, the highest first. -/
def num (l : List UInt8) : Nat := l.foldl (fun n b => n * 256 + b.toNat) 0
theorem num_snoc (l : List UInt8) (b : UInt8) : num (l ++ [b]) = num l * 256 + b.toNat := by simp [num]
theorem num_fold : ∀ (l : List UInt8) (n m : Nat), n < m → l.foldl (fun n b => n * 256 + b.toNat) n < m * 256 ^ l.length
  | [], n, m, h => by simpa using h
  | b :: l, n, m, h => by
    have hb := b.toNat_lt
    have := num_fold l (n * 256 + b.toNat) (m * 256) (by omega)
    simp only [List.foldl_cons, List.length_cons]
    rw [Nat.pow_succ, Nat.mul_comm (256 ^ l.length), ← Nat.mul_assoc]
    exact this
theorem num_lt (l : List UInt8) : num l < 256 ^ l.length := by
  have := num_fold l 0 1 (by decide)
  simpa [num] using this

theorem or_byte (m : Nat) (b : UInt8) (hm : m < 16777216) : bits .or .u32 ((m : Int) * 256) ((b.toNat : Int) % 4294967296) = ((m * 256 + b.toNat : Nat) : Int) := by
  have hb := b.toNat_lt
  have h := bits_join .u32 32 (by decide) (fun n h0 h1 => by rw [IntKind.wrap_u32]; omega) 8 ((m : Int) * 256) (b.toNat : Int) (by omega) (by omega) (by omega) (by omega) (by omega) (by omega)
  rw [show (b.toNat : Int) % 4294967296 = (b.toNat : Int) from by omega, h]
  omega

theorem cell_marked {W : World} {k i : Nat} {cs : Array Value} {t : TypeId} {fr : Nat × Nat} {v : Value} (h : W.heap[k]? = some (.cells cs t fr)) (hi : cs[i]? = some v) : W.cell? ⟨k, i, none⟩ = some v := by
  simp [World.cell?, h, hi]

/-- '[]byte(s)'. -/
theorem conv_bytes (W : World) (bs : List UInt8) : ∃ c W2, (convert 9 72 (.string ⟨bs.toArray⟩)).run Try.prog W = .ok (.slice (some ⟨W.heap.size, 0, none⟩) bs.length c) W2 ∧ W.grownBy W2 none ∧
    ∀ j (h : j < bs.length), W2.cell? ⟨W.heap.size, j, none⟩ = some (.int .u8 (bs[j].toNat : Int)) := by
  refine ⟨_, _, run_bytes_of_string W 9 72 5 ⟨bs.toArray⟩ Try.underlying9 Try.underlying72 Try.underlying5, ?_, ?_⟩
  · exact ⟨rfl, rfl, rfl, by simp, fun j hj _ => Below.heap_alloc W.drew _ j hj⟩
  · intro j hj
    refine cell_marked (World.alloc_heap_new W.drew _) ?_
    unfold bytesRow
    rw [Array.getElem?_append_left (by simpa using hj)]
    simp [hj]

set_option maxRecDepth 100000 in
set_option maxHeartbeats 1000000 in
theorem number_ok (R : Nat) (l : List UInt8) (p k : Nat) (w : World) (hr : Rd w R l p) (hl : l.length ≤ 4611686018427387904) (hn : p + k ≤ l.length) (hk : k ≤ 4) :
    Calls Try.prog 123 #[.pointer (some ⟨R, 0, none⟩), .int .i64 k] w fun e w' => e = .returned (.int .u32 (num ((l.drop p).take k) : Nat)) ∧ Rd w' R l (p + k) ∧ w.grownBy w' (some R) := by
  have hbl : ((l.drop p).take k).length = k := by simp; omega
  have HT : Hid (∀ u : Unit, Calls Try.prog 135 #[.pointer (some ⟨R, 0, none⟩), .int .i64 k] w fun e w' => e = .returned (.string ⟨((l.drop p).take k).toArray⟩) ∧ Rd w' R l (p + k) ∧ w.grownBy w' (some R)) := fun _ => take_ok R l p k w hr hl hn
  generalize (l.drop p).take k = bs at *
  go_enter Try.func123, Try.ntmps123
  go_wp2_with (go_at_call 135; refine (HT.out ()).mono ?_; rintro e w1 ⟨rfl, hr1, hg1⟩; obtain ⟨c, W2, hcv, hg2, hc2⟩ := conv_bytes w1 bs)
  go_loop [5, 7, 13] (fun n _ i => ∃ j : Nat, j ≤ k ∧ i = .int .i64 j ∧ n = .int .u32 (num (bs.take j) : Nat)) (fun _ _ i => k - (intOf i).toNat)
  case atStart => exact ⟨0, Nat.zero_le _, rfl, rfl⟩
  case round =>
    obtain ⟨j, hj, rfl, rfl⟩ := hrel
    by_cases hlt : j < k
    · have hcj := hc2 j (by omega)
      have hts : bs.take (j + 1) = bs.take j ++ [bs[j]] := List.take_succ_eq_append_getElem (by omega)
      have HS : Hid (num (bs.take (j + 1)) = num (bs.take j) * 256 + bs[j].toNat) := by
        show _ = _
        rw [hts, num_snoc]
      have hlt2 : num (bs.take j) < 16777216 := by
        have h1 := num_lt (bs.take j)
        have h2 : (bs.take j).length ≤ 3 := by simp; omega
        have h3 : 256 ^ (bs.take j).length ≤ 256 ^ 3 := Nat.pow_le_pow_right (by decide) h2
        omega
      have eo := or_byte (num (bs.take j)) bs[j] hlt2
      clear hts hc2
      generalize num (bs.take j) = m at *
      generalize bs[j] = bj at *
      have HE : Hid _ := eo
      clear eo
      go_wp2
      go_round
      case rel => exact ⟨j + 1, by omega, by go_num, by rw [HS.out, ← HE.out]⟩
      case measure => simp [intOf]; omega
    · go_wp2
      go_ret
      obtain rfl : j = k := by omega
      rw [List.take_of_length_le (by omega)]
      exact ⟨rfl, hr1.kept hg2, gtrans hg1 (gnone hg2)⟩
end Go.Proofs.Ytkmeingnhaomaaa
