/- The program's reader: Clone, OverText, take, number. -/
import Derived.Test.YtdjmhagclcfnfaaPRec
import Derived.Test.YtdjmhagclcfnfaaPWell2
import Derived.Deep.QuietTactic
import Derived.BigQuiet
import Derived.Laws.CopyRow
import Derived.Laws.MakeOwn
import Derived.Lib.UnsafeStr
import Derived.Lib.BufferWrite
namespace Go.Proofs.Ytdjmhagclcfnfaa
open Go.RowKit Go.Shelf

theorem Try.cellsU8 : Try.prog.cellsOf 5 = 1 := by kernel_rfl

set_option maxRecDepth 100000 in
set_option maxHeartbeats 1000000 in
theorem clone0 (s : ByteArray) (w : World) (hs : s.size ≤ 100000) :
    Calls Try.prog 125 #[.string s] w fun e w' => e = .returned (.string s) ∧ Below w.heap.size w w' := by
  by_cases h0 : s.size = 0
  · have e := empty_of_size s h0
    subst e
    go_enter Try.func125, Try.ntmps125
    go_wp2
    go_ret
    exact ⟨rfl, Below.refl _ _⟩
  · obtain ⟨i0, hi, hz0, hz1, hz2⟩ := info_parts Try.infoU8
    have hinfo : (Try.prog.info? 5).map (·.size) = some 1 := by rw [hi]; simp [hz1]
    obtain ⟨M, hM⟩ : ∃ M, M = madeCells (Value.int .u8 0).cells s.size := ⟨_, rfl⟩
    have hMs : M.size = s.size := by rw [hM, size_madeCells]
    have hmk : ∀ W : World, (Instr.makeSlice 72 (.int .i64 (s.size : Int)) (.int .i64 (s.size : Int))).run Try.prog W = .ok (.slice (some ⟨W.heap.size, 0, none⟩) s.size s.size) (W.alloc (.cells M 5)) := by
      intro W
      have h := run_make (P := Try.prog) W 72 5 i0 (.int .u8 0) Try.underlying72 hi hz0 .i64 .i64 (s.size : Int) (s.size : Int) (by omega) (by omega) (by rw [hz2]; omega) (by omega)
      rw [hz1, Int.toNat_natCast, Nat.mul_one, ← hM] at h
      exact h
    clear hM
    have hg1 : (w.alloc (.cells M 5)).heap[w.heap.size]? = some (.cells M 5 (0, 0)) := World.alloc_heap_new _ _
    have hcp := Lib.run_copy_row_string (P := Try.prog) (w.alloc (.cells M 5)) 72 9 3 5 w.heap.size 0 s.size s.size s M 5 Try.underlying72 hinfo hg1 (Nat.le_refl _) (by omega)
    obtain ⟨W2, hW2⟩ : ∃ W2, W2 = (w.alloc (.cells M 5)).setRow w.heap.size (M.toList.take 0 ++ Lib.byteCells s.data.toList ++ M.toList.drop (0 + s.size)).toArray := ⟨_, rfl⟩
    have hg2 : W2.heap[w.heap.size]? = some (.cells (M.toList.take 0 ++ Lib.byteCells s.data.toList ++ M.toList.drop (0 + s.size)).toArray 5 (0, 0)) := by rw [hW2]; exact setRow_heap _ _ _ _ _ _ hg1
    have hB2 : Below w.heap.size w W2 := by
      rw [hW2]
      exact ((Below.refl _ _).alloc (Nat.le_refl _) _).trans ⟨rfl, rfl, rfl, by simp [World.setRow], fun k hk => setRow_other _ _ _ _ (by omega)⟩
    rw [← hW2] at hcp
    clear hW2 hg1
    have hlen : s.data.toList.length = s.size := rfl
    have hne : s.data.toList ≠ [] := fun e => h0 (by rw [← hlen, e]; rfl)
    have hus := Lib.run_unsafeString_row (P := Try.prog) W2 185 3 9 5 Try.underlying185 Try.cellsU8 w.heap.size s.size (by unfold World.shape?; rw [hg2]; simp [Lib.byteCells, hMs, hlen]) s.data.toList hne (by omega) (by omega)
      (fun j x hx => by
        rw [Addr.add_lit]
        refine boxed_cell hg2 ?_
        have hj := (List.getElem?_eq_some_iff.1 hx).1
        simp only [List.take_zero, List.nil_append, Nat.zero_add, List.getElem?_toArray]
        rw [List.getElem?_append_left (by simpa [Lib.byteCells] using hj)]
        simp [Lib.byteCells, hx])
    rw [hlen] at hus
    clear hg2
    go_enter Try.func125, Try.ntmps125
    go_wp2
    go_ret
    exact ⟨rfl, Lib.below_freeze hB2 (p := ⟨w.heap.size, 0, none⟩) (Nat.le_refl _) _⟩

set_option maxHeartbeats 400000 in
theorem clone_any (s : ByteArray) (w : World) (hs : s.size ≤ 100000) :
    Calls Try.prog 92 #[.string s] w fun e w' => e = .returned (.string s) ∧ Below w.heap.size w w' := by
  go_enter Try.func92, Try.ntmps92
  go_wp2_with (go_at_call 125; refine (clone0 _ _ hs).mono ?_; rintro e w' ⟨rfl, hb⟩)
  go_ret
  exact ⟨rfl, hb⟩

/-- A reader at block R over a text, which lies in the block ahead of it: the text l, of which p bytes have been read. -/
def Rd (W : World) (R : Nat) (l : List UInt8) (p : Nat) : Prop :=
  W.heap[R]? = some (.cells #[.func (.func 114) #[] #[.pointer (some ⟨R - 1, 0, none⟩)], .int .i64 l.length, .int .i64 p, .int .u32 (crcN (l.take p) : Nat)] 170 (0, 0)) ∧
  W.heap[R - 1]? = some (.cells #[.string ⟨l.toArray⟩] 9 (0, 0))
/-- What is given up with the error number k. -/
def gave (k : Int) : List PanicEntry := [{ v := .iface 25 (.int .i64 k), recovered := false }]

theorem drew_grown (w : World) (n : Nat) (row : Option Nat) : w.grownBy (w.drewN n) row := ⟨rfl, rfl, rfl, Nat.le_refl _, fun _ _ _ => rfl⟩

theorem gtrans {A B C : World} {row : Option Nat} (h : A.grownBy B row) (k : B.grownBy C row) : A.grownBy C row :=
  ⟨k.os.trans h.os, k.tape.trans h.tape, k.output.trans h.output, Nat.le_trans h.size k.size, fun j hj hne => (k.block j (Nat.lt_of_lt_of_le hj h.size) hne).trans (h.block j hj hne)⟩
theorem gnone {A B : World} {row : Option Nat} (h : A.grownBy B none) : A.grownBy B row := ⟨h.os, h.tape, h.output, h.size, fun j hj _ => h.block j hj (by simp)⟩
theorem gbelow {A B : World} {row : Option Nat} (h : Below A.heap.size A B) : A.grownBy B row := ⟨h.os, h.tape, h.output, h.size, fun j hj _ => h.block j hj⟩
theorem gset (w : World) (b o : Nat) (v : Value) : w.grownBy (w.setCell ⟨b, o, none⟩ v) (some b) :=
  ⟨rfl, rfl, rfl, by simp, fun k _ hk => Below.heap_setCell _ _ _ k (fun e => hk (by rw [e]))⟩
theorem Rd.of {A B : World} {R : Nat} {l : List UInt8} {p : Nat} (h : Rd A R l p) (h1 : B.heap[R]? = A.heap[R]?) (h2 : B.heap[R - 1]? = A.heap[R - 1]?) : Rd B R l p := ⟨h1.trans h.1, h2.trans h.2⟩
theorem Rd.lt {A : World} {R : Nat} {l : List UInt8} {p : Nat} (h : Rd A R l p) : R < A.heap.size := (Array.getElem?_eq_some_iff.1 h.1).1
theorem Rd.ne {A : World} {R : Nat} {l : List UInt8} {p : Nat} (h : Rd A R l p) : R ≠ R - 1 := by
  intro e
  have h2 := h.2
  rw [← e, h.1] at h2
  cases h2
theorem Rd.pos {A : World} {R : Nat} {l : List UInt8} {p : Nat} (h : Rd A R l p) : 0 < R := by have := h.ne; omega
theorem Rd.kept {A B : World} {R : Nat} {l : List UInt8} {p : Nat} (h : Rd A R l p) (hg : A.grownBy B none) : Rd B R l p := h.of (hg.block R h.lt (by simp)) (hg.block (R - 1) (by have := h.lt; omega) (by simp))
theorem Rd.keptBut {A B : World} {R k : Nat} {l : List UInt8} {p : Nat} (h : Rd A R l p) (hg : A.grownBy B (some k)) (hk : R < k) : Rd B R l p := h.of (hg.block R h.lt (by simp; omega)) (hg.block (R - 1) (by have := h.lt; omega) (by simp; omega))
theorem Rd.drew {A : World} {R : Nat} {l : List UInt8} {p : Nat} (h : Rd A R l p) (n : Nat) : Rd (A.drewN n) R l p := h
theorem Rd.not_box {A : World} {R k : Nat} {l : List UInt8} {p : Nat} {cs : Array Value} {t : TypeId} {fr : Nat × Nat} (h : Rd A R l p) (hk : A.heap[k]? = some (.cells cs t fr)) (ht : t ≠ 170) : k ≠ R := by
  rintro rfl
  have h1 := h.1
  rw [hk] at h1
  simp only [Option.some.injEq, Obj.cells.injEq] at h1
  exact ht h1.2.1

set_option maxRecDepth 100000 in
set_option maxHeartbeats 1000000 in
theorem bytes1_any (T : Nat) (l : List UInt8) (p n : Nat) (w : World) (ht : w.heap[T]? = some (.cells #[.string ⟨l.toArray⟩] 9 (0, 0))) (hl : l.length ≤ 4611686018427387904) (hn : p + n ≤ l.length) :
    Calls Try.prog 114 #[.int .i64 p, .int .i64 n, .pointer (some ⟨T, 0, none⟩)] w fun e w' => e = .returned (.string ⟨((l.drop p).take n).toArray⟩) ∧ w.grownBy w' none := by
  have c0 := boxed_cell (i := 0) (v := .string ⟨l.toArray⟩) ht rfl
  clear ht
  go_enter Try.func114, Try.ntmps114
  go_wp2
  go_ret
  exact ⟨ret_str (by rw [Lib.extract_data]; simp), ⟨rfl, rfl, rfl, Nat.le_refl _, fun _ _ _ => rfl⟩⟩

set_option maxRecDepth 100000 in
set_option maxHeartbeats 1000000 in
theorem over_any (g : Nat) (lb : Array Value) (n : Int) (w : World) :
    Calls Try.prog 113 #[.int .i64 n, .func (.func g) #[] lb] w fun e w' => e = .returned (.pointer (some ⟨w.heap.size, 0, none⟩)) ∧ w' = w.alloc (.cells #[.func (.func g) #[] lb, .int .i64 n, .int .i64 0, .int .u32 4294967295] 170) := by
  go_enter Try.func113, Try.ntmps113
  go_wp2
  go_ret
  exact ⟨rfl, rfl⟩

set_option maxRecDepth 100000 in
set_option maxHeartbeats 1000000 in
theorem overText_any (l : List UInt8) (w : World) :
    Calls Try.prog 82 #[.string ⟨l.toArray⟩] w fun e w' => e = .returned (.pointer (some ⟨w.heap.size + 1, 0, none⟩)) ∧ Rd w' (w.heap.size + 1) l 0 ∧ Below w.heap.size w w' ∧ w'.heap.size = w.heap.size + 2 := by
  have hmf : ∀ (fn : Fn) (first cap : Array Value) (w : World), (Instr.makeFunc fn first cap).run Try.prog w = .ok (.func fn first cap) w := fun _ _ _ _ => rfl
  go_enter Try.func82, Try.ntmps82
  go_wp2_with (go_at_call 113; refine (over_any _ _ _ _).mono ?_; rintro e w1 ⟨rfl, rfl⟩)
  go_ret
  refine ⟨by simp, ⟨?_, ?_⟩, ?_, by simp⟩
  · have h := World.alloc_heap_new (w.alloc (.cells #[.string ⟨l.toArray⟩] 9)) (.cells #[.func (.func 114) #[] #[.pointer (some ⟨w.heap.size, 0, none⟩)], .int .i64 l.length, .int .i64 0, .int .u32 4294967295] 170)
    rw [World.size_alloc] at h
    exact h
  · exact (Below.heap_alloc _ _ _ (by simp)).trans (World.alloc_heap_new _ _)
  · exact ((Below.refl _ _).alloc (Nat.le_refl _) _).alloc (by simp) _

theorem overText_at (l : List UInt8) (w : World) (R : Nat) (hR : w.heap.size + 1 = R) :
    Calls Try.prog 82 #[.string ⟨l.toArray⟩] w fun e w' => e = .returned (.pointer (some ⟨R, 0, none⟩)) ∧ Rd w' R l 0 ∧ Below w.heap.size w w' ∧ w'.heap.size = R + 1 := by
  subst hR
  exact overText_any l w

set_option maxRecDepth 100000 in
set_option maxHeartbeats 1000000 in
theorem take_short (R : Nat) (l : List UInt8) (p : Nat) (n : Int) (w : World) (hr : Rd w R l p) (hp : p ≤ l.length) (_hl : l.length ≤ 4611686018427387904) (h0 : 0 ≤ n) (hn : (l.length : Int) < p + n) (hn2 : n ≤ 1000000) :
    Calls Try.prog 141 #[.pointer (some ⟨R, 0, none⟩), .int .i64 n] w fun e w' => e = .panicked (gave 2) ∧ w.grownBy w' none := by
  have c1 := boxed_cell (i := 1) (v := .int .i64 l.length) hr.1 rfl
  have c2 := boxed_cell (i := 2) (v := .int .i64 p) hr.1 rfl
  have hd : decide ((l.length : Int) - p < n) = true := by simp; omega
  go_enter Try.func141, Try.ntmps141
  go_wp2
  go_quiet (fail)
  go_wp2
  exact ⟨rfl, rfl, drew_grown _ _ _⟩

theorem takeG {w W : World} {R : Nat} {v0 v2 : Value} (h : W.cell? ⟨R, 0, none⟩ = some v0 ∧ W.cell? ⟨R, 2, none⟩ = some v2 ∧ w.grownBy W none) : w.grownBy W none := h.2.2
theorem takeS {w W w' : World} {R : Nat} {v0 v2 : Value} (h : W.cell? ⟨R, 0, none⟩ = some v0 ∧ W.cell? ⟨R, 2, none⟩ = some v2 ∧ w.grownBy W none) (hg : W.grownBy w' none) : w'.cell? ⟨R, 0, none⟩ = some v0 ∧ w'.cell? ⟨R, 2, none⟩ = some v2 ∧ w.grownBy w' none :=
  have c := fun i v (e : W.cell? ⟨R, i, none⟩ = some v) => (World.cell?_of_block (hg.block R (World.block_lt_of_cell? W _ e) (by simp))).trans e
  ⟨c 0 _ h.1, c 2 _ h.2.1, gtrans h.2.2 hg⟩

set_option maxRecDepth 100000 in
set_option maxHeartbeats 1000000 in
theorem take_ok (R : Nat) (l : List UInt8) (p : Nat) (n : Nat) (w : World) (hr : Rd w R l p) (hl : l.length ≤ 4611686018427387904) (hn : p + n ≤ l.length) (hn2 : n ≤ 100000) :
    Calls Try.prog 141 #[.pointer (some ⟨R, 0, none⟩), .int .i64 n] w fun e w' => e = .returned (.string ⟨((l.drop p).take n).toArray⟩) ∧ Rd w' R l (p + n) ∧ w.grownBy w' (some R) := by
  have HR : Hid (Rd w R l p) := hr
  have c0 := boxed_cell (i := 0) (v := .func (.func 114) #[] #[.pointer (some ⟨R - 1, 0, none⟩)]) hr.1 rfl
  have c1 := boxed_cell (i := 1) (v := .int .i64 l.length) hr.1 rfl
  have c2 := boxed_cell (i := 2) (v := .int .i64 p) hr.1 rfl
  have hd : decide ((l.length : Int) - p < n) = false := by simp; omega
  have HB : Hid (∀ W : World, (W.cell? ⟨R, 0, none⟩ = some (.func (.func 114) #[] #[.pointer (some ⟨R - 1, 0, none⟩)]) ∧ W.cell? ⟨R, 2, none⟩ = some (.int .i64 p) ∧ w.grownBy W none) → Calls Try.prog 114 #[.int .i64 p, .int .i64 n, .pointer (some ⟨R - 1, 0, none⟩)] W fun e w' => e = .returned (.string ⟨((l.drop p).take n).toArray⟩) ∧ W.grownBy w' none) := fun W hW => bytes1_any (R - 1) l p n W (hr.kept hW.2.2).2 hl hn
  clear hr
  go_enter Try.func141, Try.ntmps141
  go_wp2
  go_quiet (fail)
  go_wp2
  go_region_held3 (fun w' => w'.cell? ⟨R, 0, none⟩ = some (.func (.func 114) #[] #[.pointer (some ⟨R - 1, 0, none⟩)]) ∧ w'.cell? ⟨R, 2, none⟩ = some (.int .i64 p) ∧ w.grownBy w' none)
    (first | exact ⟨c0, c2, ⟨rfl, rfl, rfl, Nat.le_refl _, fun _ _ _ => rfl⟩⟩ | exact takeS (by assumption) (by assumption) | assumption)
    (first | (go_at_call 114; refine (HB.out _ ?_).mono ?_; assumption; rintro e w1 ⟨rfl, hg1⟩))
  have hg2 : w.grownBy w1 none := takeG (R := R) (v0 := .func (.func 114) #[] #[.pointer (some ⟨R - 1, 0, none⟩)]) (v2 := .int .i64 p) (by assumption)
  have hr1 := HR.out.kept hg2
  have HR1 : Hid _ := hr1
  have HG1 : Hid _ := hg2
  have d2 := boxed_cell (i := 2) (v := .int .i64 p) hr1.1 rfl
  have f2 := boxed_frozen (i := 2) hr1.1
  have hc := crcN_lt (l.take p)
  have HS : Hid (∀ W, _) := fun W => psum_any (crcN (l.take p)) ⟨((l.drop p).take n).toArray⟩ W hc (by simp [ByteArray.size]; omega)
  have HE : Hid (crcF (crcN (l.take p)) ((l.drop p).take n) = crcN (l.take (p + n))) := by
    show _ = _
    rw [← crcN_append, ← List.take_add]
  obtain ⟨W2, hW2⟩ : ∃ W2, W2 = w1.setCell ⟨R, 2, none⟩ (.int .i64 ((p : Int) + n)) := ⟨_, rfl⟩
  have hb2 := block_set (i := 2) hr1.1 (.int .i64 ((p : Int) + n))
  rw [← hW2] at hb2
  have d3 := boxed_cell (i := 3) (v := .int .u32 (crcN (l.take p) : Nat)) hb2 rfl
  have f3 := boxed_frozen (i := 3) hb2
  rw [hW2] at d3 f3
  have HB2 : Hid _ := hb2
  have HW2 : Hid _ := hW2
  clear hr1 hg2 hb2 hW2 hg1
  generalize hx : crcN (l.take p) = x at *
  have HX : Hid _ := hx
  clear hx
  go_wp2_with fail
  refine (HS.out _).mono ?_
  rintro e w3 ⟨rfl, rfl⟩
  go_wp2
  go_ret
  refine ⟨rfl, ⟨?_, ?_⟩, ?_⟩
  · have h := block_set (i := 3) HB2.out (.int .u32 ((crcF x ((l.drop p).take n) : Nat) : Int))
    rw [HW2.out, HE.out] at h
    rw [Int.natCast_add, HE.out]
    exact h
  · have hne := HR.out.ne
    exact (Below.heap_setCell _ _ _ _ (by show R - 1 ≠ R; omega)).trans ((Below.heap_setCell _ _ _ _ (by show R - 1 ≠ R; omega)).trans HR1.out.2)
  · exact gtrans (gnone HG1.out) (gtrans (gset _ R 2 _) (gset _ R 3 _))

/-- The number that some bytes are, the highest first. -/
def num (l : List UInt8) : Nat := l.foldl (fun n b => n * 256 + b.toNat) 0
theorem num_snoc (l : List UInt8) (b : UInt8) : num (l ++ [b]) = num l * 256 + b.toNat := by simp [num]
theorem num_fold : ∀ (l : List UInt8) (n m : Nat), n < m → l.foldl (fun n b => n * 256 + b.toNat) n < m * 256 ^ l.length
  | [], n, m, h => by simpa using h
  | b :: l, n, m, h => by
    have hb := b.toNat_lt
    have := num_fold l (n * 256 + b.toNat) (m * 256) (by omega)
    simp only [List.foldl_cons, List.length_cons]
    rw [Nat.pow_succ, Nat.mul_comm (256 ^ l.length), ← Nat.mul_assoc]
    exact this
theorem num_lt (l : List UInt8) : num l < 256 ^ l.length := by
  have := num_fold l 0 1 (by decide)
  simpa [num] using this

theorem or_byte (m : Nat) (b : UInt8) (hm : m < 16777216) : bits .or .u32 ((m : Int) * 256) ((b.toNat : Int) % 4294967296) = ((m * 256 + b.toNat : Nat) : Int) := by
  have hb := b.toNat_lt
  have h := bits_join .u32 32 (by decide) (fun n h0 h1 => by rw [IntKind.wrap_u32]; omega) 8 ((m : Int) * 256) (b.toNat : Int) (by omega) (by omega) (by omega) (by omega) (by omega) (by omega)
  rw [show (b.toNat : Int) % 4294967296 = (b.toNat : Int) from by omega, h]
  omega

theorem cell_marked {W : World} {k i : Nat} {cs : Array Value} {t : TypeId} {fr : Nat × Nat} {v : Value} (h : W.heap[k]? = some (.cells cs t fr)) (hi : cs[i]? = some v) : W.cell? ⟨k, i, none⟩ = some v := by
  simp [World.cell?, h, hi]

set_option maxRecDepth 100000 in
set_option maxHeartbeats 1000000 in
theorem pnum_any (bs : List UInt8) (w : World) (hk : bs.length ≤ 4) :
    Calls Try.prog 152 #[.string ⟨bs.toArray⟩] w fun e w' => e = .returned (.int .u32 (num bs : Nat)) ∧ w' = w := by
  go_enter Try.func152, Try.ntmps152
  go_wp2
  go_loop [3, 7] (fun n i => ∃ j : Nat, j ≤ bs.length ∧ i = .int .i64 j ∧ n = .int .u32 (num (bs.take j) : Nat)) (fun _ i => bs.length - (intOf i).toNat)
  case atStart => exact ⟨0, Nat.zero_le _, rfl, rfl⟩
  case round =>
    obtain ⟨j, hj, rfl, rfl⟩ := hrel
    by_cases hlt : j < bs.length
    · have hts : bs.take (j + 1) = bs.take j ++ [bs[j]] := List.take_succ_eq_append_getElem (by omega)
      have HS : Hid (num (bs.take (j + 1)) = num (bs.take j) * 256 + bs[j].toNat) := by
        show _ = _
        rw [hts, num_snoc]
      have hlt2 : num (bs.take j) < 16777216 := by
        have h1 := num_lt (bs.take j)
        have h2 : (bs.take j).length ≤ 3 := by simp; omega
        have h3 : 256 ^ (bs.take j).length ≤ 256 ^ 3 := Nat.pow_le_pow_right (by decide) h2
        omega
      have eo := or_byte (num (bs.take j)) bs[j] hlt2
      clear hts
      generalize num (bs.take j) = m at *
      have HE : Hid _ := eo
      clear eo
      go_wp2
      go_round
      case rel => exact ⟨j + 1, by omega, by go_num, by rw [HS.out, ← HE.out]; rfl⟩
      case measure => simp [intOf]; omega
    · go_wp2
      go_ret
      obtain rfl : j = bs.length := by omega
      rw [List.take_length]
      exact ⟨rfl, rfl⟩

set_option maxRecDepth 100000 in
set_option maxHeartbeats 1000000 in
theorem number_ok (R : Nat) (l : List UInt8) (p k : Nat) (w : World) (hr : Rd w R l p) (hl : l.length ≤ 4611686018427387904) (hn : p + k ≤ l.length) (hk : k ≤ 4) :
    Calls Try.prog 129 #[.pointer (some ⟨R, 0, none⟩), .int .i64 k] w fun e w' => e = .returned (.int .u32 (num ((l.drop p).take k) : Nat)) ∧ Rd w' R l (p + k) ∧ w.grownBy w' (some R) := by
  have hbl : ((l.drop p).take k).length ≤ 4 := by simp; omega
  have HT : Hid (∀ u : Unit, Calls Try.prog 141 #[.pointer (some ⟨R, 0, none⟩), .int .i64 k] w fun e w' => e = .returned (.string ⟨((l.drop p).take k).toArray⟩) ∧ Rd w' R l (p + k) ∧ w.grownBy w' (some R)) := fun _ => take_ok R l p k w hr hl hn (by omega)
  generalize (l.drop p).take k = bs at *
  go_enter Try.func129, Try.ntmps129
  go_wp2_with fail
  refine (HT.out ()).mono ?_
  rintro e w1 ⟨rfl, hr1, hg1⟩
  have HR : Hid _ := hr1
  have HG : Hid _ := hg1
  clear hr1 hg1
  go_wp2_with (go_at_call 152; refine (pnum_any bs _ hbl).mono ?_; rintro e w2 ⟨rfl, rfl⟩)
  go_ret
  exact ⟨rfl, HR.out, HG.out⟩
end Go.Proofs.Ytdjmhagclcfnfaa
