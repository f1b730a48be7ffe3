/- The program's Parse. -/
import Derived.Test.YtdjmhagclcfnfaaPCollect2
import Derived.Recover
import Derived.Defers
import Derived.Laws.Pointers
namespace Go.Proofs.Ytdjmhagclcfnfaa
open Go.RowKit Go.Shelf

/-- P3, as mathematics: the error, or the stream. -/
def parseR (l : List UInt8) : Int ⊕ (Nat × Nat × Nat × Nat × List Rc) :=
  match openR l with
  | .inl k => .inl k
  | .inr (f, t, b, z, m) =>
    match walkR b z m (-1) (l.drop 18) with
    | (_, .inl k) => .inl k
    | (rs, .inr q) => match endR l (l.length - q.length) with
      | some k => .inl k
      | none => .inr (f, t, b, z, rs)

theorem OwnsR.base {B B' : Nat} {W : World} {v : Value} {rs : List Rc} (h : OwnsR B W v rs) (hb : B' ≤ B) : OwnsR B' W v rs := by
  have h0 : W.ownsRow B 34 3 v rs.length (recVals rs) := h
  refine ⟨h0.1, ?_⟩
  rcases h0.2 with hn | ⟨g, cap, cur, hv, hbg, rest⟩
  · exact .inl hn
  · exact .inr ⟨g, cap, cur, hv, Nat.le_trans hb hbg, rest⟩
theorem OwnsR.set {B : Nat} {W : World} {v : Value} {rs : List Rc} (h : OwnsR B W v rs) {k o : Nat} {x : Value} (hk : k < B) : OwnsR B (W.setCell ⟨k, o, none⟩ x) v rs := by
  refine World.ownsRow.kept h (gset W k o x) ?_
  rcases h.2 with ⟨rfl, _⟩ | ⟨g, cap, cur, rfl, hbg, _⟩
  · exact .inl rfl
  · refine .inr fun e => ?_
    have : g = k := by simpa [Value.ownBlock] using e
    omega
theorem OwnsR.drew {B : Nat} {W : World} {v : Value} {rs : List Rc} (h : OwnsR B W v rs) (n : Nat) : OwnsR B (W.drewN n) v rs := h
/-- What turned lay behind what there was. -/
theorem grown_fresh {A B C : World} {r : Nat} (h : A.grownBy B none) (k : B.grownBy C (some r)) (hr : A.heap.size ≤ r) : A.grownBy C none :=
  ⟨k.os.trans h.os, k.tape.trans h.tape, k.output.trans h.output, Nat.le_trans h.size k.size, fun j hj hne => (k.block j (Nat.lt_of_lt_of_le hj h.size) (by simp; omega)).trans (h.block j hj hne)⟩

/-- An end within a region (a panic): nothing comes behind it. -/
theorem ends_here {G : Prop} (W : World) (h : G) : wpAny Try.prog Region.Mode.any #[] (fun _ _ _ => True) 0 #[] { tmps := #[], defers := [] } W → G := fun _ => h

/-- So many records of a text and its end: the error, or they. -/
def recsR (b z m p0 : Nat) (l : List UInt8) : Int ⊕ List Rc :=
  match walkR b z m (-1) (l.drop p0) with
  | (_, .inl k) => .inl k
  | (rs, .inr q) => match endR l (l.length - q.length) with
    | some k => .inl k
    | none => .inr rs

/-- records, and what Collect then makes of them. -/
theorem records_told (R f t b z mm m p0 : Nat) (l : List UInt8) (w : World) (hr : Rd w R l p0) (hp : p0 ≤ l.length) (hp1 : p0 ≤ 50) (hl : l.length ≤ 4611686018427387904) (hz : z ≤ 64) (hm : m ≤ 100) :
    Calls Try.prog 86 #[.pointer (some ⟨R, 0, none⟩), .agg #[.int .i64 f, .int .i64 t, .int .i64 b, .int .i64 z, .int .i64 mm], .int .i64 m] w fun e w' => ∃ fv, e = .returned (.func (.func 117) #[] fv) ∧ w.grownBy w' none ∧
      Calls Try.prog 85 #[.func (.func 117) #[] fv] w' fun e2 w2 => w'.grownBy w2 (some R) ∧
        ((∃ k, recsR b z m p0 l = .inl k ∧ e2 = .panicked (gave k)) ∨ (∃ rs v, recsR b z m p0 l = .inr rs ∧ e2 = .returned v ∧ OwnsR w'.heap.size w2 v rs)) := by
  refine (records_any R f t b z mm m w).mono ?_
  rintro e w' ⟨rfl, hw'⟩
  have hg : w.grownBy w' none := by rw [hw']; exact gallocR (gallocR (galloc _ _ _) _) _
  have hs : w'.heap.size = w.heap.size + 3 := by rw [hw']; simp
  have hlR := hr.lt
  have hi : w'.heap[w.heap.size]? = some (.cells #[.pointer (some ⟨R, 0, none⟩)] 122 (0, 0)) := by
    rw [hw']
    exact (Below.heap_alloc _ _ _ (by simp; omega)).trans ((Below.heap_alloc _ _ _ (by simp)).trans (World.alloc_heap_new _ _))
  have hh : w'.heap[w.heap.size + 1]? = some (.cells #[.int .i64 f, .int .i64 t, .int .i64 b, .int .i64 z, .int .i64 mm] 101 (0, 0)) := by
    rw [hw']
    refine (Below.heap_alloc _ _ _ (by simp)).trans ?_
    have h := World.alloc_heap_new (w.alloc (.cells #[.pointer (some ⟨R, 0, none⟩)] 122)) (.cells #[.int .i64 f, .int .i64 t, .int .i64 b, .int .i64 z, .int .i64 mm] 101)
    rwa [World.size_alloc] at h
  have hn : w'.heap[w.heap.size + 2]? = some (.cells #[.int .i64 m] 3 (0, 0)) := by
    rw [hw']
    have h := World.alloc_heap_new ((w.alloc (.cells #[.pointer (some ⟨R, 0, none⟩)] 122)).alloc (.cells #[.int .i64 f, .int .i64 t, .int .i64 b, .int .i64 z, .int .i64 mm] 101)) (.cells #[.int .i64 m] 3)
    rwa [World.size_alloc, World.size_alloc] at h
  refine ⟨_, rfl, hg, ?_⟩
  refine (collect_wide w' (enters_of Try.func117 (by kernel_rfl) rfl)
    (records_seq 8 (by decide) R (w.heap.size + 1) w.heap.size (w.heap.size + 2) f t b z mm m l p0 w' (Rd.kept hr hg) hp hp1 hl hz hm hh hi hn)
    (fun k hk => by rcases hk with rfl | rfl | rfl | rfl | rfl <;> omega) (fun b hb => by cases hb; omega) (fun pre x hx => by obtain ⟨_, _, h⟩ := hx; omega)).mono ?_
  rintro e w2 ⟨hg2, (⟨xs, v, ⟨q', hw, he⟩, rfl, hown⟩ | ⟨ch, xs, ⟨k, rfl, hk⟩, rfl⟩)⟩
  · refine ⟨hg2, .inr ⟨xs, v, ?_, rfl, hown⟩⟩
    unfold recsR
    rw [hw]
    simp only []
    rw [he]
  · refine ⟨hg2, .inl ⟨k, ?_, rfl⟩⟩
    unfold recsR
    rcases hk with hk | ⟨q', hw, he⟩
    · rw [hk]
    · rw [hw]
      simp only []
      rw [he]

theorem box5_grown {W W' : World} {k : Nat} {row : Option Nat} {cs : Array Value} {t : TypeId} (h : W.heap[k]? = some (.cells cs t (0, 0))) (hg : W.grownBy W' row) (hk : some k ≠ row) : W'.heap[k]? = some (.cells cs t (0, 0)) :=
  (hg.block k (Array.getElem?_eq_some_iff.1 h).1 hk).trans h
theorem box5_cells {W : World} {k : Nat} {t : TypeId} {v0 v1 v2 v3 v4 : Value} (h : W.heap[k]? = some (.cells #[v0, v1, v2, v3, v4] t (0, 0))) :
    W.cell? ⟨k, 0, none⟩ = some v0 ∧ W.cell? ⟨k, 1, none⟩ = some v1 ∧ W.cell? ⟨k, 2, none⟩ = some v2 ∧ W.cell? ⟨k, 3, none⟩ = some v3 ∧ W.cell? ⟨k, 4, none⟩ = some v4 ∧ W.heap[k]? = some (.cells #[v0, v1, v2, v3, v4] t (0, 0)) :=
  ⟨boxed_cell (i := 0) h rfl, boxed_cell (i := 1) h rfl, boxed_cell (i := 2) h rfl, boxed_cell (i := 3) h rfl, boxed_cell (i := 4) h rfl, h⟩
theorem box5_last {W : World} {k : Nat} {t : TypeId} {v0 v1 v2 v3 v4 : Value} (h : W.cell? ⟨k, 0, none⟩ = some v0 ∧ W.cell? ⟨k, 1, none⟩ = some v1 ∧ W.cell? ⟨k, 2, none⟩ = some v2 ∧ W.cell? ⟨k, 3, none⟩ = some v3 ∧ W.cell? ⟨k, 4, none⟩ = some v4 ∧ W.heap[k]? = some (.cells #[v0, v1, v2, v3, v4] t (0, 0))) : W.heap[k]? = some (.cells #[v0, v1, v2, v3, v4] t (0, 0)) := h.2.2.2.2.2
theorem box5_froz {W : World} {k : Nat} {t : TypeId} {cs : Array Value} (h : W.heap[k]? = some (.cells cs t (0, 0))) :
    W.frozen? ⟨k, 0, none⟩ = false ∧ W.frozen? ⟨k, 1, none⟩ = false ∧ W.frozen? ⟨k, 2, none⟩ = false ∧ W.frozen? ⟨k, 3, none⟩ = false ∧ W.frozen? ⟨k, 4, none⟩ = false :=
  ⟨boxed_frozen h, boxed_frozen h, boxed_frozen h, boxed_frozen h, boxed_frozen h⟩

theorem OwnsR.keptN {B : Nat} {W W' : World} {v : Value} {rs : List Rc} (h : OwnsR B W v rs) (hg : W.grownBy W' none) : OwnsR B W' v rs := by
  refine World.ownsRow.kept h hg ?_
  rcases h.2 with ⟨rfl, _⟩ | ⟨g, cap, cur, rfl, _⟩
  · exact .inl rfl
  · exact .inr (by simp [Value.ownBlock])
theorem box_set5 {W : World} {k j : Nat} {o : Obj} (h : W.heap[k]? = some o) (hne : k ≠ j) (v0 v1 v2 v3 v4 : Value) :
    (((((W.setCell ⟨j, 0, none⟩ v0).setCell ⟨j, 1, none⟩ v1).setCell ⟨j, 2, none⟩ v2).setCell ⟨j, 3, none⟩ v3).setCell ⟨j, 4, none⟩ v4).heap[k]? = some o :=
  (Below.heap_setCell _ _ _ _ hne).trans ((Below.heap_setCell _ _ _ _ hne).trans ((Below.heap_setCell _ _ _ _ hne).trans ((Below.heap_setCell _ _ _ _ hne).trans ((Below.heap_setCell _ _ _ _ hne).trans h))))

theorem parseR_recs (l : List UInt8) (f t b z m : Nat) (ho : openR l = .inr (f, t, b, z, m)) : parseR l = match recsR b z m 18 l with | .inl k => .inl k | .inr rs => .inr (f, t, b, z, rs) := by
  unfold parseR recsR
  rw [ho]
  simp only []
  rcases walkR b z m (-1) (l.drop 18) with ⟨rs, (k | q)⟩
  · rfl
  · simp only []
    cases endR l (l.length - q.length) with
    | none => rfl
    | some k => rfl

set_option maxRecDepth 100000 in
set_option maxHeartbeats 1000000 in
theorem readStream_any (l : List UInt8) (w : World) (hl : l.length ≤ 4611686018427387904) :
    Calls Try.prog 50 #[.string ⟨l.toArray⟩] w fun e w' => w.grownBy w' none ∧
      ((∃ k, parseR l = .inl k ∧ e = .panicked (gave k)) ∨ (∃ f t b z rs v, parseR l = .inr (f, t, b, z, rs) ∧ e = .returned (.agg #[.int .i64 (f : Nat), .int .i64 (t : Nat), .int .i64 (b : Nat), .int .i64 (z : Nat), v]) ∧ OwnsR w.heap.size w' v rs)) := by
  go_enter Try.func50, Try.ntmps50
  go_wp2_with fail
  refine (overText_at l _ (w.heap.size + 2) (by simp)).mono ?_
  rintro e W1 ⟨rfl, hr1, hbl, hs1⟩
  have hb1 : W1.heap[w.heap.size]? = some (.cells #[.int .i64 0, .int .i64 0, .int .i64 0, .int .i64 0, .slice none 0 0] 24 (0, 0)) := (hbl.block _ (by simp)).trans (World.alloc_heap_new _ _)
  have hg1 : w.grownBy W1 none := gtrans (galloc _ _ _) (gbelow hbl)
  clear hbl
  have HR1 : Hid (Rd W1 (w.heap.size + 2) l 0) := hr1
  clear hr1
  go_wp2_with fail
  refine (phead (w.heap.size + 2) l W1 HR1.out hl).mono ?_
  clear HR1
  rintro e W2 ⟨hg2, (⟨k, hk, rfl⟩ | ⟨f, t, b, z, m, ho, rfl, hr2, h18, hok⟩)⟩
  · refine ⟨rfl, grown_fresh hg1 hg2 (by omega), .inl ⟨k, ?_, rfl⟩⟩
    unfold parseR
    rw [hk]
  have HO : Hid _ := ho
  have HB2 : Hid _ := (hg2.block w.heap.size (by omega) (by simp)).trans hb1
  have HG2 : Hid (w.grownBy W2 none) := grown_fresh hg1 hg2 (by omega)
  have HR2 : Hid (Rd W2 (w.heap.size + 2) l 18) := hr2
  have hs2 : w.heap.size + 3 ≤ W2.heap.size := by have := hg2.size; omega
  have hhd := hok
  simp only [headOk, wellHead, Bool.and_eq_true, decide_eq_true_eq] at hhd
  have hm100 : m ≤ 100 := by omega
  have hz64 : z ≤ 64 := by omega
  clear ho hg2 hg1 hr2 hb1 hok hhd
  obtain ⟨W3, hW3⟩ : ∃ W3, W3 = W2.alloc (.cells #[.int .i64 f, .int .i64 t, .int .i64 b, .int .i64 z, .int .i64 m] 101) := ⟨_, rfl⟩
  have hh3 : W3.heap[W2.heap.size]? = some (.cells #[.int .i64 f, .int .i64 t, .int .i64 b, .int .i64 z, .int .i64 m] 101 (0, 0)) := by rw [hW3]; exact World.alloc_heap_new _ _
  have hg3 : W2.grownBy W3 none := by rw [hW3]; exact galloc _ _ _
  have hs3 : W3.heap.size = W2.heap.size + 1 := by rw [hW3]; simp
  have hb3 : W3.heap[w.heap.size]? = _ := box5_grown HB2.out hg3 (by simp)
  go_wp2_with fail
  rw [← hW3]
  clear hW3
  have G3 : Hid (w.grownBy W3 none) := gtrans HG2.out hg3
  have HT : Hid (∀ u : Unit, _) := fun _ => records_told (w.heap.size + 2) f t b z m m 18 l W3.drew (Rd.drew (Rd.kept HR2.out hg3) 1) h18 (by decide) hl hz64 hm100
  have HB3 : Hid (W3.heap[w.heap.size]? = some (.cells #[.int .i64 0, .int .i64 0, .int .i64 0, .int .i64 0, .slice none 0 0] 24 (0, 0))) := hb3
  have HPR : Hid _ := parseR_recs l f t b z m HO.out
  have hne1 : W2.heap.size ≠ w.heap.size + 2 := by omega
  have hne2 : w.heap.size ≠ w.heap.size + 2 := by omega
  clear hb3 hg3
  cases hrec : recsR b z m 18 l with
  | inl k =>
    have HP : Hid (parseR l = .inl k) := by
      show _ = _
      rw [HPR.out, hrec]
    have HNO : Hid (∀ rs, recsR b z m 18 l = .inr rs → False) := fun rs h => by rw [hrec] at h; cases h
    have HEND : Hid (∀ (W4 W5 : World) (k' : Int), W3.drew.grownBy W4 none → W4.grownBy W5 (some (w.heap.size + 2)) → recsR b z m 18 l = .inl k' → w.grownBy W5 none ∧ ((∃ k, parseR l = .inl k ∧ Ending.panicked (gave k') = .panicked (gave k)) ∨ (∃ f t b z rs v, parseR l = .inr (f, t, b, z, rs) ∧ Ending.panicked (gave k') = .returned (.agg #[.int .i64 (f : Nat), .int .i64 (t : Nat), .int .i64 (b : Nat), .int .i64 (z : Nat), v]) ∧ OwnsR w.heap.size W5 v rs))) := fun W4 W5 k' h4 h5 hk => by
      rw [hrec] at hk
      cases hk
      exact ⟨grown_fresh (gtrans (gdrewR G3.out 1) h4) h5 (by omega), .inl ⟨_, HP.out, rfl⟩⟩
    obtain ⟨c0, c1, c2, c3, c4, -⟩ := box5_cells hh3
    have HL : Hid (∀ W : World, W3.drew.grownBy W none → W.cell? ⟨W2.heap.size, 0, none⟩ = some (.int .i64 f) ∧ W.cell? ⟨W2.heap.size, 1, none⟩ = some (.int .i64 t) ∧ W.cell? ⟨W2.heap.size, 2, none⟩ = some (.int .i64 b) ∧ W.cell? ⟨W2.heap.size, 3, none⟩ = some (.int .i64 z) ∧ W.cell? ⟨W2.heap.size, 4, none⟩ = some (.int .i64 m) ∧ W.heap[W2.heap.size]? = _) := fun W hg => box5_cells (box5_grown (W := W3.drew) hh3 hg (by simp))
    clear hh3
    go_region_with (first | (go_at_call 86; refine (HT.out ()).mono ?_; rintro e W4 ⟨fv, rfl, hg4, hC⟩; have HC : Hid (∀ u : Unit, _) := fun _ => hC; obtain ⟨d0, d1, d2, d3, d4, -⟩ := HL.out _ hg4; have G4 : Hid (W3.drew.grownBy W4 none) := hg4; clear hC hg4) | (go_at_call 85; refine (HC.out ()).mono ?_; rintro e W5 ⟨hg5, (⟨k', hk', rfl⟩ | ⟨rs, v, hk', rfl, hown⟩)⟩; refine ends_here W5 ⟨rfl, HEND.out _ _ _ G4.out hg5 hk'⟩ ?_; rotate_left; exact (HNO.out _ hk').elim))
    all_goals trivial
  | inr rs =>
    have HP : Hid (parseR l = .inr (f, t, b, z, rs)) := by
      show _ = _
      rw [HPR.out, hrec]
    have HC5 : Hid (∀ (W4 W5 : World) (e : Ending), W4.grownBy W5 (some (w.heap.size + 2)) ∧ ((∃ k, recsR b z m 18 l = .inl k ∧ e = .panicked (gave k)) ∨ (∃ rs v, recsR b z m 18 l = .inr rs ∧ e = .returned v ∧ OwnsR W4.heap.size W5 v rs)) → W4.grownBy W5 (some (w.heap.size + 2)) ∧ ∃ a ln cp, e = .returned (.slice a ln cp) ∧ OwnsR W4.heap.size W5 (.slice a ln cp) rs) := by
      rintro W4 W5 e ⟨hg, (⟨k, hk, rfl⟩ | ⟨rs', v, hk, rfl, ho⟩)⟩
      · rw [hrec] at hk; cases hk
      · rw [hrec] at hk
        cases hk
        obtain ⟨a, ln, cp, rfl⟩ : ∃ a ln cp, v = .slice a ln cp := by
          rcases ho.2 with ⟨rfl, _⟩ | ⟨g, cap, cur, rfl, _⟩
          · exact ⟨_, _, _, rfl⟩
          · exact ⟨_, _, _, rfl⟩
        exact ⟨hg, a, ln, cp, rfl, ho⟩
    have HRB : Hid (∀ (W4 W5 W6 : World), W3.drew.grownBy W4 none → W4.grownBy W5 (some (w.heap.size + 2)) → Below W5.heap.size W5 W6 → W6.heap[w.heap.size]? = some (.cells #[.int .i64 0, .int .i64 0, .int .i64 0, .int .i64 0, .slice none 0 0] 24 (0, 0)) ∧ w.grownBy W6 none) := fun W4 W5 W6 h4 h5 h6 =>
      ⟨box5_grown (box5_grown (box5_grown (W := W3.drew) HB3.out h4 (by simp)) h5 (by simp)) (gbelow (row := none) h6) (by simp), gtrans (grown_fresh (gtrans (gdrewR G3.out 1) h4) h5 (by omega)) (gbelow h6)⟩
    have HS4 : Hid (∀ W4 : World, W3.drew.grownBy W4 none → W4.heap[W2.heap.size]? = some (.cells #[.int .i64 f, .int .i64 t, .int .i64 b, .int .i64 z, .int .i64 m] 101 (0, 0))) := fun W4 h => box5_grown (W := W3.drew) hh3 h (by simp)
    have HS5 : Hid (∀ W4 W5 : World, W4.heap[W2.heap.size]? = some (.cells #[.int .i64 f, .int .i64 t, .int .i64 b, .int .i64 z, .int .i64 m] 101 (0, 0)) → W4.grownBy W5 (some (w.heap.size + 2)) → W5.heap[W2.heap.size]? = some (.cells #[.int .i64 f, .int .i64 t, .int .i64 b, .int .i64 z, .int .i64 m] 101 (0, 0))) := fun W4 W5 h hg => box5_grown h hg (by simpa using hne1)
    have HS6 : Hid (∀ W5 W6 : World, W5.heap[W2.heap.size]? = some (.cells #[.int .i64 f, .int .i64 t, .int .i64 b, .int .i64 z, .int .i64 m] 101 (0, 0)) → Below W5.heap.size W5 W6 → W6.heap[W2.heap.size]? = some (.cells #[.int .i64 f, .int .i64 t, .int .i64 b, .int .i64 z, .int .i64 m] 101 (0, 0))) := fun W5 W6 h hg => box5_grown h (gbelow (row := none) hg) (by simp)
    have hne3 : W2.heap.size ≠ w.heap.size := by omega
    clear hrec HPR
    go_region_held3 (fun w' => w'.cell? ⟨W2.heap.size, 0, none⟩ = some (.int .i64 f) ∧ w'.cell? ⟨W2.heap.size, 1, none⟩ = some (.int .i64 t) ∧ w'.cell? ⟨W2.heap.size, 2, none⟩ = some (.int .i64 b) ∧ w'.cell? ⟨W2.heap.size, 3, none⟩ = some (.int .i64 z) ∧ w'.cell? ⟨W2.heap.size, 4, none⟩ = some (.int .i64 m) ∧ w'.heap[W2.heap.size]? = some (.cells #[.int .i64 f, .int .i64 t, .int .i64 b, .int .i64 z, .int .i64 m] 101 (0, 0)))
      (first | with_reducible exact box5_cells hS6 | with_reducible exact box5_cells hS5 | with_reducible exact box5_cells hS4 | with_reducible exact box5_cells (box_set5 hS6 hne3 _ _ _ _ _) | exact box5_cells hh3)
      (first | (go_at_call 86; refine (HT.out ()).mono ?_; rintro e W4 ⟨fv, rfl, hg4, hC⟩; have HC : Hid (∀ u : Unit, _) := fun _ => hC; clear hC; have hS4 := HS4.out W4 hg4) | (go_at_call 85; refine (HC.out ()).mono ?_; rintro e W5 hh5; obtain ⟨hg5, a, ln, cp, rfl, hown⟩ := HC5.out _ _ _ hh5; have HOW : Hid (OwnsR W4.heap.size W5 (.slice a ln cp) rs) := hown; clear hown hh5; have hS5 := HS5.out W4 W5 hS4 hg5) | (go_at_call 84; refine (hstream_any _ _ _ _ _ _ _ _ _).mono ?_; rintro e W6 ⟨rfl, hb6⟩; obtain ⟨hrb, hgw⟩ := HRB.out _ _ _ hg4 hg5 hb6; obtain ⟨k0, k1, k2, k3, k4, -⟩ := box5_cells hrb; obtain ⟨z0, z1, z2, z3, z4⟩ := box5_froz hrb; have hS6 := HS6.out W5 W6 hS5 hb6))
    go_wp2
    refine bodyPost_ret (v := .agg #[.int .i64 f, .int .i64 t, .int .i64 b, .int .i64 z, .slice a ln cp]) (by simp [results, Try.results50, go_sem, k0, k1, k2, k3, k4]) rfl ?_
    have hs4 : w.heap.size < W4.heap.size := by
      have := hg4.size
      have e : W3.drew.heap.size = W3.heap.size := rfl
      omega
    have hO6 : OwnsR W4.heap.size W6 (.slice a ln cp) rs := OwnsR.keptN HOW.out (gbelow hb6)
    refine ⟨gfresh (gfresh (gfresh (gfresh (gfresh hgw (Nat.le_refl _)) (Nat.le_refl _)) (Nat.le_refl _)) (Nat.le_refl _)) (Nat.le_refl _), .inr ⟨f, t, b, z, rs, _, HP.out, rfl, ?_⟩⟩
    exact OwnsR.base (OwnsR.set (OwnsR.set (OwnsR.set (OwnsR.set (OwnsR.set hO6 hs4) hs4) hs4) hs4) hs4) (by omega)
end Go.Proofs.Ytdjmhagclcfnfaa
