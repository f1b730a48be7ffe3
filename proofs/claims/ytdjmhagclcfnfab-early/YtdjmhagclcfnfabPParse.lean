/- The program's Parse. -/
import Derived.Test.YtdjmhagclcfnfabPCollect2
import Derived.Recover
import Derived.Defers
import Derived.Laws.Pointers
namespace Go.Proofs.Ytdjmhagclcfnfab
open Go.RowKit Go.Shelf

/-- P3, as mathematics: the error, or the stream. -/
def parseR (l : List UInt8) : Int ⊕ (Nat × Nat × Nat × Nat × List Rc) :=
  match openR l with
  | .inl k => .inl k
  | .inr (f, t, b, z, m) =>
    match walkR b z m (-1) (l.drop 18) with
    | (_, .inl k) => .inl k
    | (rs, .inr q) => match endR l (l.length - q.length) with
      | some k => .inl k
      | none => .inr (f, t, b, z, rs)

theorem OwnsR.base {B B' : Nat} {W : World} {v : Value} {rs : List Rc} (h : OwnsR B W v rs) (hb : B' ≤ B) : OwnsR B' W v rs := by
  have h0 : W.ownsRow B 35 3 v rs.length (recVals rs) := h
  refine ⟨h0.1, ?_⟩
  rcases h0.2 with hn | ⟨g, cap, cur, hv, hbg, rest⟩
  · exact .inl hn
  · exact .inr ⟨g, cap, cur, hv, Nat.le_trans hb hbg, rest⟩
theorem OwnsR.set {B : Nat} {W : World} {v : Value} {rs : List Rc} (h : OwnsR B W v rs) {k o : Nat} {x : Value} (hk : k < B) : OwnsR B (W.setCell ⟨k, o, none⟩ x) v rs := by
  refine World.ownsRow.kept h (gset W k o x) ?_
  rcases h.2 with ⟨rfl, _⟩ | ⟨g, cap, cur, rfl, hbg, _⟩
  · exact .inl rfl
  · refine .inr fun e => ?_
    have : g = k := by simpa [Value.ownBlock] using e
    omega
theorem OwnsR.drew {B : Nat} {W : World} {v : Value} {rs : List Rc} (h : OwnsR B W v rs) (n : Nat) : OwnsR B (W.drewN n) v rs := h
/-- What turned lay behind what there was. -/
theorem grown_fresh {A B C : World} {r : Nat} (h : A.grownBy B none) (k : B.grownBy C (some r)) (hr : A.heap.size ≤ r) : A.grownBy C none :=
  ⟨k.os.trans h.os, k.tape.trans h.tape, k.output.trans h.output, Nat.le_trans h.size k.size, fun j hj hne => (k.block j (Nat.lt_of_lt_of_le hj h.size) (by simp; omega)).trans (h.block j hj hne)⟩

/-- An end within a region (a panic): nothing comes behind it. -/
theorem ends_here {G : Prop} (W : World) (h : G) : wpAny Try.prog Region.Mode.any #[] (fun _ _ _ => True) 0 #[] { tmps := #[], defers := [] } W → G := fun _ => h

/-- So many records of a text and its end: the error, or they. -/
def recsR (b z m p0 : Nat) (l : List UInt8) : Int ⊕ List Rc :=
  match walkR b z m (-1) (l.drop p0) with
  | (_, .inl k) => .inl k
  | (rs, .inr q) => match endR l (l.length - q.length) with
    | some k => .inl k
    | none => .inr rs

/-- records, and what Collect then makes of them. -/
theorem records_told (R f t b z mm m p0 : Nat) (l : List UInt8) (w : World) (hr : Rd w R l p0) (hp : p0 ≤ l.length) (hp1 : p0 ≤ 50) (hl : l.length ≤ 4611686018427387904) (hz : z ≤ 64) (hm : m ≤ 100) :
    Calls Try.prog 21 #[.pointer (some ⟨R, 0, none⟩), .agg #[.int .i64 f, .int .i64 t, .int .i64 b, .int .i64 z, .int .i64 mm], .int .i64 m] w fun e w' => ∃ fv, e = .returned (.func (.func 36) #[] fv) ∧ w.grownBy w' none ∧
      Calls Try.prog 23 #[.func (.func 36) #[] fv] w' fun e2 w2 => w'.grownBy w2 (some R) ∧
        ((∃ k, recsR b z m p0 l = .inl k ∧ e2 = .panicked (gave k)) ∨ (∃ rs v, recsR b z m p0 l = .inr rs ∧ e2 = .returned v ∧ OwnsR w'.heap.size w2 v rs)) := by
  refine (records_any R f t b z mm m w).mono ?_
  rintro e w' ⟨rfl, hw'⟩
  have hg : w.grownBy w' none := by rw [hw']; exact gallocR (gallocR (galloc _ _ _) _) _
  have hs : w'.heap.size = w.heap.size + 3 := by rw [hw']; simp
  have hlR := hr.lt
  have hi : w'.heap[w.heap.size]? = some (.cells #[.pointer (some ⟨R, 0, none⟩)] 47 (0, 0)) := by
    rw [hw']
    exact (Below.heap_alloc _ _ _ (by simp; omega)).trans ((Below.heap_alloc _ _ _ (by simp)).trans (World.alloc_heap_new _ _))
  have hh : w'.heap[w.heap.size + 1]? = some (.cells #[.int .i64 f, .int .i64 t, .int .i64 b, .int .i64 z, .int .i64 mm] 50 (0, 0)) := by
    rw [hw']
    refine (Below.heap_alloc _ _ _ (by simp)).trans ?_
    have h := World.alloc_heap_new (w.alloc (.cells #[.pointer (some ⟨R, 0, none⟩)] 47)) (.cells #[.int .i64 f, .int .i64 t, .int .i64 b, .int .i64 z, .int .i64 mm] 50)
    rwa [World.size_alloc] at h
  have hn : w'.heap[w.heap.size + 2]? = some (.cells #[.int .i64 m] 3 (0, 0)) := by
    rw [hw']
    have h := World.alloc_heap_new ((w.alloc (.cells #[.pointer (some ⟨R, 0, none⟩)] 47)).alloc (.cells #[.int .i64 f, .int .i64 t, .int .i64 b, .int .i64 z, .int .i64 mm] 50)) (.cells #[.int .i64 m] 3)
    rwa [World.size_alloc, World.size_alloc] at h
  refine ⟨_, rfl, hg, ?_⟩
  refine (collect_wide w' (enters_of Try.func36 (by kernel_rfl) rfl)
    (records_seq 8 (by decide) R (w.heap.size + 1) w.heap.size (w.heap.size + 2) f t b z mm m l p0 w' (Rd.kept hr hg) hp hp1 hl hz hm hh hi hn)
    (fun k hk => by rcases hk with rfl | rfl | rfl | rfl | rfl <;> omega) (fun b hb => by cases hb; omega) (fun pre x hx => by obtain ⟨_, _, h⟩ := hx; omega)).mono ?_
  rintro e w2 ⟨hg2, (⟨xs, v, ⟨q', hw, he⟩, rfl, hown⟩ | ⟨ch, xs, ⟨k, rfl, hk⟩, rfl⟩)⟩
  · refine ⟨hg2, .inr ⟨xs, v, ?_, rfl, hown⟩⟩
    unfold recsR
    rw [hw]
    simp only []
    rw [he]
  · refine ⟨hg2, .inl ⟨k, ?_, rfl⟩⟩
    unfold recsR
    rcases hk with hk | ⟨q', hw, he⟩
    · rw [hk]
    · rw [hw]
      simp only []
      rw [he]

theorem box5_grown {W W' : World} {k : Nat} {row : Option Nat} {cs : Array Value} {t : TypeId} (h : W.heap[k]? = some (.cells cs t (0, 0))) (hg : W.grownBy W' row) (hk : some k ≠ row) : W'.heap[k]? = some (.cells cs t (0, 0)) :=
  (hg.block k (Array.getElem?_eq_some_iff.1 h).1 hk).trans h
theorem box5_cells {W : World} {k : Nat} {t : TypeId} {v0 v1 v2 v3 v4 : Value} (h : W.heap[k]? = some (.cells #[v0, v1, v2, v3, v4] t (0, 0))) :
    W.cell? ⟨k, 0, none⟩ = some v0 ∧ W.cell? ⟨k, 1, none⟩ = some v1 ∧ W.cell? ⟨k, 2, none⟩ = some v2 ∧ W.cell? ⟨k, 3, none⟩ = some v3 ∧ W.cell? ⟨k, 4, none⟩ = some v4 ∧ W.heap[k]? = some (.cells #[v0, v1, v2, v3, v4] t (0, 0)) :=
  ⟨boxed_cell (i := 0) h rfl, boxed_cell (i := 1) h rfl, boxed_cell (i := 2) h rfl, boxed_cell (i := 3) h rfl, boxed_cell (i := 4) h rfl, h⟩
theorem box5_last {W : World} {k : Nat} {t : TypeId} {v0 v1 v2 v3 v4 : Value} (h : W.cell? ⟨k, 0, none⟩ = some v0 ∧ W.cell? ⟨k, 1, none⟩ = some v1 ∧ W.cell? ⟨k, 2, none⟩ = some v2 ∧ W.cell? ⟨k, 3, none⟩ = some v3 ∧ W.cell? ⟨k, 4, none⟩ = some v4 ∧ W.heap[k]? = some (.cells #[v0, v1, v2, v3, v4] t (0, 0))) : W.heap[k]? = some (.cells #[v0, v1, v2, v3, v4] t (0, 0)) := h.2.2.2.2.2
theorem box5_froz {W : World} {k : Nat} {t : TypeId} {cs : Array Value} (h : W.heap[k]? = some (.cells cs t (0, 0))) :
    W.frozen? ⟨k, 0, none⟩ = false ∧ W.frozen? ⟨k, 1, none⟩ = false ∧ W.frozen? ⟨k, 2, none⟩ = false ∧ W.frozen? ⟨k, 3, none⟩ = false ∧ W.frozen? ⟨k, 4, none⟩ = false :=
  ⟨boxed_frozen h, boxed_frozen h, boxed_frozen h, boxed_frozen h, boxed_frozen h⟩

theorem OwnsR.keptN {B : Nat} {W W' : World} {v : Value} {rs : List Rc} (h : OwnsR B W v rs) (hg : W.grownBy W' none) : OwnsR B W' v rs := by
  refine World.ownsRow.kept h hg ?_
  rcases h.2 with ⟨rfl, _⟩ | ⟨g, cap, cur, rfl, _⟩
  · exact .inl rfl
  · exact .inr (by simp [Value.ownBlock])
theorem box_set5 {W : World} {k j : Nat} {o : Obj} (h : W.heap[k]? = some o) (hne : k ≠ j) (v0 v1 v2 v3 v4 : Value) :
    (((((W.setCell ⟨j, 0, none⟩ v0).setCell ⟨j, 1, none⟩ v1).setCell ⟨j, 2, none⟩ v2).setCell ⟨j, 3, none⟩ v3).setCell ⟨j, 4, none⟩ v4).heap[k]? = some o :=
  (Below.heap_setCell _ _ _ _ hne).trans ((Below.heap_setCell _ _ _ _ hne).trans ((Below.heap_setCell _ _ _ _ hne).trans ((Below.heap_setCell _ _ _ _ hne).trans ((Below.heap_setCell _ _ _ _ hne).trans h))))

theorem parseR_recs (l : List UInt8) (f t b z m : Nat) (ho : openR l = .inr (f, t, b, z, m)) : parseR l = match recsR b z m 18 l with | .inl k => .inl k | .inr rs => .inr (f, t, b, z, rs) := by
  unfold parseR recsR
  rw [ho]
  simp only []
  rcases walkR b z m (-1) (l.drop 18) with ⟨rs, (k | q)⟩
  · rfl
  · simp only []
    cases endR l (l.length - q.length) with
    | none => rfl
    | some k => rfl

end Go.Proofs.Ytdjmhagclcfnfab
