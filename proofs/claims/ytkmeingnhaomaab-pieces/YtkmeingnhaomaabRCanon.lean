/- The reference's Canon. -/
import Derived.Test.YtkmeingnhaomaabTx
namespace Go.Proofs.Ytkmeingnhaomaab
open Go.RowKit Go.Shelf

/-- Of each block the last record. -/
def lastR (rs : List Rc) (i : Nat) : Option Rc := rs.reverse.find? (fun r => r.block == (i : Int))
def lastsR (rs : List Rc) (b : Nat) : List Rc := (List.range b).filterMap (lastR rs)
/-- What Canon answers, purely. -/
def canonR (l : List UInt8) : Int ⊕ (Nat × Nat × Nat × Nat × List Rc) :=
  match openG [83, 84, 82, 85] 18 400 l with
  | .inl k => .inl k
  | .inr (f, t, b, z, m) => match walkS (stepG true b z) m (-1) (l.drop 18) with
    | (_, .inl k) => .inl k
    | (rs, .inr q) => if q.length ≠ 0 then .inl 8 else .inr (f, t, b, z, lastsR rs b)
def ToldC (l : List UInt8) (w : World) (e : Ending) (w' : World) : Prop :=
  w.grownBy w' none ∧
    ((∃ k, canonR l = .inl k ∧ e = .returned (.tuple #[.string ⟨#[]⟩, .int .i64 k])) ∨
     (∃ f t b z rs, canonR l = .inr (f, t, b, z, rs) ∧ e = .returned (.tuple #[.string ⟨(serB f t b z rs).toArray⟩, .int .i64 0])))

theorem lastsR_succ (rs : List Rc) (b : Nat) : lastsR rs (b + 1) = lastsR rs b ++ (lastR rs b).toList := by
  unfold lastsR
  rw [List.range_succ, List.filterMap_append]
  cases h : lastR rs b with
  | none => simp [h]
  | some r => simp [h]
/-- Looking from the end. -/
theorem lastR_none (rs : List Rc) (b : Nat) (h : ∀ r ∈ rs, r.block ≠ b) : lastR rs b = none := by
  unfold lastR
  rw [List.find?_eq_none]
  intro r hr
  simpa using h r (by simpa using hr)
theorem lastR_some (rs : List Rc) (b k : Nat) (hk : k < rs.length) (h : ∀ r ∈ rs.drop (k + 1), r.block ≠ b) (he : rs[k].block = b) : lastR rs b = some rs[k] := by
  unfold lastR
  have hd : rs = rs.take k ++ rs[k] :: rs.drop (k + 1) := by rw [← List.drop_eq_getElem_cons hk, List.take_append_drop]
  have h2 : rs.reverse = (rs.drop (k + 1)).reverse ++ rs[k] :: (rs.take k).reverse := by
    conv => lhs; rw [hd]
    simp
  rw [h2, List.find?_append, List.find?_eq_none.2 (fun r hr => by simpa using h r (by simpa using hr)), Option.none_or, List.find?_cons_of_pos (by simp [he])]
theorem openG_err (M : List UInt8) (least most : Nat) (l : List UInt8) (k : Int) (h : openG M least most l = .inl k) : 2 ≤ k ∧ k ≤ 8 := by
  unfold openG at h
  repeat' split at h
  all_goals simp only [Sum.inl.injEq, reduceCtorEq] at h
  all_goals omega

theorem walkS_err (any : Bool) (b z : Nat) : ∀ (n : Nat) (last : Int) (q : List UInt8) (rs : List Rc) (k : Int), walkS (stepG any b z) n last q = (rs, .inl k) → 2 ≤ k ∧ k ≤ 8
  | 0, last, q, rs, k, h => by simp [walkS] at h
  | n + 1, last, q, rs, k, h => by
    rw [walkS] at h
    cases hs : stepG any b z last q with
    | inl k' =>
      rw [hs] at h
      simp only [Prod.mk.injEq, Sum.inl.injEq] at h
      obtain ⟨-, rfl⟩ := h
      exact stepG_err any b z last q k' hs
    | inr x =>
      obtain ⟨r, q'⟩ := x
      rw [hs] at h
      simp only [Prod.mk.injEq] at h
      cases h2 : walkS (stepG any b z) n r.block q' with
      | mk rs2 y =>
        rw [h2] at h
        obtain ⟨-, rfl⟩ := h
        exact walkS_err any b z n _ _ _ _ h2
theorem walkS_length (any : Bool) (b z : Nat) : ∀ (n : Nat) (last : Int) (q : List UInt8) (rs : List Rc) (q' : List UInt8), walkS (stepG any b z) n last q = (rs, .inr q') → rs.length = n
  | 0, last, q, rs, q', h => by simp [walkS] at h; simp [h.1]
  | n + 1, last, q, rs, q', h => by
    rw [walkS] at h
    cases hs : stepG any b z last q with
    | inl k' =>
      rw [hs] at h
      simp at h
    | inr x =>
      obtain ⟨r, q1⟩ := x
      rw [hs] at h
      simp only [Prod.mk.injEq] at h
      cases h2 : walkS (stepG any b z) n r.block q1 with
      | mk rs2 y =>
        rw [h2] at h
        obtain ⟨rfl, rfl⟩ := h
        rw [List.length_cons, walkS_length any b z n _ _ _ _ h2]
/-- What is read is right, of any order. -/
def OkRec (b z : Nat) (r : Rc) : Prop := 0 ≤ r.block ∧ r.block < b ∧ (r.data.size : Int) = if r.free then 0 else (z : Int)
theorem walkS_okRec (any : Bool) (b z : Nat) : ∀ (n : Nat) (last : Int) (q : List UInt8) (rs : List Rc) (y : Int ⊕ List UInt8), walkS (stepG any b z) n last q = (rs, y) → ∀ r ∈ rs, OkRec b z r
  | 0, last, q, rs, y, h => by simp [walkS] at h; simp [h.1]
  | n + 1, last, q, rs, y, h => by
    rw [walkS] at h
    cases hs : stepG any b z last q with
    | inl k' =>
      rw [hs] at h
      simp only [Prod.mk.injEq] at h
      obtain ⟨rfl, -⟩ := h
      intro r hr
      cases hr
    | inr x =>
      obtain ⟨r0, q1⟩ := x
      rw [hs] at h
      simp only [Prod.mk.injEq] at h
      cases h2 : walkS (stepG any b z) n r0.block q1 with
      | mk rs2 y2 =>
        rw [h2] at h
        obtain ⟨rfl, -⟩ := h
        intro r hr
        rcases List.mem_cons.1 hr with rfl | hr
        · unfold stepG at hs
          cases h3 : rdRec z q with
          | inl k => rw [h3] at hs; cases hs
          | inr x =>
            obtain ⟨r1, q2⟩ := x
            rw [h3] at hs
            simp only [] at hs
            split at hs
            · rename_i hc
              simp only [Sum.inr.injEq, Prod.mk.injEq] at hs
              obtain ⟨rfl, rfl⟩ := hs
              have h4 := rdRec_ok z q _ _ h3
              exact ⟨h4.2.2.1, hc.1, h4.2.1⟩
            · cases hs
        · exact walkS_okRec any b z n _ _ _ _ h2 r hr
theorem lastsR_ok (b z : Nat) (rs : List Rc) (h : ∀ r ∈ rs, OkRec b z r) : ∀ k, k ≤ b → recsOk b z (-1) (lastsR rs k) = true ∧ lastOf (-1) (lastsR rs k) < k
  | 0, _ => ⟨rfl, by simp [lastsR, lastOf]⟩
  | k + 1, hk => by
    obtain ⟨h1, h2⟩ := lastsR_ok b z rs h k (by omega)
    rw [lastsR_succ]
    cases hl : lastR rs k with
    | none =>
      simp only [Option.toList_none, List.append_nil]
      exact ⟨h1, by omega⟩
    | some r =>
      have hm : r ∈ rs := by simpa using List.mem_of_find?_eq_some hl
      have hb : r.block = (k : Int) := by simpa using List.find?_some hl
      obtain ⟨-, h4, h5⟩ := h r hm
      simp only [Option.toList_some]
      rw [recsOk_append, h1, Bool.true_and, lastOf_snoc]
      refine ⟨?_, by omega⟩
      simp only [recsOk, Bool.and_true]
      exact decide_eq_true ⟨by omega, h4, h5⟩
/-- .. in one shape. -/
theorem recsG_shape {any : Bool} {b z n : Nat} {q : List UInt8} {w w' : World} {e : Ending} (h : RecsSaid any b z n q w e w') :
    ∃ a ln cp s k, e = .returned (.tuple #[.slice a ln cp, .string s, .int .i64 k]) ∧ w.grownBy w' none ∧
      ((∃ rs, walkS (stepG any b z) n (-1) q = (rs, .inl k) ∧ 2 ≤ k) ∨ (∃ rs q', walkS (stepG any b z) n (-1) q = (rs, .inr q') ∧ s = ⟨q'.toArray⟩ ∧ k = 0 ∧ OwnsR w.heap.size w' (.slice a ln cp) rs)) := by
  obtain ⟨hg, (⟨rs, k, hw, rfl⟩ | ⟨rs, q', v, hw, rfl, ho⟩)⟩ := h
  · exact ⟨none, 0, 0, _, k, rfl, hg, .inl ⟨rs, hw, (walkS_err any b z n (-1) q rs k hw).1⟩⟩
  · obtain ⟨a, ln, cp, rfl⟩ := ho.slice
    exact ⟨a, ln, cp, _, 0, rfl, hg, .inr ⟨rs, q', hw, rfl, rfl, ho⟩⟩

theorem grow_but {w W W' : World} {sb : Nat} (hsb : w.heap.size ≤ sb) (h : w.grownBy W none) (hk : W.grownBy W' (some sb)) : w.grownBy W' none :=
  grow_own h hk (.inr fun x e => by simp only [Option.some.injEq] at e; omega)

end Go.Proofs.Ytkmeingnhaomaab
