/- Appending to a slice of bytes of one's own: a string; a byte. -/
import Derived.Test.YtkmeingnhaomaaaPNum
import Derived.Lib.AppendStr
import Derived.Deep.AppendLies
namespace Go.Proofs.Ytkmeingnhaomaaa
open Go.RowKit

theorem strCells_eq (s : ByteArray) : Lib.strCells s = byteVals s.data.toList := rfl

theorem run_str_at (w : World) (ty : TypeId) (B : Nat) (v : Value) (l : List UInt8) (s : ByteArray) (hown : OwnsB B w v l) (hlen : l.length + s.size ≤ 1000000) (hB : B ≤ w.heap.size) :
    ∃ v' w', (Builtin.append_ #[72, 9] ty #[v, .string s]).run Try.prog w = .ok v' w' ∧ OwnsB B w' v' (l ++ s.data.toList) ∧ Grew w w' v v' := by
  obtain ⟨i0, hi, hz0, hz1, hz2⟩ := info_parts Try.infoU8
  have hown0 : w.ownsRow B 5 1 v l.length (byteVals l) := hown
  obtain ⟨v', w', hr, h2, h3, h4⟩ := Lib.run_append_own_string (P := Try.prog) w B 72 9 ty 5 i0 Try.underlying72 Try.underlying9 hi hz0 hz1 hz2 v l.length (byteVals l) hown0 s (by unfold maxLen; omega) (by omega) hB
  refine ⟨v', w', hr, ?_, h3, ?_⟩
  · have e1 : l.length + s.size = (l ++ s.data.toList).length := by
      rw [List.length_append]
      rfl
    unfold OwnsB
    rw [byteVals_append, ← e1]
    exact h2
  · rcases hown0.2 with ⟨rfl, hn0⟩ | ⟨g, cap, cur, rfl, hbg, hg, hnc, hcm, hcs, htake⟩
    · by_cases hm : s.size = 0
      · left
        rw [h4.2 ⟨rfl, hm⟩]
      · have hr' := run_append_nil_string (P := Try.prog) w 72 9 ty 5 i0 (.int .u8 0) Try.underlying72 Try.underlying9 hi hz0 s (by omega) (by omega) (by rw [hz2]; omega)
        rw [hr] at hr'
        simp only [Result.ok.injEq] at hr'
        right
        exact ⟨w.heap.size, Nat.le_refl _, by rw [hr'.1]; rfl⟩
    · by_cases hroom : l.length + s.size ≤ cap
      · have hr' := Lib.run_append_room_string (P := Try.prog) w 72 9 ty 5 i0 Try.underlying72 Try.underlying9 hi hz1 g l.length cap cur hg s hroom (by omega)
        rw [hr] at hr'
        simp only [Result.ok.injEq] at hr'
        left
        rw [hr'.1]; rfl
      · have holds : ∀ j u, (byteVals l)[j]? = some u → w.cell? ((⟨g, 0, none⟩ : Addr).add j) = some u := hown0.cells (g := g) rfl
        have hr' := Lib.run_append_grow_string (P := Try.prog) w 72 9 ty 5 i0 (.int .u8 0) Try.underlying72 Try.underlying9 hi hz0 ⟨g, 0, none⟩ l.length cap (byteVals l) (by rw [hz1]; simp [byteVals]) holds s (by omega) (by omega) (by rw [hz2]; exact growslice_fits (by omega) (by omega))
        rw [hr] at hr'
        simp only [Result.ok.injEq] at hr'
        right
        exact ⟨w.heap.size, Nat.le_refl _, by rw [hr'.1]; rfl⟩

theorem wpList_str {w : World} {ops : Array Oper} {rest : List Oper} {o : Oper} {a : Act} {Q : Exit → Act → World → Prop} (hgd : o.guard = none) (sl x : Operand)
    (ho : o.op = .call { callee := .builtin .append, args := #[sl, x], argTypes := #[72, 9] })
    (B : Nat) (v : Value) (l : List UInt8) (s : ByteArray) (hs : a.eval sl = v) (hown : OwnsB B w v l) (hx : a.eval x = .string s) (hlen : l.length + s.size ≤ 1000000) (hB : B ≤ w.heap.size)
    (h : ∀ v' w', OwnsB B w' v' (l ++ s.data.toList) → Grew w w' v v' → wpList Try.prog ops Q rest (a.put o.dst v') w') : wpList Try.prog ops Q (o :: rest) a w := by
  refine wpList_plain hgd fun K hK => ?_
  obtain ⟨v', w', hr, h2, h3⟩ := run_str_at w o.type B v l s hown hlen hB
  unfold Oper.wp execOp
  simp only [ho, resolve, invoke, builtin, Sem.run_bind, Sem.run_pure, Result.andThen_ok, List.map_toArray, List.map_cons, List.map_nil, hs, hx, hr]
  exact hK _ _ (h v' w' h2 h3)

/-- The same at a step of a region that draws its order: one byte, which lies in a block of its own. -/
theorem step_byte {w : World} {ops : Array Oper} {o : Oper} {a : Act} {K : Act → World → Prop} {Q : Exit → Act → World → Prop} {E : Prop} (hgd : o.guard = none) (sl x : Operand)
    (ho : o.op = .call { callee := .builtin .append, args := #[sl, x], argTypes := #[72, 72] })
    (B : Nat) (v : Value) (l : List UInt8) (b : UInt8) (nb : Nat) (hs : a.eval sl = v) (hown : OwnsB B w v l) (hx : a.eval x = .slice (some ⟨nb, 0, none⟩) 1 1) (hc : w.cell? ⟨nb, 0, none⟩ = some (.int .u8 b.toNat)) (hlen : l.length ≤ 1000000) (hB : B ≤ w.heap.size)
    (h : ∀ v' w', OwnsB B w' v' (l ++ [b]) → Grew w w' v v' → K (a.put o.dst v') w') :
    if Region.wanted o (yielded ops a.tmps) = true then Oper.wp Try.prog o a w K Q else E := by
  obtain ⟨i0, hi, hz0, hz1, hz2⟩ := info_parts Try.infoU8
  refine step_append_lies w hgd sl x 72 ho B 5 i0 (.int .u8 0) 1 1 Try.underlying72 hi hz0 hz1 hz2 rfl (by decide) v l.length (byteVals l) hs hown ⟨nb, 0, none⟩ 1 1 [.int .u8 b.toNat] hx rfl ?_ ?_ (by decide) (by unfold maxLen; omega) (by omega) hB w.heap.size rfl ?_
  · intro j u hj
    match j, hj with
    | 0, hj => simp at hj; subst hj; simpa [Addr.add] using hc
  · intro u hu; simp at hu; subst hu; rfl
  · intro g cap w1 ho1 hg hat _
    refine h _ w1 ?_ ⟨hg, ?_⟩
    · unfold OwnsB
      rw [byteVals_append, List.length_append]
      exact ho1
    · rcases hat with e | e
      · exact .inl (by rw [e]; rfl)
      · exact .inr ⟨g, by omega, rfl⟩

theorem Grew.below {w w' : World} {v v' : Value} {B : Nat} (h : Grew w w' v v') (hv : ∀ g, v.ownBlock = some g → B ≤ g) (hB : B ≤ w.heap.size) : Below B w w' :=
  ⟨h.by_.os, h.by_.tape, h.by_.output, h.by_.size, fun k hk => h.by_.block k (by omega) (fun e => by have := hv k e.symm; omega)⟩
theorem OwnsB.base {B : Nat} {w : World} {v : Value} {l : List UInt8} (h : OwnsB B w v l) : ∀ g, v.ownBlock = some g → B ≤ g := by
  intro g hg
  rcases h.2 with ⟨rfl, _⟩ | ⟨g', cap, cur, rfl, hb, _⟩
  · simp [Value.ownBlock] at hg
  · simp [Value.ownBlock] at hg; omega
end Go.Proofs.Ytkmeingnhaomaaa
