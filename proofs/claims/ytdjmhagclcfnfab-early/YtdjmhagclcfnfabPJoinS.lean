/- The library's Join of texts. -/
import Derived.Test.YtdjmhagclcfnfabPColS
import Derived.Shelf.Strings.OnBuilder
namespace Go.Proofs.Ytdjmhagclcfnfab
open Go.Shelf Go.RowKit
def Try.laysJoin_ren : Go.Shelf.Ren := ⟨fun | 156 => 44 | 165 => 55 | 166 => 56 | 169 => 57 | 240 => 64 | 241 => 65 | 276 => 67 | 277 => 68 | n => n, fun | 31 => 70 | 9 => 9 | 3 => 3 | 4 => 4 | 0 => 0 | 20 => 20 | 72 => 88 | 76 => 92 | 70 => 86 | 37 => 44 | 75 => 91 | 127 => 101 | 164 => 103 | 5 => 5 | 80 => 94 | n => n, fun | n => n⟩
theorem Try.laysJoin : Go.Proofs.Lays.n156 Try.prog Try.laysJoin_ren := {
  mixed := by kernel_rfl
  f156 := Try.func44.trans (congrArg some (by kernel_rfl))
  f165 := Try.func55.trans (congrArg some (by kernel_rfl))
  f166 := Try.func56.trans (congrArg some (by kernel_rfl))
  f169 := Try.func57.trans (congrArg some (by kernel_rfl))
  f240 := Try.func64.trans (congrArg some (by kernel_rfl))
  f241 := Try.func65.trans (congrArg some (by kernel_rfl))
  f276 := Try.func67.trans (congrArg some (by kernel_rfl))
  f277 := Try.func68.trans (congrArg some (by kernel_rfl))
  t0 := Try.underlying0
  a0 := Try.isAgg0
  z0 := Try.sizeOf0
  v0 := Try.zeroValue0
  t3 := Try.underlying3
  a3 := Try.isAgg3
  z3 := Try.sizeOf3
  v3 := Try.zeroValue3
  t4 := Try.underlying4
  a4 := Try.isAgg4
  z4 := Try.sizeOf4
  v4 := Try.zeroValue4
  t9 := Try.underlying9
  a9 := Try.isAgg9
  z9 := Try.sizeOf9
  v9 := Try.zeroValue9
  t20 := Try.underlying20
  a20 := Try.isAgg20
  z20 := Try.sizeOf20
  v20 := Try.zeroValue20
  t31 := Try.underlying70
  a31 := Try.isAgg70
  z31 := Try.sizeOf70
  v31 := Try.zeroValue70
  t37 := Try.underlying44
  a37 := Try.isAgg44
  z37 := Try.sizeOf44
  v37 := Try.zeroValue44
  t70 := Try.underlying86
  a70 := Try.isAgg86
  z70 := Try.sizeOf86
  v70 := Try.zeroValue86
  t72 := Try.underlying88
  a72 := Try.isAgg88
  z72 := Try.sizeOf88
  v72 := Try.zeroValue88
  t75 := Try.underlying91
  a75 := Try.isAgg91
  z75 := Try.sizeOf91
  v75 := Try.zeroValue91
  t76 := Try.underlying92
  a76 := Try.isAgg92
  z76 := Try.sizeOf92
  v76 := Try.zeroValue92
  t127 := Try.underlying101
  a127 := Try.isAgg101
  z127 := Try.sizeOf101
  v127 := Try.zeroValue101
  t164 := Try.underlying103
  a164 := Try.isAgg103
  z164 := Try.sizeOf103
  v164 := Try.zeroValue103 }
theorem Try.extraJoin : Builder.Extra Try.prog Try.laysJoin_ren := {
  sizeBuilder := by kernel_rfl
  liesBuilder := by kernel_rfl
  t5 := Try.underlying5
  a5 := Try.isAgg5
  z5 := Try.sizeOf5
  v5 := Try.zeroValue5
  infoByte := by kernel_rfl
  cellsByte := by kernel_rfl
  sizeByte := by kernel_rfl
  neB5 := by decide }

theorem inter_nil : ∀ xs : List (List UInt8), Lib.join xs [] = xs.flatten
  | [] => rfl
  | [x] => by simp [Lib.join_one]
  | x :: y :: r => by
    have h := inter_nil (y :: r)
    simp only [Lib.join, List.intercalate] at h ⊢
    simpa [List.intersperse] using h
theorem join_any (B : Nat) (v : Value) (cs : List ByteArray) (w : World) (ho : OwnsT B w v cs) (hn : cs.length ≤ 1000) (hlen : (cs.map (·.data.toList)).flatten.length ≤ 1000000) :
    Calls Try.prog 44 #[v, .string ⟨#[]⟩] w fun e w' => e = .returned (.string ⟨(cs.map (·.data.toList)).flatten.toArray⟩) ∧ Below w.heap.size w w' := by
  have h0 : w.ownsRow B 9 1 v cs.length (cs.map Value.string) := ho
  rcases h0.2 with ⟨rfl, h⟩ | ⟨g, cap, cur, rfl, hb, hg, hc, hm, hs, ht⟩
  · obtain rfl : cs = [] := List.eq_nil_of_length_eq_zero h
    refine (Any.strings_Join_none Try.laysJoin Try.extraJoin none 0 ⟨#[]⟩ w).mono ?_
    rintro e w' ⟨rfl, rfl⟩
    exact ⟨rfl, Below.refl _ _⟩
  · have hcell : ∀ (j : Nat) x, cs[j]? = some x → w.cell? ⟨g, 0 + j, none⟩ = some (.string x) := by
      intro j x hj
      have e := h0.cells (g := g) rfl j (.string x) (by simp [hj])
      rw [Addr.add_lit] at e
      exact e
    have h := Any.strings_Join Try.laysJoin Try.extraJoin g 0 cap cs ⟨#[]⟩ w hcell (Array.getElem?_eq_some_iff.1 hg).1 (by omega) hc (by rw [show (ByteArray.mk #[]).data.toList = [] from rfl, inter_nil]; omega)
    rw [show (ByteArray.mk #[]).data.toList = [] from rfl, inter_nil] at h
    exact h
end Go.Proofs.Ytdjmhagclcfnfab
