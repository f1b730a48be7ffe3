/- The library's Join of texts. -/
import Derived.Test.YtdjmhagclcfnfaaPColS
import Derived.Shelf.Strings.OnBuilder
namespace Go.Proofs.Ytdjmhagclcfnfaa
open Go.Shelf Go.RowKit
def Try.laysJoin_ren : Go.Shelf.Ren := ⟨fun | 156 => 121 | 165 => 145 | 166 => 146 | 169 => 147 | 240 => 164 | 241 => 165 | 276 => 173 | 277 => 174 | n => n, fun | 31 => 52 | 9 => 9 | 3 => 3 | 4 => 4 | 0 => 0 | 20 => 20 | 72 => 176 | 76 => 180 | 70 => 174 | 37 => 72 | 75 => 179 | 127 => 185 | 164 => 206 | 5 => 5 | 80 => 182 | n => n, fun | n => n⟩
theorem Try.laysJoin : Go.Proofs.Lays.n156 Try.prog Try.laysJoin_ren := {
  mixed := by kernel_rfl
  f156 := Try.func121.trans (congrArg some (by kernel_rfl))
  f165 := Try.func145.trans (congrArg some (by kernel_rfl))
  f166 := Try.func146.trans (congrArg some (by kernel_rfl))
  f169 := Try.func147.trans (congrArg some (by kernel_rfl))
  f240 := Try.func164.trans (congrArg some (by kernel_rfl))
  f241 := Try.func165.trans (congrArg some (by kernel_rfl))
  f276 := Try.func173.trans (congrArg some (by kernel_rfl))
  f277 := Try.func174.trans (congrArg some (by kernel_rfl))
  t0 := Try.underlying0
  a0 := Try.isAgg0
  z0 := Try.sizeOf0
  v0 := Try.zeroValue0
  t3 := Try.underlying3
  a3 := Try.isAgg3
  z3 := Try.sizeOf3
  v3 := Try.zeroValue3
  t4 := Try.underlying4
  a4 := Try.isAgg4
  z4 := Try.sizeOf4
  v4 := Try.zeroValue4
  t9 := Try.underlying9
  a9 := Try.isAgg9
  z9 := Try.sizeOf9
  v9 := Try.zeroValue9
  t20 := Try.underlying20
  a20 := Try.isAgg20
  z20 := Try.sizeOf20
  v20 := Try.zeroValue20
  t31 := Try.underlying52
  a31 := Try.isAgg52
  z31 := Try.sizeOf52
  v31 := Try.zeroValue52
  t37 := Try.underlying72
  a37 := Try.isAgg72
  z37 := Try.sizeOf72
  v37 := Try.zeroValue72
  t70 := Try.underlying174
  a70 := Try.isAgg174
  z70 := Try.sizeOf174
  v70 := Try.zeroValue174
  t72 := Try.underlying176
  a72 := Try.isAgg176
  z72 := Try.sizeOf176
  v72 := Try.zeroValue176
  t75 := Try.underlying179
  a75 := Try.isAgg179
  z75 := Try.sizeOf179
  v75 := Try.zeroValue179
  t76 := Try.underlying180
  a76 := Try.isAgg180
  z76 := Try.sizeOf180
  v76 := Try.zeroValue180
  t127 := Try.underlying185
  a127 := Try.isAgg185
  z127 := Try.sizeOf185
  v127 := Try.zeroValue185
  t164 := Try.underlying206
  a164 := Try.isAgg206
  z164 := Try.sizeOf206
  v164 := Try.zeroValue206 }
theorem Try.extraJoin : Builder.Extra Try.prog Try.laysJoin_ren := {
  sizeBuilder := by kernel_rfl
  liesBuilder := by kernel_rfl
  t5 := Try.underlying5
  a5 := Try.isAgg5
  z5 := Try.sizeOf5
  v5 := Try.zeroValue5
  infoByte := by kernel_rfl
  cellsByte := by kernel_rfl
  sizeByte := by kernel_rfl
  neB5 := by decide }

theorem inter_nil : ∀ xs : List (List UInt8), Lib.join xs [] = xs.flatten
  | [] => rfl
  | [x] => by simp [Lib.join_one]
  | x :: y :: r => by
    have h := inter_nil (y :: r)
    simp only [Lib.join, List.intercalate] at h ⊢
    simpa [List.intersperse] using h
theorem join_any (B : Nat) (v : Value) (cs : List ByteArray) (w : World) (ho : OwnsT B w v cs) (hn : cs.length ≤ 1000) (hlen : (cs.map (·.data.toList)).flatten.length ≤ 1000000) :
    Calls Try.prog 121 #[v, .string ⟨#[]⟩] w fun e w' => e = .returned (.string ⟨(cs.map (·.data.toList)).flatten.toArray⟩) ∧ Below w.heap.size w w' := by
  have h0 : w.ownsRow B 9 1 v cs.length (cs.map Value.string) := ho
  rcases h0.2 with ⟨rfl, h⟩ | ⟨g, cap, cur, rfl, hb, hg, hc, hm, hs, ht⟩
  · obtain rfl : cs = [] := List.eq_nil_of_length_eq_zero h
    refine (Any.strings_Join_none Try.laysJoin Try.extraJoin none 0 ⟨#[]⟩ w).mono ?_
    rintro e w' ⟨rfl, rfl⟩
    exact ⟨rfl, Below.refl _ _⟩
  · have hcell : ∀ (j : Nat) x, cs[j]? = some x → w.cell? ⟨g, 0 + j, none⟩ = some (.string x) := by
      intro j x hj
      have e := h0.cells (g := g) rfl j (.string x) (by simp [hj])
      rw [Addr.add_lit] at e
      exact e
    have h := Any.strings_Join Try.laysJoin Try.extraJoin g 0 cap cs ⟨#[]⟩ w hcell (Array.getElem?_eq_some_iff.1 hg).1 (by omega) hc (by rw [show (ByteArray.mk #[]).data.toList = [] from rfl, inter_nil]; omega)
    rw [show (ByteArray.mk #[]).data.toList = [] from rfl, inter_nil] at h
    exact h
end Go.Proofs.Ytdjmhagclcfnfaa
