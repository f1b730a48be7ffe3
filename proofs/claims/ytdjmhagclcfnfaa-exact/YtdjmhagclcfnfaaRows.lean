/-
  No cell of these rows narrows 'for every input' (looked for: loops, veiled, ifaces, maps, wideKeys, modest, calm, conditions, laid).
  DERIVED. THE GIVEN ROWS OF THIS SEAT. 10 by the template 'for every input the law returns true; each argument reads behind the call as it read before'; 0 by the template 'total and deterministic' (their statements: YtdjmhagclcfnfaaTotals.lean).
  GIVEN WITH THE SEED: the statements are not yours to turn. If you find one false, say at which input.
  Laid BY PROGRAM, IN A SANDBOX (cutbox-rows.mjs): the forced cells as the released guide's own fill.sh prints them over the translation c9f04aa66ea7a542… (all of the seat's roots in one cut). By AI agents, Wed Nov 11 2026. No macro, syntax, notation, axiom, sorry.
-/
import Derived.Test.YtdjmhagclcfnfaaChecked
import GoSem.Claim
import GoSem.ClaimJoined
import GoSem.ClaimMapViews
import Derived.JoinedTies
import Derived.KernelRfl
namespace Go.Proofs.Ytdjmhagclcfnfaa
/- THE CELL 'sum', in the pinned program and in every row, IS THE sha256 OF THE DUMP (.gsa) THAT YtdjmhagclcfnfaaProg.lean LOADS. Nothing in Lean hashes anything: it is a label: what it is worth is what the hold of that sum in a sandbox is worth. -/
noncomputable def Try.pinned : Pinned := { name := "ytdjmhagclcfnfaa", sum := "c9f04aa66ea7a5420126caffb88af09909d7a2249ffc6cba20ac3fa6fe806ebd", checked := Try.checked }
namespace Rows
def none {H : Type} : Left H := { results := [], args := [] }

/-- 'strandlaw.Reads': WHATEVER THE INPUT: true; the input reads as it did. -/
def readsSpec : ChangeSpec := { name := "reads", fn := fun _ => fun
  | [d] => { results := [.lit (.bool true)], args := [d] }
  | _ => none }
def readsRow : OpenClaim := { program := "ytdjmhagclcfnfaa", sum := "c9f04aa66ea7a5420126caffb88af09909d7a2249ffc6cba20ac3fa6fe806ebd", func := "strand/strandlaw.Reads", spec := "reads", unfollowed := true, recurses := true, apart := false }
def ReadsSaid : Prop := readsRow.holds Try.pinned (OpenSpec.ofChange readsSpec)

/-- ITS FALSE NEIGHBOUR: 'it returns false'. Refute it at one input. -/
def readsWrong : ChangeSpec := { name := "reads", fn := fun _ => fun
  | [d] => { results := [.lit (.bool false)], args := [d] }
  | _ => none }
def ReadsWrongFalsely : Prop := readsRow.holds Try.pinned (OpenSpec.ofChange readsWrong)

/-- 'strandlaw.Writes': WHATEVER THE INPUT: true; the input reads as it did. -/
def writesSpec : ChangeSpec := { name := "writes", fn := fun _ => fun
  | [d] => { results := [.lit (.bool true)], args := [d] }
  | _ => none }
def writesRow : OpenClaim := { program := "ytdjmhagclcfnfaa", sum := "c9f04aa66ea7a5420126caffb88af09909d7a2249ffc6cba20ac3fa6fe806ebd", func := "strand/strandlaw.Writes", spec := "writes", inPlace := ["internal/abi.NoEscape", "internal/bytealg.MakeNoZero"], unfollowed := true, recurses := true, apart := false }
def WritesSaid : Prop := writesRow.holds Try.pinned (OpenSpec.ofChange writesSpec)

/-- ITS FALSE NEIGHBOUR: 'it returns false'. Refute it at one input. -/
def writesWrong : ChangeSpec := { name := "writes", fn := fun _ => fun
  | [d] => { results := [.lit (.bool false)], args := [d] }
  | _ => none }
def WritesWrongFalsely : Prop := writesRow.holds Try.pinned (OpenSpec.ofChange writesWrong)

/-- 'strandlaw.Applies': WHATEVER THE INPUT: true; the input reads as it did. -/
def appliesSpec : ChangeSpec := { name := "applies", fn := fun _ => fun
  | [d1, d2] => { results := [.lit (.bool true)], args := [d1, d2] }
  | _ => none }
def appliesRow : OpenClaim := { program := "ytdjmhagclcfnfaa", sum := "c9f04aa66ea7a5420126caffb88af09909d7a2249ffc6cba20ac3fa6fe806ebd", func := "strand/strandlaw.Applies", spec := "applies", unfollowed := true, recurses := true, apart := false }
def AppliesSaid : Prop := appliesRow.holds Try.pinned (OpenSpec.ofChange appliesSpec)

/-- ITS FALSE NEIGHBOUR: 'it returns false'. Refute it at one input. -/
def appliesWrong : ChangeSpec := { name := "applies", fn := fun _ => fun
  | [d1, d2] => { results := [.lit (.bool false)], args := [d1, d2] }
  | _ => none }
def AppliesWrongFalsely : Prop := appliesRow.holds Try.pinned (OpenSpec.ofChange appliesWrong)

/-- 'strandlaw.Somes': WHATEVER THE INPUT: true; the input reads as it did. -/
def somesSpec : ChangeSpec := { name := "somes", fn := fun _ => fun
  | [d1, d2, d3] => { results := [.lit (.bool true)], args := [d1, d2, d3] }
  | _ => none }
def somesRow : OpenClaim := { program := "ytdjmhagclcfnfaa", sum := "c9f04aa66ea7a5420126caffb88af09909d7a2249ffc6cba20ac3fa6fe806ebd", func := "strand/strandlaw.Somes", spec := "somes", unfollowed := true, recurses := true, apart := false }
def SomesSaid : Prop := somesRow.holds Try.pinned (OpenSpec.ofChange somesSpec)

/-- ITS FALSE NEIGHBOUR: 'it returns false'. Refute it at one input. -/
def somesWrong : ChangeSpec := { name := "somes", fn := fun _ => fun
  | [d1, d2, d3] => { results := [.lit (.bool false)], args := [d1, d2, d3] }
  | _ => none }
def SomesWrongFalsely : Prop := somesRow.holds Try.pinned (OpenSpec.ofChange somesWrong)

/-- 'strandlaw.Splits': WHATEVER THE INPUT: true; the input reads as it did. -/
def splitsSpec : ChangeSpec := { name := "splits", fn := fun _ => fun
  | [d1, d2] => { results := [.lit (.bool true)], args := [d1, d2] }
  | _ => none }
def splitsRow : OpenClaim := { program := "ytdjmhagclcfnfaa", sum := "c9f04aa66ea7a5420126caffb88af09909d7a2249ffc6cba20ac3fa6fe806ebd", func := "strand/strandlaw.Splits", spec := "splits", inPlace := ["internal/abi.NoEscape", "internal/bytealg.MakeNoZero"], unfollowed := true, recurses := true, apart := false }
def SplitsSaid : Prop := splitsRow.holds Try.pinned (OpenSpec.ofChange splitsSpec)

/-- ITS FALSE NEIGHBOUR: 'it returns false'. Refute it at one input. -/
def splitsWrong : ChangeSpec := { name := "splits", fn := fun _ => fun
  | [d1, d2] => { results := [.lit (.bool false)], args := [d1, d2] }
  | _ => none }
def SplitsWrongFalsely : Prop := splitsRow.holds Try.pinned (OpenSpec.ofChange splitsWrong)

/-- 'strandlaw.Joins': WHATEVER THE INPUT: true; the input reads as it did. -/
def joinsSpec : ChangeSpec := { name := "joins", fn := fun _ => fun
  | [d] => { results := [.lit (.bool true)], args := [d] }
  | _ => none }
def joinsRow : OpenClaim := { program := "ytdjmhagclcfnfaa", sum := "c9f04aa66ea7a5420126caffb88af09909d7a2249ffc6cba20ac3fa6fe806ebd", func := "strand/strandlaw.Joins", spec := "joins", inPlace := ["internal/abi.NoEscape", "internal/bytealg.MakeNoZero"], unfollowed := true, recurses := true, apart := false }
def JoinsSaid : Prop := joinsRow.holds Try.pinned (OpenSpec.ofChange joinsSpec)

/-- ITS FALSE NEIGHBOUR: 'it returns false'. Refute it at one input. -/
def joinsWrong : ChangeSpec := { name := "joins", fn := fun _ => fun
  | [d] => { results := [.lit (.bool false)], args := [d] }
  | _ => none }
def JoinsWrongFalsely : Prop := joinsRow.holds Try.pinned (OpenSpec.ofChange joinsWrong)

/-- 'strandlaw.Canons': WHATEVER THE INPUT: true; the input reads as it did. -/
def canonsSpec : ChangeSpec := { name := "canons", fn := fun _ => fun
  | [d] => { results := [.lit (.bool true)], args := [d] }
  | _ => none }
def canonsRow : OpenClaim := { program := "ytdjmhagclcfnfaa", sum := "c9f04aa66ea7a5420126caffb88af09909d7a2249ffc6cba20ac3fa6fe806ebd", func := "strand/strandlaw.Canons", spec := "canons", inPlace := ["internal/abi.NoEscape", "internal/bytealg.MakeNoZero"], unfollowed := true, recurses := true, apart := false }
def CanonsSaid : Prop := canonsRow.holds Try.pinned (OpenSpec.ofChange canonsSpec)

/-- ITS FALSE NEIGHBOUR: 'it returns false'. Refute it at one input. -/
def canonsWrong : ChangeSpec := { name := "canons", fn := fun _ => fun
  | [d] => { results := [.lit (.bool false)], args := [d] }
  | _ => none }
def CanonsWrongFalsely : Prop := canonsRow.holds Try.pinned (OpenSpec.ofChange canonsWrong)

/-- 'strandkeep.Back': WHATEVER THE INPUT: true; the input reads as it did. -/
def backSpec : ChangeSpec := { name := "back", fn := fun _ => fun
  | [d1, d2, d3, d4, d5, d6, d7] => { results := [.lit (.bool true)], args := [d1, d2, d3, d4, d5, d6, d7] }
  | _ => none }
def backRow : OpenClaim := { program := "ytdjmhagclcfnfaa", sum := "c9f04aa66ea7a5420126caffb88af09909d7a2249ffc6cba20ac3fa6fe806ebd", func := "strand/strandkeep.Back", spec := "back", inPlace := ["internal/abi.NoEscape", "internal/bytealg.MakeNoZero"], unfollowed := true, recurses := true, apart := false }
def BackSaid : Prop := backRow.holds Try.pinned (OpenSpec.ofChange backSpec)

/-- ITS FALSE NEIGHBOUR: 'it returns false'. Refute it at one input. -/
def backWrong : ChangeSpec := { name := "back", fn := fun _ => fun
  | [d1, d2, d3, d4, d5, d6, d7] => { results := [.lit (.bool false)], args := [d1, d2, d3, d4, d5, d6, d7] }
  | _ => none }
def BackWrongFalsely : Prop := backRow.holds Try.pinned (OpenSpec.ofChange backWrong)

/-- 'strandkeep.Exact': WHATEVER THE INPUT: true; the input reads as it did. -/
def exactSpec : ChangeSpec := { name := "exact", fn := fun _ => fun
  | [d] => { results := [.lit (.bool true)], args := [d] }
  | _ => none }
def exactRow : OpenClaim := { program := "ytdjmhagclcfnfaa", sum := "c9f04aa66ea7a5420126caffb88af09909d7a2249ffc6cba20ac3fa6fe806ebd", func := "strand/strandkeep.Exact", spec := "exact", inPlace := ["internal/abi.NoEscape", "internal/bytealg.MakeNoZero"], unfollowed := true, recurses := true, apart := false }
def ExactSaid : Prop := exactRow.holds Try.pinned (OpenSpec.ofChange exactSpec)

/-- ITS FALSE NEIGHBOUR: 'it returns false'. Refute it at one input. -/
def exactWrong : ChangeSpec := { name := "exact", fn := fun _ => fun
  | [d] => { results := [.lit (.bool false)], args := [d] }
  | _ => none }
def ExactWrongFalsely : Prop := exactRow.holds Try.pinned (OpenSpec.ofChange exactWrong)

/-- 'strandkeep.Turned': WHATEVER THE INPUT: true; the input reads as it did. -/
def turnedSpec : ChangeSpec := { name := "turned", fn := fun _ => fun
  | [d1, d2, d3, d4, d5] => { results := [.lit (.bool true)], args := [d1, d2, d3, d4, d5] }
  | _ => none }
def turnedRow : OpenClaim := { program := "ytdjmhagclcfnfaa", sum := "c9f04aa66ea7a5420126caffb88af09909d7a2249ffc6cba20ac3fa6fe806ebd", func := "strand/strandkeep.Turned", spec := "turned", inPlace := ["internal/abi.NoEscape", "internal/bytealg.MakeNoZero"], unfollowed := true, recurses := true, apart := false }
def TurnedSaid : Prop := turnedRow.holds Try.pinned (OpenSpec.ofChange turnedSpec)

/-- ITS FALSE NEIGHBOUR: 'it returns false'. Refute it at one input. -/
def turnedWrong : ChangeSpec := { name := "turned", fn := fun _ => fun
  | [d1, d2, d3, d4, d5] => { results := [.lit (.bool false)], args := [d1, d2, d3, d4, d5] }
  | _ => none }
def TurnedWrongFalsely : Prop := turnedRow.holds Try.pinned (OpenSpec.ofChange turnedWrong)

/- THE SECOND FORM. 'bulk': how many values and letters a reading holds, each counted each time it is reached (what is shared counts as often as it is met; a slice's spare places count too). A statement '..UptoSaid' is the law's where the arguments, and the package variables that the reading takes, are together of bulk at most 1048576: NARROWER than '..Said'. Prove '..Said' where nothing that the law and all that it calls make is longer than what came in: it says more and counts as full. Else prove '..UptoSaid'. A law counts once. -/
mutual
def uptoBulk {H : Type} : DataW H → Nat
  | .lit (.string bytes) => bytes.length + 1
  | .lit _ => 1
  | .nil => 1
  | .ptr d => uptoBulk d + 1
  | .slice elems spare => uptoBulkAll elems + uptoBulkAll spare + 1
  | .agg parts => uptoBulkAll parts + 1
  | .iface _ d => uptoBulk d + 1
  | .map entries => uptoBulkEntries entries + 1
  | .held _ => 1
def uptoBulkAll {H : Type} : List (DataW H) → Nat
  | [] => 0
  | d :: r => uptoBulk d + uptoBulkAll r
def uptoBulkEntries {H : Type} : List (Lit × DataW H) → Nat
  | [] => 0
  | x :: r => uptoBulkEntry x + uptoBulkEntries r
def uptoBulkEntry {H : Type} : Lit × DataW H → Nat
  | (.string bytes, d) => bytes.length + uptoBulk d + 1
  | (_, d) => uptoBulk d + 1
 end
def uptoSmall : (H : Type) → List (DataW H) → Bool := fun _ ds => decide (uptoBulkAll ds ≤ 1048576)
def OpenSpec.upto (s : _root_.Go.ChangeSpec) : _root_.Go.OpenSpec := { _root_.Go.OpenSpec.ofChange s with cond := some uptoSmall }

/-- 'strandlaw.Reads', WHERE WHAT IT READS IS OF BULK AT MOST 1048576: true; the input reads as it did. -/
def readsUptoRow : OpenClaim := { program := "ytdjmhagclcfnfaa", sum := "c9f04aa66ea7a5420126caffb88af09909d7a2249ffc6cba20ac3fa6fe806ebd", func := "strand/strandlaw.Reads", spec := "reads", unfollowed := true, recurses := true, apart := false, narrowed := true }
def ReadsUptoSaid : Prop := readsUptoRow.holds Try.pinned (OpenSpec.upto readsSpec)

/-- 'strandlaw.Writes', WHERE WHAT IT READS IS OF BULK AT MOST 1048576: true; the input reads as it did. -/
def writesUptoRow : OpenClaim := { program := "ytdjmhagclcfnfaa", sum := "c9f04aa66ea7a5420126caffb88af09909d7a2249ffc6cba20ac3fa6fe806ebd", func := "strand/strandlaw.Writes", spec := "writes", inPlace := ["internal/abi.NoEscape", "internal/bytealg.MakeNoZero"], unfollowed := true, recurses := true, apart := false, narrowed := true }
def WritesUptoSaid : Prop := writesUptoRow.holds Try.pinned (OpenSpec.upto writesSpec)

/-- 'strandlaw.Applies', WHERE WHAT IT READS IS OF BULK AT MOST 1048576: true; the input reads as it did. -/
def appliesUptoRow : OpenClaim := { program := "ytdjmhagclcfnfaa", sum := "c9f04aa66ea7a5420126caffb88af09909d7a2249ffc6cba20ac3fa6fe806ebd", func := "strand/strandlaw.Applies", spec := "applies", unfollowed := true, recurses := true, apart := false, narrowed := true }
def AppliesUptoSaid : Prop := appliesUptoRow.holds Try.pinned (OpenSpec.upto appliesSpec)

/-- 'strandlaw.Somes', WHERE WHAT IT READS IS OF BULK AT MOST 1048576: true; the input reads as it did. -/
def somesUptoRow : OpenClaim := { program := "ytdjmhagclcfnfaa", sum := "c9f04aa66ea7a5420126caffb88af09909d7a2249ffc6cba20ac3fa6fe806ebd", func := "strand/strandlaw.Somes", spec := "somes", unfollowed := true, recurses := true, apart := false, narrowed := true }
def SomesUptoSaid : Prop := somesUptoRow.holds Try.pinned (OpenSpec.upto somesSpec)

/-- 'strandlaw.Splits', WHERE WHAT IT READS IS OF BULK AT MOST 1048576: true; the input reads as it did. -/
def splitsUptoRow : OpenClaim := { program := "ytdjmhagclcfnfaa", sum := "c9f04aa66ea7a5420126caffb88af09909d7a2249ffc6cba20ac3fa6fe806ebd", func := "strand/strandlaw.Splits", spec := "splits", inPlace := ["internal/abi.NoEscape", "internal/bytealg.MakeNoZero"], unfollowed := true, recurses := true, apart := false, narrowed := true }
def SplitsUptoSaid : Prop := splitsUptoRow.holds Try.pinned (OpenSpec.upto splitsSpec)

/-- 'strandlaw.Joins', WHERE WHAT IT READS IS OF BULK AT MOST 1048576: true; the input reads as it did. -/
def joinsUptoRow : OpenClaim := { program := "ytdjmhagclcfnfaa", sum := "c9f04aa66ea7a5420126caffb88af09909d7a2249ffc6cba20ac3fa6fe806ebd", func := "strand/strandlaw.Joins", spec := "joins", inPlace := ["internal/abi.NoEscape", "internal/bytealg.MakeNoZero"], unfollowed := true, recurses := true, apart := false, narrowed := true }
def JoinsUptoSaid : Prop := joinsUptoRow.holds Try.pinned (OpenSpec.upto joinsSpec)

/-- 'strandlaw.Canons', WHERE WHAT IT READS IS OF BULK AT MOST 1048576: true; the input reads as it did. -/
def canonsUptoRow : OpenClaim := { program := "ytdjmhagclcfnfaa", sum := "c9f04aa66ea7a5420126caffb88af09909d7a2249ffc6cba20ac3fa6fe806ebd", func := "strand/strandlaw.Canons", spec := "canons", inPlace := ["internal/abi.NoEscape", "internal/bytealg.MakeNoZero"], unfollowed := true, recurses := true, apart := false, narrowed := true }
def CanonsUptoSaid : Prop := canonsUptoRow.holds Try.pinned (OpenSpec.upto canonsSpec)

/-- 'strandkeep.Back', WHERE WHAT IT READS IS OF BULK AT MOST 1048576: true; the input reads as it did. -/
def backUptoRow : OpenClaim := { program := "ytdjmhagclcfnfaa", sum := "c9f04aa66ea7a5420126caffb88af09909d7a2249ffc6cba20ac3fa6fe806ebd", func := "strand/strandkeep.Back", spec := "back", inPlace := ["internal/abi.NoEscape", "internal/bytealg.MakeNoZero"], unfollowed := true, recurses := true, apart := false, narrowed := true }
def BackUptoSaid : Prop := backUptoRow.holds Try.pinned (OpenSpec.upto backSpec)

/-- 'strandkeep.Exact', WHERE WHAT IT READS IS OF BULK AT MOST 1048576: true; the input reads as it did. -/
def exactUptoRow : OpenClaim := { program := "ytdjmhagclcfnfaa", sum := "c9f04aa66ea7a5420126caffb88af09909d7a2249ffc6cba20ac3fa6fe806ebd", func := "strand/strandkeep.Exact", spec := "exact", inPlace := ["internal/abi.NoEscape", "internal/bytealg.MakeNoZero"], unfollowed := true, recurses := true, apart := false, narrowed := true }
def ExactUptoSaid : Prop := exactUptoRow.holds Try.pinned (OpenSpec.upto exactSpec)

/-- 'strandkeep.Turned', WHERE WHAT IT READS IS OF BULK AT MOST 1048576: true; the input reads as it did. -/
def turnedUptoRow : OpenClaim := { program := "ytdjmhagclcfnfaa", sum := "c9f04aa66ea7a5420126caffb88af09909d7a2249ffc6cba20ac3fa6fe806ebd", func := "strand/strandkeep.Turned", spec := "turned", inPlace := ["internal/abi.NoEscape", "internal/bytealg.MakeNoZero"], unfollowed := true, recurses := true, apart := false, narrowed := true }
def TurnedUptoSaid : Prop := turnedUptoRow.holds Try.pinned (OpenSpec.upto turnedSpec)

end Rows
end Go.Proofs.Ytdjmhagclcfnfaa
