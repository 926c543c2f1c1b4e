/-
  No cell of these rows narrows 'for every input' (looked for: loops, veiled, ifaces, maps, wideKeys, modest, calm, conditions, laid).
  DERIVED. THE GIVEN ROWS OF THIS SEAT. 8 by the template 'for every input the law returns true; each argument reads behind the call as it read before'; 0 by the template 'total and deterministic' (their statements: YtjjbpaaionpjeaaTotals.lean).
  GIVEN WITH THE SEED: the statements are not yours to turn. If you find one false, say at which input.
  Laid BY PROGRAM, IN A SANDBOX (cutbox-rows.mjs): the forced cells as the released guide's own fill.sh prints them over the translation 93653c8f4caa2a31… (all of the seat's roots in one cut). By AI agents, Wed Nov 11 2026. No macro, syntax, notation, axiom, sorry.
-/
import Derived.Test.YtjjbpaaionpjeaaChecked
import GoSem.Claim
import GoSem.ClaimJoined
import GoSem.ClaimMapViews
import Derived.JoinedTies
import Derived.KernelRfl
namespace Go.Proofs.Ytjjbpaaionpjeaa
/- THE CELL 'sum', in the pinned program and in every row, IS THE sha256 OF THE DUMP (.gsa) THAT YtjjbpaaionpjeaaProg.lean LOADS. Nothing in Lean hashes anything: it is a label: what it is worth is what the hold of that sum in a sandbox is worth. -/
noncomputable def Try.pinned : Pinned := { name := "ytjjbpaaionpjeaa", sum := "93653c8f4caa2a3191e9dec4dd5d8cb9ce84b4c96e97f81ea8b6f6ac11fe5fc7", checked := Try.checked }
namespace Rows
def none {H : Type} : Left H := { results := [], args := [] }

/-- 'gimletlaw4.LinesTell': WHATEVER THE INPUT: true; the input reads as it did. -/
def linesTellSpec : ChangeSpec := { name := "linesTell", fn := fun _ => fun
  | [d1, d2, d3] => { results := [.lit (.bool true)], args := [d1, d2, d3] }
  | _ => none }
def linesTellRow : OpenClaim := { program := "ytjjbpaaionpjeaa", sum := "93653c8f4caa2a3191e9dec4dd5d8cb9ce84b4c96e97f81ea8b6f6ac11fe5fc7", func := "gimlet/gimletlaw4.LinesTell", spec := "linesTell", inPlace := ["internal/abi.NoEscape", "internal/bytealg.MakeNoZero"], recurses := true, apart := false }
def LinesTellSaid : Prop := linesTellRow.holds Try.pinned (OpenSpec.ofChange linesTellSpec)

/-- ITS FALSE NEIGHBOUR: 'it returns false'. Refute it at one input. -/
def linesTellWrong : ChangeSpec := { name := "linesTell", fn := fun _ => fun
  | [d1, d2, d3] => { results := [.lit (.bool false)], args := [d1, d2, d3] }
  | _ => none }
def LinesTellWrongFalsely : Prop := linesTellRow.holds Try.pinned (OpenSpec.ofChange linesTellWrong)

/-- 'gimletlaw4.LinesPlace': WHATEVER THE INPUT: true; the input reads as it did. -/
def linesPlaceSpec : ChangeSpec := { name := "linesPlace", fn := fun _ => fun
  | [d1, d2, d3, d4, d5] => { results := [.lit (.bool true)], args := [d1, d2, d3, d4, d5] }
  | _ => none }
def linesPlaceRow : OpenClaim := { program := "ytjjbpaaionpjeaa", sum := "93653c8f4caa2a3191e9dec4dd5d8cb9ce84b4c96e97f81ea8b6f6ac11fe5fc7", func := "gimlet/gimletlaw4.LinesPlace", spec := "linesPlace", inPlace := ["internal/abi.NoEscape", "internal/bytealg.MakeNoZero"], recurses := true, apart := false }
def LinesPlaceSaid : Prop := linesPlaceRow.holds Try.pinned (OpenSpec.ofChange linesPlaceSpec)

/-- ITS FALSE NEIGHBOUR: 'it returns false'. Refute it at one input. -/
def linesPlaceWrong : ChangeSpec := { name := "linesPlace", fn := fun _ => fun
  | [d1, d2, d3, d4, d5] => { results := [.lit (.bool false)], args := [d1, d2, d3, d4, d5] }
  | _ => none }
def LinesPlaceWrongFalsely : Prop := linesPlaceRow.holds Try.pinned (OpenSpec.ofChange linesPlaceWrong)

/-- 'gimletlaw4.LinesJoin': WHATEVER THE INPUT: true; the input reads as it did. -/
def linesJoinSpec : ChangeSpec := { name := "linesJoin", fn := fun _ => fun
  | [d] => { results := [.lit (.bool true)], args := [d] }
  | _ => none }
def linesJoinRow : OpenClaim := { program := "ytjjbpaaionpjeaa", sum := "93653c8f4caa2a3191e9dec4dd5d8cb9ce84b4c96e97f81ea8b6f6ac11fe5fc7", func := "gimlet/gimletlaw4.LinesJoin", spec := "linesJoin", inPlace := ["internal/abi.NoEscape", "internal/bytealg.MakeNoZero"], recurses := true, apart := false }
def LinesJoinSaid : Prop := linesJoinRow.holds Try.pinned (OpenSpec.ofChange linesJoinSpec)

/-- ITS FALSE NEIGHBOUR: 'it returns false'. Refute it at one input. -/
def linesJoinWrong : ChangeSpec := { name := "linesJoin", fn := fun _ => fun
  | [d] => { results := [.lit (.bool false)], args := [d] }
  | _ => none }
def LinesJoinWrongFalsely : Prop := linesJoinRow.holds Try.pinned (OpenSpec.ofChange linesJoinWrong)

/-- 'gimletlaw4.LinesBack': WHATEVER THE INPUT: true; the input reads as it did. -/
def linesBackSpec : ChangeSpec := { name := "linesBack", fn := fun _ => fun
  | [d1, d2, d3] => { results := [.lit (.bool true)], args := [d1, d2, d3] }
  | _ => none }
def linesBackRow : OpenClaim := { program := "ytjjbpaaionpjeaa", sum := "93653c8f4caa2a3191e9dec4dd5d8cb9ce84b4c96e97f81ea8b6f6ac11fe5fc7", func := "gimlet/gimletlaw4.LinesBack", spec := "linesBack", inPlace := ["internal/abi.NoEscape", "internal/bytealg.MakeNoZero"], recurses := true, apart := false }
def LinesBackSaid : Prop := linesBackRow.holds Try.pinned (OpenSpec.ofChange linesBackSpec)

/-- ITS FALSE NEIGHBOUR: 'it returns false'. Refute it at one input. -/
def linesBackWrong : ChangeSpec := { name := "linesBack", fn := fun _ => fun
  | [d1, d2, d3] => { results := [.lit (.bool false)], args := [d1, d2, d3] }
  | _ => none }
def LinesBackWrongFalsely : Prop := linesBackRow.holds Try.pinned (OpenSpec.ofChange linesBackWrong)

/-- 'gimletlaw4.LinesCols': WHATEVER THE INPUT: true; the input reads as it did. -/
def linesColsSpec : ChangeSpec := { name := "linesCols", fn := fun _ => fun
  | [d1, d2] => { results := [.lit (.bool true)], args := [d1, d2] }
  | _ => none }
def linesColsRow : OpenClaim := { program := "ytjjbpaaionpjeaa", sum := "93653c8f4caa2a3191e9dec4dd5d8cb9ce84b4c96e97f81ea8b6f6ac11fe5fc7", func := "gimlet/gimletlaw4.LinesCols", spec := "linesCols", inPlace := ["internal/abi.NoEscape", "internal/bytealg.MakeNoZero"], recurses := true, apart := false }
def LinesColsSaid : Prop := linesColsRow.holds Try.pinned (OpenSpec.ofChange linesColsSpec)

/-- ITS FALSE NEIGHBOUR: 'it returns false'. Refute it at one input. -/
def linesColsWrong : ChangeSpec := { name := "linesCols", fn := fun _ => fun
  | [d1, d2] => { results := [.lit (.bool false)], args := [d1, d2] }
  | _ => none }
def LinesColsWrongFalsely : Prop := linesColsRow.holds Try.pinned (OpenSpec.ofChange linesColsWrong)

/-- 'gimletlaw4.LinesRope': WHATEVER THE INPUT: true; the input reads as it did. -/
def linesRopeSpec : ChangeSpec := { name := "linesRope", fn := fun _ => fun
  | [d1, d2, d3] => { results := [.lit (.bool true)], args := [d1, d2, d3] }
  | _ => none }
def linesRopeRow : OpenClaim := { program := "ytjjbpaaionpjeaa", sum := "93653c8f4caa2a3191e9dec4dd5d8cb9ce84b4c96e97f81ea8b6f6ac11fe5fc7", func := "gimlet/gimletlaw4.LinesRope", spec := "linesRope", inPlace := ["internal/abi.NoEscape", "internal/bytealg.MakeNoZero"], recurses := true, apart := false }
def LinesRopeSaid : Prop := linesRopeRow.holds Try.pinned (OpenSpec.ofChange linesRopeSpec)

/-- ITS FALSE NEIGHBOUR: 'it returns false'. Refute it at one input. -/
def linesRopeWrong : ChangeSpec := { name := "linesRope", fn := fun _ => fun
  | [d1, d2, d3] => { results := [.lit (.bool false)], args := [d1, d2, d3] }
  | _ => none }
def LinesRopeWrongFalsely : Prop := linesRopeRow.holds Try.pinned (OpenSpec.ofChange linesRopeWrong)

/-- 'gimletlaw4.LinesNil': WHATEVER THE INPUT: true; the input reads as it did. -/
def linesNilSpec : ChangeSpec := { name := "linesNil", fn := fun _ => fun
  | [d1, d2, d3] => { results := [.lit (.bool true)], args := [d1, d2, d3] }
  | _ => none }
def linesNilRow : OpenClaim := { program := "ytjjbpaaionpjeaa", sum := "93653c8f4caa2a3191e9dec4dd5d8cb9ce84b4c96e97f81ea8b6f6ac11fe5fc7", func := "gimlet/gimletlaw4.LinesNil", spec := "linesNil", inPlace := ["internal/abi.NoEscape", "internal/bytealg.MakeNoZero"], recurses := true, apart := false }
def LinesNilSaid : Prop := linesNilRow.holds Try.pinned (OpenSpec.ofChange linesNilSpec)

/-- ITS FALSE NEIGHBOUR: 'it returns false'. Refute it at one input. -/
def linesNilWrong : ChangeSpec := { name := "linesNil", fn := fun _ => fun
  | [d1, d2, d3] => { results := [.lit (.bool false)], args := [d1, d2, d3] }
  | _ => none }
def LinesNilWrongFalsely : Prop := linesNilRow.holds Try.pinned (OpenSpec.ofChange linesNilWrong)

/-- 'gimletlaw4.LinesPut': WHATEVER THE INPUT: true; the input reads as it did. -/
def linesPutSpec : ChangeSpec := { name := "linesPut", fn := fun _ => fun
  | [d1, d2, d3] => { results := [.lit (.bool true)], args := [d1, d2, d3] }
  | _ => none }
def linesPutRow : OpenClaim := { program := "ytjjbpaaionpjeaa", sum := "93653c8f4caa2a3191e9dec4dd5d8cb9ce84b4c96e97f81ea8b6f6ac11fe5fc7", func := "gimlet/gimletlaw4.LinesPut", spec := "linesPut", inPlace := ["internal/abi.NoEscape", "internal/bytealg.MakeNoZero"], recurses := true, apart := false }
def LinesPutSaid : Prop := linesPutRow.holds Try.pinned (OpenSpec.ofChange linesPutSpec)

/-- ITS FALSE NEIGHBOUR: 'it returns false'. Refute it at one input. -/
def linesPutWrong : ChangeSpec := { name := "linesPut", fn := fun _ => fun
  | [d1, d2, d3] => { results := [.lit (.bool false)], args := [d1, d2, d3] }
  | _ => none }
def LinesPutWrongFalsely : Prop := linesPutRow.holds Try.pinned (OpenSpec.ofChange linesPutWrong)

/- THE SECOND FORM. 'bulk': how many values and letters a reading holds, each counted each time it is reached (what is shared counts as often as it is met; a slice's spare places count too). A statement '..UptoSaid' is the law's where the arguments, and the package variables that the reading takes, are together of bulk at most 1048576: NARROWER than '..Said'. Prove '..Said' where nothing that the law and all that it calls make is longer than what came in: it says more and counts as full. Else prove '..UptoSaid'. A law counts once. -/
mutual
def uptoBulk {H : Type} : DataW H → Nat
  | .lit (.string bytes) => bytes.length + 1
  | .lit _ => 1
  | .nil => 1
  | .ptr d => uptoBulk d + 1
  | .slice elems spare => uptoBulkAll elems + uptoBulkAll spare + 1
  | .agg parts => uptoBulkAll parts + 1
  | .iface _ d => uptoBulk d + 1
  | .map entries => uptoBulkEntries entries + 1
  | .held _ => 1
def uptoBulkAll {H : Type} : List (DataW H) → Nat
  | [] => 0
  | d :: r => uptoBulk d + uptoBulkAll r
def uptoBulkEntries {H : Type} : List (Lit × DataW H) → Nat
  | [] => 0
  | x :: r => uptoBulkEntry x + uptoBulkEntries r
def uptoBulkEntry {H : Type} : Lit × DataW H → Nat
  | (.string bytes, d) => bytes.length + uptoBulk d + 1
  | (_, d) => uptoBulk d + 1
 end
def uptoSmall : (H : Type) → List (DataW H) → Bool := fun _ ds => decide (uptoBulkAll ds ≤ 1048576)
def OpenSpec.upto (s : _root_.Go.ChangeSpec) : _root_.Go.OpenSpec := { _root_.Go.OpenSpec.ofChange s with cond := some uptoSmall }

/-- 'gimletlaw4.LinesTell', WHERE WHAT IT READS IS OF BULK AT MOST 1048576: true; the input reads as it did. -/
def linesTellUptoRow : OpenClaim := { program := "ytjjbpaaionpjeaa", sum := "93653c8f4caa2a3191e9dec4dd5d8cb9ce84b4c96e97f81ea8b6f6ac11fe5fc7", func := "gimlet/gimletlaw4.LinesTell", spec := "linesTell", inPlace := ["internal/abi.NoEscape", "internal/bytealg.MakeNoZero"], recurses := true, apart := false, narrowed := true }
def LinesTellUptoSaid : Prop := linesTellUptoRow.holds Try.pinned (OpenSpec.upto linesTellSpec)

/-- 'gimletlaw4.LinesPlace', WHERE WHAT IT READS IS OF BULK AT MOST 1048576: true; the input reads as it did. -/
def linesPlaceUptoRow : OpenClaim := { program := "ytjjbpaaionpjeaa", sum := "93653c8f4caa2a3191e9dec4dd5d8cb9ce84b4c96e97f81ea8b6f6ac11fe5fc7", func := "gimlet/gimletlaw4.LinesPlace", spec := "linesPlace", inPlace := ["internal/abi.NoEscape", "internal/bytealg.MakeNoZero"], recurses := true, apart := false, narrowed := true }
def LinesPlaceUptoSaid : Prop := linesPlaceUptoRow.holds Try.pinned (OpenSpec.upto linesPlaceSpec)

/-- 'gimletlaw4.LinesJoin', WHERE WHAT IT READS IS OF BULK AT MOST 1048576: true; the input reads as it did. -/
def linesJoinUptoRow : OpenClaim := { program := "ytjjbpaaionpjeaa", sum := "93653c8f4caa2a3191e9dec4dd5d8cb9ce84b4c96e97f81ea8b6f6ac11fe5fc7", func := "gimlet/gimletlaw4.LinesJoin", spec := "linesJoin", inPlace := ["internal/abi.NoEscape", "internal/bytealg.MakeNoZero"], recurses := true, apart := false, narrowed := true }
def LinesJoinUptoSaid : Prop := linesJoinUptoRow.holds Try.pinned (OpenSpec.upto linesJoinSpec)

/-- 'gimletlaw4.LinesBack', WHERE WHAT IT READS IS OF BULK AT MOST 1048576: true; the input reads as it did. -/
def linesBackUptoRow : OpenClaim := { program := "ytjjbpaaionpjeaa", sum := "93653c8f4caa2a3191e9dec4dd5d8cb9ce84b4c96e97f81ea8b6f6ac11fe5fc7", func := "gimlet/gimletlaw4.LinesBack", spec := "linesBack", inPlace := ["internal/abi.NoEscape", "internal/bytealg.MakeNoZero"], recurses := true, apart := false, narrowed := true }
def LinesBackUptoSaid : Prop := linesBackUptoRow.holds Try.pinned (OpenSpec.upto linesBackSpec)

/-- 'gimletlaw4.LinesCols', WHERE WHAT IT READS IS OF BULK AT MOST 1048576: true; the input reads as it did. -/
def linesColsUptoRow : OpenClaim := { program := "ytjjbpaaionpjeaa", sum := "93653c8f4caa2a3191e9dec4dd5d8cb9ce84b4c96e97f81ea8b6f6ac11fe5fc7", func := "gimlet/gimletlaw4.LinesCols", spec := "linesCols", inPlace := ["internal/abi.NoEscape", "internal/bytealg.MakeNoZero"], recurses := true, apart := false, narrowed := true }
def LinesColsUptoSaid : Prop := linesColsUptoRow.holds Try.pinned (OpenSpec.upto linesColsSpec)

/-- 'gimletlaw4.LinesRope', WHERE WHAT IT READS IS OF BULK AT MOST 1048576: true; the input reads as it did. -/
def linesRopeUptoRow : OpenClaim := { program := "ytjjbpaaionpjeaa", sum := "93653c8f4caa2a3191e9dec4dd5d8cb9ce84b4c96e97f81ea8b6f6ac11fe5fc7", func := "gimlet/gimletlaw4.LinesRope", spec := "linesRope", inPlace := ["internal/abi.NoEscape", "internal/bytealg.MakeNoZero"], recurses := true, apart := false, narrowed := true }
def LinesRopeUptoSaid : Prop := linesRopeUptoRow.holds Try.pinned (OpenSpec.upto linesRopeSpec)

/-- 'gimletlaw4.LinesNil', WHERE WHAT IT READS IS OF BULK AT MOST 1048576: true; the input reads as it did. -/
def linesNilUptoRow : OpenClaim := { program := "ytjjbpaaionpjeaa", sum := "93653c8f4caa2a3191e9dec4dd5d8cb9ce84b4c96e97f81ea8b6f6ac11fe5fc7", func := "gimlet/gimletlaw4.LinesNil", spec := "linesNil", inPlace := ["internal/abi.NoEscape", "internal/bytealg.MakeNoZero"], recurses := true, apart := false, narrowed := true }
def LinesNilUptoSaid : Prop := linesNilUptoRow.holds Try.pinned (OpenSpec.upto linesNilSpec)

/-- 'gimletlaw4.LinesPut', WHERE WHAT IT READS IS OF BULK AT MOST 1048576: true; the input reads as it did. -/
def linesPutUptoRow : OpenClaim := { program := "ytjjbpaaionpjeaa", sum := "93653c8f4caa2a3191e9dec4dd5d8cb9ce84b4c96e97f81ea8b6f6ac11fe5fc7", func := "gimlet/gimletlaw4.LinesPut", spec := "linesPut", inPlace := ["internal/abi.NoEscape", "internal/bytealg.MakeNoZero"], recurses := true, apart := false, narrowed := true }
def LinesPutUptoSaid : Prop := linesPutUptoRow.holds Try.pinned (OpenSpec.upto linesPutSpec)

end Rows
end Go.Proofs.Ytjjbpaaionpjeaa
