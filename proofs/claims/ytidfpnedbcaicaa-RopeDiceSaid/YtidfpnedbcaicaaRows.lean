/-
  No cell of these rows narrows 'for every input' (looked for: loops, veiled, ifaces, maps, wideKeys, modest, calm, conditions, laid).
  DERIVED. THE GIVEN ROWS OF THIS SEAT. 11 by the template 'for every input the law returns true; each argument reads behind the call as it read before'; 0 by the template 'total and deterministic' (their statements: YtidfpnedbcaicaaTotals.lean).
  GIVEN WITH THE SEED: the statements are not yours to turn. If you find one false, say at which input.
  Laid BY PROGRAM, IN A SANDBOX (cutbox-rows.mjs): the forced cells as the released guide's own fill.sh prints them over the translation 5f3044f32602830c… (all of the seat's roots in one cut). By AI agents, Wed Nov 11 2026. No macro, syntax, notation, axiom, sorry.
-/
import Derived.Test.YtidfpnedbcaicaaChecked
import GoSem.Claim
import GoSem.ClaimJoined
import GoSem.ClaimMapViews
import Derived.JoinedTies
import Derived.KernelRfl
namespace Go.Proofs.Ytidfpnedbcaicaa
/- THE CELL 'sum', in the pinned program and in every row, IS THE sha256 OF THE DUMP (.gsa) THAT YtidfpnedbcaicaaProg.lean LOADS. Nothing in Lean hashes anything: it is a label: what it is worth is what the hold of that sum in a sandbox is worth. -/
noncomputable def Try.pinned : Pinned := { name := "ytidfpnedbcaicaa", sum := "5f3044f32602830ce7fae5c65c504afa260379401e8b95f15238cfc708cb859b", checked := Try.checked }
namespace Rows
def none {H : Type} : Left H := { results := [], args := [] }

/-- 'gimletlaw3.RopeTells': WHATEVER THE INPUT: true; the input reads as it did. -/
def ropeTellsSpec : ChangeSpec := { name := "ropeTells", fn := fun _ => fun
  | [d1, d2, d3] => { results := [.lit (.bool true)], args := [d1, d2, d3] }
  | _ => none }
def ropeTellsRow : OpenClaim := { program := "ytidfpnedbcaicaa", sum := "5f3044f32602830ce7fae5c65c504afa260379401e8b95f15238cfc708cb859b", func := "gimlet/gimletlaw3.RopeTells", spec := "ropeTells", inPlace := ["internal/abi.NoEscape", "internal/bytealg.MakeNoZero"], recurses := true, apart := false }
def RopeTellsSaid : Prop := ropeTellsRow.holds Try.pinned (OpenSpec.ofChange ropeTellsSpec)

/-- ITS FALSE NEIGHBOUR: 'it returns false'. Refute it at one input. -/
def ropeTellsWrong : ChangeSpec := { name := "ropeTells", fn := fun _ => fun
  | [d1, d2, d3] => { results := [.lit (.bool false)], args := [d1, d2, d3] }
  | _ => none }
def RopeTellsWrongFalsely : Prop := ropeTellsRow.holds Try.pinned (OpenSpec.ofChange ropeTellsWrong)

/-- 'gimletlaw3.RopePieces': WHATEVER THE INPUT: true; the input reads as it did. -/
def ropePiecesSpec : ChangeSpec := { name := "ropePieces", fn := fun _ => fun
  | [d1, d2, d3] => { results := [.lit (.bool true)], args := [d1, d2, d3] }
  | _ => none }
def ropePiecesRow : OpenClaim := { program := "ytidfpnedbcaicaa", sum := "5f3044f32602830ce7fae5c65c504afa260379401e8b95f15238cfc708cb859b", func := "gimlet/gimletlaw3.RopePieces", spec := "ropePieces", inPlace := ["internal/abi.NoEscape", "internal/bytealg.MakeNoZero"], recurses := true, apart := false }
def RopePiecesSaid : Prop := ropePiecesRow.holds Try.pinned (OpenSpec.ofChange ropePiecesSpec)

/-- ITS FALSE NEIGHBOUR: 'it returns false'. Refute it at one input. -/
def ropePiecesWrong : ChangeSpec := { name := "ropePieces", fn := fun _ => fun
  | [d1, d2, d3] => { results := [.lit (.bool false)], args := [d1, d2, d3] }
  | _ => none }
def RopePiecesWrongFalsely : Prop := ropePiecesRow.holds Try.pinned (OpenSpec.ofChange ropePiecesWrong)

/-- 'gimletlaw3.RopeDice': WHATEVER THE INPUT: true; the input reads as it did. -/
def ropeDiceSpec : ChangeSpec := { name := "ropeDice", fn := fun _ => fun
  | [d1, d2, d3, d4] => { results := [.lit (.bool true)], args := [d1, d2, d3, d4] }
  | _ => none }
def ropeDiceRow : OpenClaim := { program := "ytidfpnedbcaicaa", sum := "5f3044f32602830ce7fae5c65c504afa260379401e8b95f15238cfc708cb859b", func := "gimlet/gimletlaw3.RopeDice", spec := "ropeDice", inPlace := ["internal/abi.NoEscape", "internal/bytealg.MakeNoZero"], recurses := true, apart := false }
def RopeDiceSaid : Prop := ropeDiceRow.holds Try.pinned (OpenSpec.ofChange ropeDiceSpec)

/-- ITS FALSE NEIGHBOUR: 'it returns false'. Refute it at one input. -/
def ropeDiceWrong : ChangeSpec := { name := "ropeDice", fn := fun _ => fun
  | [d1, d2, d3, d4] => { results := [.lit (.bool false)], args := [d1, d2, d3, d4] }
  | _ => none }
def RopeDiceWrongFalsely : Prop := ropeDiceRow.holds Try.pinned (OpenSpec.ofChange ropeDiceWrong)

/-- 'gimletlaw3.RopeParts': WHATEVER THE INPUT: true; the input reads as it did. -/
def ropePartsSpec : ChangeSpec := { name := "ropeParts", fn := fun _ => fun
  | [d1, d2, d3, d4] => { results := [.lit (.bool true)], args := [d1, d2, d3, d4] }
  | _ => none }
def ropePartsRow : OpenClaim := { program := "ytidfpnedbcaicaa", sum := "5f3044f32602830ce7fae5c65c504afa260379401e8b95f15238cfc708cb859b", func := "gimlet/gimletlaw3.RopeParts", spec := "ropeParts", inPlace := ["internal/abi.NoEscape", "internal/bytealg.MakeNoZero"], recurses := true, apart := false }
def RopePartsSaid : Prop := ropePartsRow.holds Try.pinned (OpenSpec.ofChange ropePartsSpec)

/-- ITS FALSE NEIGHBOUR: 'it returns false'. Refute it at one input. -/
def ropePartsWrong : ChangeSpec := { name := "ropeParts", fn := fun _ => fun
  | [d1, d2, d3, d4] => { results := [.lit (.bool false)], args := [d1, d2, d3, d4] }
  | _ => none }
def RopePartsWrongFalsely : Prop := ropePartsRow.holds Try.pinned (OpenSpec.ofChange ropePartsWrong)

/-- 'gimletlaw3.RopeRefuses': WHATEVER THE INPUT: true; the input reads as it did. -/
def ropeRefusesSpec : ChangeSpec := { name := "ropeRefuses", fn := fun _ => fun
  | [d1, d2, d3] => { results := [.lit (.bool true)], args := [d1, d2, d3] }
  | _ => none }
def ropeRefusesRow : OpenClaim := { program := "ytidfpnedbcaicaa", sum := "5f3044f32602830ce7fae5c65c504afa260379401e8b95f15238cfc708cb859b", func := "gimlet/gimletlaw3.RopeRefuses", spec := "ropeRefuses", inPlace := ["internal/abi.NoEscape", "internal/bytealg.MakeNoZero"], recurses := true, apart := false }
def RopeRefusesSaid : Prop := ropeRefusesRow.holds Try.pinned (OpenSpec.ofChange ropeRefusesSpec)

/-- ITS FALSE NEIGHBOUR: 'it returns false'. Refute it at one input. -/
def ropeRefusesWrong : ChangeSpec := { name := "ropeRefuses", fn := fun _ => fun
  | [d1, d2, d3] => { results := [.lit (.bool false)], args := [d1, d2, d3] }
  | _ => none }
def RopeRefusesWrongFalsely : Prop := ropeRefusesRow.holds Try.pinned (OpenSpec.ofChange ropeRefusesWrong)

/-- 'gimletlaw3.RopeFew': WHATEVER THE INPUT: true; the input reads as it did. -/
def ropeFewSpec : ChangeSpec := { name := "ropeFew", fn := fun _ => fun
  | [d1, d2] => { results := [.lit (.bool true)], args := [d1, d2] }
  | _ => none }
def ropeFewRow : OpenClaim := { program := "ytidfpnedbcaicaa", sum := "5f3044f32602830ce7fae5c65c504afa260379401e8b95f15238cfc708cb859b", func := "gimlet/gimletlaw3.RopeFew", spec := "ropeFew", inPlace := ["internal/abi.NoEscape", "internal/bytealg.MakeNoZero"], recurses := true, apart := false }
def RopeFewSaid : Prop := ropeFewRow.holds Try.pinned (OpenSpec.ofChange ropeFewSpec)

/-- ITS FALSE NEIGHBOUR: 'it returns false'. Refute it at one input. -/
def ropeFewWrong : ChangeSpec := { name := "ropeFew", fn := fun _ => fun
  | [d1, d2] => { results := [.lit (.bool false)], args := [d1, d2] }
  | _ => none }
def RopeFewWrongFalsely : Prop := ropeFewRow.holds Try.pinned (OpenSpec.ofChange ropeFewWrong)

/-- 'gimletlaw3.RopeSize': WHATEVER THE INPUT: true; the input reads as it did. -/
def ropeSizeSpec : ChangeSpec := { name := "ropeSize", fn := fun _ => fun
  | [d1, d2] => { results := [.lit (.bool true)], args := [d1, d2] }
  | _ => none }
def ropeSizeRow : OpenClaim := { program := "ytidfpnedbcaicaa", sum := "5f3044f32602830ce7fae5c65c504afa260379401e8b95f15238cfc708cb859b", func := "gimlet/gimletlaw3.RopeSize", spec := "ropeSize", inPlace := ["internal/abi.NoEscape", "internal/bytealg.MakeNoZero"], recurses := true, apart := false }
def RopeSizeSaid : Prop := ropeSizeRow.holds Try.pinned (OpenSpec.ofChange ropeSizeSpec)

/-- ITS FALSE NEIGHBOUR: 'it returns false'. Refute it at one input. -/
def ropeSizeWrong : ChangeSpec := { name := "ropeSize", fn := fun _ => fun
  | [d1, d2] => { results := [.lit (.bool false)], args := [d1, d2] }
  | _ => none }
def RopeSizeWrongFalsely : Prop := ropeSizeRow.holds Try.pinned (OpenSpec.ofChange ropeSizeWrong)

/-- 'gimletlaw3.RopeTwin': WHATEVER THE INPUT: true; the input reads as it did. -/
def ropeTwinSpec : ChangeSpec := { name := "ropeTwin", fn := fun _ => fun
  | [d1, d2, d3] => { results := [.lit (.bool true)], args := [d1, d2, d3] }
  | _ => none }
def ropeTwinRow : OpenClaim := { program := "ytidfpnedbcaicaa", sum := "5f3044f32602830ce7fae5c65c504afa260379401e8b95f15238cfc708cb859b", func := "gimlet/gimletlaw3.RopeTwin", spec := "ropeTwin", inPlace := ["internal/abi.NoEscape", "internal/bytealg.MakeNoZero"], recurses := true, apart := false }
def RopeTwinSaid : Prop := ropeTwinRow.holds Try.pinned (OpenSpec.ofChange ropeTwinSpec)

/-- ITS FALSE NEIGHBOUR: 'it returns false'. Refute it at one input. -/
def ropeTwinWrong : ChangeSpec := { name := "ropeTwin", fn := fun _ => fun
  | [d1, d2, d3] => { results := [.lit (.bool false)], args := [d1, d2, d3] }
  | _ => none }
def RopeTwinWrongFalsely : Prop := ropeTwinRow.holds Try.pinned (OpenSpec.ofChange ropeTwinWrong)

/-- 'gimletlaw3.RopeNil': WHATEVER THE INPUT: true; the input reads as it did. -/
def ropeNilSpec : ChangeSpec := { name := "ropeNil", fn := fun _ => fun
  | [d1, d2, d3] => { results := [.lit (.bool true)], args := [d1, d2, d3] }
  | _ => none }
def ropeNilRow : OpenClaim := { program := "ytidfpnedbcaicaa", sum := "5f3044f32602830ce7fae5c65c504afa260379401e8b95f15238cfc708cb859b", func := "gimlet/gimletlaw3.RopeNil", spec := "ropeNil", inPlace := ["internal/abi.NoEscape", "internal/bytealg.MakeNoZero"], recurses := true, apart := false }
def RopeNilSaid : Prop := ropeNilRow.holds Try.pinned (OpenSpec.ofChange ropeNilSpec)

/-- ITS FALSE NEIGHBOUR: 'it returns false'. Refute it at one input. -/
def ropeNilWrong : ChangeSpec := { name := "ropeNil", fn := fun _ => fun
  | [d1, d2, d3] => { results := [.lit (.bool false)], args := [d1, d2, d3] }
  | _ => none }
def RopeNilWrongFalsely : Prop := ropeNilRow.holds Try.pinned (OpenSpec.ofChange ropeNilWrong)

/-- 'gimletlaw3.RopeOrder': WHATEVER THE INPUT: true; the input reads as it did. -/
def ropeOrderSpec : ChangeSpec := { name := "ropeOrder", fn := fun _ => fun
  | [d1, d2, d3, d4, d5] => { results := [.lit (.bool true)], args := [d1, d2, d3, d4, d5] }
  | _ => none }
def ropeOrderRow : OpenClaim := { program := "ytidfpnedbcaicaa", sum := "5f3044f32602830ce7fae5c65c504afa260379401e8b95f15238cfc708cb859b", func := "gimlet/gimletlaw3.RopeOrder", spec := "ropeOrder", inPlace := ["internal/abi.NoEscape", "internal/bytealg.MakeNoZero"], recurses := true, apart := false }
def RopeOrderSaid : Prop := ropeOrderRow.holds Try.pinned (OpenSpec.ofChange ropeOrderSpec)

/-- ITS FALSE NEIGHBOUR: 'it returns false'. Refute it at one input. -/
def ropeOrderWrong : ChangeSpec := { name := "ropeOrder", fn := fun _ => fun
  | [d1, d2, d3, d4, d5] => { results := [.lit (.bool false)], args := [d1, d2, d3, d4, d5] }
  | _ => none }
def RopeOrderWrongFalsely : Prop := ropeOrderRow.holds Try.pinned (OpenSpec.ofChange ropeOrderWrong)

/-- 'gimletlaw3.RopeBack': WHATEVER THE INPUT: true; the input reads as it did. -/
def ropeBackSpec : ChangeSpec := { name := "ropeBack", fn := fun _ => fun
  | [d1, d2, d3, d4] => { results := [.lit (.bool true)], args := [d1, d2, d3, d4] }
  | _ => none }
def ropeBackRow : OpenClaim := { program := "ytidfpnedbcaicaa", sum := "5f3044f32602830ce7fae5c65c504afa260379401e8b95f15238cfc708cb859b", func := "gimlet/gimletlaw3.RopeBack", spec := "ropeBack", inPlace := ["internal/abi.NoEscape", "internal/bytealg.MakeNoZero"], recurses := true, apart := false }
def RopeBackSaid : Prop := ropeBackRow.holds Try.pinned (OpenSpec.ofChange ropeBackSpec)

/-- ITS FALSE NEIGHBOUR: 'it returns false'. Refute it at one input. -/
def ropeBackWrong : ChangeSpec := { name := "ropeBack", fn := fun _ => fun
  | [d1, d2, d3, d4] => { results := [.lit (.bool false)], args := [d1, d2, d3, d4] }
  | _ => none }
def RopeBackWrongFalsely : Prop := ropeBackRow.holds Try.pinned (OpenSpec.ofChange ropeBackWrong)

/- THE SECOND FORM. 'bulk': how many values and letters a reading holds, each counted each time it is reached (what is shared counts as often as it is met; a slice's spare places count too). A statement '..UptoSaid' is the law's where the arguments, and the package variables that the reading takes, are together of bulk at most 1048576: NARROWER than '..Said'. Prove '..Said' where nothing that the law and all that it calls make is longer than what came in: it says more and counts as full. Else prove '..UptoSaid'. A law counts once. -/
mutual
def uptoBulk {H : Type} : DataW H → Nat
  | .lit (.string bytes) => bytes.length + 1
  | .lit _ => 1
  | .nil => 1
  | .ptr d => uptoBulk d + 1
  | .slice elems spare => uptoBulkAll elems + uptoBulkAll spare + 1
  | .agg parts => uptoBulkAll parts + 1
  | .iface _ d => uptoBulk d + 1
  | .map entries => uptoBulkEntries entries + 1
  | .held _ => 1
def uptoBulkAll {H : Type} : List (DataW H) → Nat
  | [] => 0
  | d :: r => uptoBulk d + uptoBulkAll r
def uptoBulkEntries {H : Type} : List (Lit × DataW H) → Nat
  | [] => 0
  | x :: r => uptoBulkEntry x + uptoBulkEntries r
def uptoBulkEntry {H : Type} : Lit × DataW H → Nat
  | (.string bytes, d) => bytes.length + uptoBulk d + 1
  | (_, d) => uptoBulk d + 1
 end
def uptoSmall : (H : Type) → List (DataW H) → Bool := fun _ ds => decide (uptoBulkAll ds ≤ 1048576)
def OpenSpec.upto (s : _root_.Go.ChangeSpec) : _root_.Go.OpenSpec := { _root_.Go.OpenSpec.ofChange s with cond := some uptoSmall }

/-- 'gimletlaw3.RopeTells', WHERE WHAT IT READS IS OF BULK AT MOST 1048576: true; the input reads as it did. -/
def ropeTellsUptoRow : OpenClaim := { program := "ytidfpnedbcaicaa", sum := "5f3044f32602830ce7fae5c65c504afa260379401e8b95f15238cfc708cb859b", func := "gimlet/gimletlaw3.RopeTells", spec := "ropeTells", inPlace := ["internal/abi.NoEscape", "internal/bytealg.MakeNoZero"], recurses := true, apart := false, narrowed := true }
def RopeTellsUptoSaid : Prop := ropeTellsUptoRow.holds Try.pinned (OpenSpec.upto ropeTellsSpec)

/-- 'gimletlaw3.RopePieces', WHERE WHAT IT READS IS OF BULK AT MOST 1048576: true; the input reads as it did. -/
def ropePiecesUptoRow : OpenClaim := { program := "ytidfpnedbcaicaa", sum := "5f3044f32602830ce7fae5c65c504afa260379401e8b95f15238cfc708cb859b", func := "gimlet/gimletlaw3.RopePieces", spec := "ropePieces", inPlace := ["internal/abi.NoEscape", "internal/bytealg.MakeNoZero"], recurses := true, apart := false, narrowed := true }
def RopePiecesUptoSaid : Prop := ropePiecesUptoRow.holds Try.pinned (OpenSpec.upto ropePiecesSpec)

/-- 'gimletlaw3.RopeDice', WHERE WHAT IT READS IS OF BULK AT MOST 1048576: true; the input reads as it did. -/
def ropeDiceUptoRow : OpenClaim := { program := "ytidfpnedbcaicaa", sum := "5f3044f32602830ce7fae5c65c504afa260379401e8b95f15238cfc708cb859b", func := "gimlet/gimletlaw3.RopeDice", spec := "ropeDice", inPlace := ["internal/abi.NoEscape", "internal/bytealg.MakeNoZero"], recurses := true, apart := false, narrowed := true }
def RopeDiceUptoSaid : Prop := ropeDiceUptoRow.holds Try.pinned (OpenSpec.upto ropeDiceSpec)

/-- 'gimletlaw3.RopeParts', WHERE WHAT IT READS IS OF BULK AT MOST 1048576: true; the input reads as it did. -/
def ropePartsUptoRow : OpenClaim := { program := "ytidfpnedbcaicaa", sum := "5f3044f32602830ce7fae5c65c504afa260379401e8b95f15238cfc708cb859b", func := "gimlet/gimletlaw3.RopeParts", spec := "ropeParts", inPlace := ["internal/abi.NoEscape", "internal/bytealg.MakeNoZero"], recurses := true, apart := false, narrowed := true }
def RopePartsUptoSaid : Prop := ropePartsUptoRow.holds Try.pinned (OpenSpec.upto ropePartsSpec)

/-- 'gimletlaw3.RopeRefuses', WHERE WHAT IT READS IS OF BULK AT MOST 1048576: true; the input reads as it did. -/
def ropeRefusesUptoRow : OpenClaim := { program := "ytidfpnedbcaicaa", sum := "5f3044f32602830ce7fae5c65c504afa260379401e8b95f15238cfc708cb859b", func := "gimlet/gimletlaw3.RopeRefuses", spec := "ropeRefuses", inPlace := ["internal/abi.NoEscape", "internal/bytealg.MakeNoZero"], recurses := true, apart := false, narrowed := true }
def RopeRefusesUptoSaid : Prop := ropeRefusesUptoRow.holds Try.pinned (OpenSpec.upto ropeRefusesSpec)

/-- 'gimletlaw3.RopeFew', WHERE WHAT IT READS IS OF BULK AT MOST 1048576: true; the input reads as it did. -/
def ropeFewUptoRow : OpenClaim := { program := "ytidfpnedbcaicaa", sum := "5f3044f32602830ce7fae5c65c504afa260379401e8b95f15238cfc708cb859b", func := "gimlet/gimletlaw3.RopeFew", spec := "ropeFew", inPlace := ["internal/abi.NoEscape", "internal/bytealg.MakeNoZero"], recurses := true, apart := false, narrowed := true }
def RopeFewUptoSaid : Prop := ropeFewUptoRow.holds Try.pinned (OpenSpec.upto ropeFewSpec)

/-- 'gimletlaw3.RopeSize', WHERE WHAT IT READS IS OF BULK AT MOST 1048576: true; the input reads as it did. -/
def ropeSizeUptoRow : OpenClaim := { program := "ytidfpnedbcaicaa", sum := "5f3044f32602830ce7fae5c65c504afa260379401e8b95f15238cfc708cb859b", func := "gimlet/gimletlaw3.RopeSize", spec := "ropeSize", inPlace := ["internal/abi.NoEscape", "internal/bytealg.MakeNoZero"], recurses := true, apart := false, narrowed := true }
def RopeSizeUptoSaid : Prop := ropeSizeUptoRow.holds Try.pinned (OpenSpec.upto ropeSizeSpec)

/-- 'gimletlaw3.RopeTwin', WHERE WHAT IT READS IS OF BULK AT MOST 1048576: true; the input reads as it did. -/
def ropeTwinUptoRow : OpenClaim := { program := "ytidfpnedbcaicaa", sum := "5f3044f32602830ce7fae5c65c504afa260379401e8b95f15238cfc708cb859b", func := "gimlet/gimletlaw3.RopeTwin", spec := "ropeTwin", inPlace := ["internal/abi.NoEscape", "internal/bytealg.MakeNoZero"], recurses := true, apart := false, narrowed := true }
def RopeTwinUptoSaid : Prop := ropeTwinUptoRow.holds Try.pinned (OpenSpec.upto ropeTwinSpec)

/-- 'gimletlaw3.RopeNil', WHERE WHAT IT READS IS OF BULK AT MOST 1048576: true; the input reads as it did. -/
def ropeNilUptoRow : OpenClaim := { program := "ytidfpnedbcaicaa", sum := "5f3044f32602830ce7fae5c65c504afa260379401e8b95f15238cfc708cb859b", func := "gimlet/gimletlaw3.RopeNil", spec := "ropeNil", inPlace := ["internal/abi.NoEscape", "internal/bytealg.MakeNoZero"], recurses := true, apart := false, narrowed := true }
def RopeNilUptoSaid : Prop := ropeNilUptoRow.holds Try.pinned (OpenSpec.upto ropeNilSpec)

/-- 'gimletlaw3.RopeOrder', WHERE WHAT IT READS IS OF BULK AT MOST 1048576: true; the input reads as it did. -/
def ropeOrderUptoRow : OpenClaim := { program := "ytidfpnedbcaicaa", sum := "5f3044f32602830ce7fae5c65c504afa260379401e8b95f15238cfc708cb859b", func := "gimlet/gimletlaw3.RopeOrder", spec := "ropeOrder", inPlace := ["internal/abi.NoEscape", "internal/bytealg.MakeNoZero"], recurses := true, apart := false, narrowed := true }
def RopeOrderUptoSaid : Prop := ropeOrderUptoRow.holds Try.pinned (OpenSpec.upto ropeOrderSpec)

/-- 'gimletlaw3.RopeBack', WHERE WHAT IT READS IS OF BULK AT MOST 1048576: true; the input reads as it did. -/
def ropeBackUptoRow : OpenClaim := { program := "ytidfpnedbcaicaa", sum := "5f3044f32602830ce7fae5c65c504afa260379401e8b95f15238cfc708cb859b", func := "gimlet/gimletlaw3.RopeBack", spec := "ropeBack", inPlace := ["internal/abi.NoEscape", "internal/bytealg.MakeNoZero"], recurses := true, apart := false, narrowed := true }
def RopeBackUptoSaid : Prop := ropeBackUptoRow.holds Try.pinned (OpenSpec.upto ropeBackSpec)

end Rows
end Go.Proofs.Ytidfpnedbcaicaa
