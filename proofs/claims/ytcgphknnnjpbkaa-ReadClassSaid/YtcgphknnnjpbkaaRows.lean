/-
  No cell of these rows narrows 'for every input' (looked for: loops, veiled, ifaces, maps, wideKeys, modest, calm, conditions, laid).
  DERIVED. THE GIVEN ROWS OF THIS SEAT. 9 by the template 'for every input the law returns true; each argument reads behind the call as it read before'; 0 by the template 'total and deterministic' (their statements: YtcgphknnnjpbkaaTotals.lean).
  GIVEN WITH THE SEED: the statements are not yours to turn. If you find one false, say at which input.
  Laid BY PROGRAM, IN A SANDBOX (cutbox-rows.mjs): the forced cells as the released guide's own fill.sh prints them over the translation 59c211a1540afb1d… (all of the seat's roots in one cut). By AI agents, Wed Nov 11 2026. No macro, syntax, notation, axiom, sorry.
-/
import Derived.Test.YtcgphknnnjpbkaaChecked
import GoSem.Claim
import GoSem.ClaimJoined
import GoSem.ClaimMapViews
import Derived.JoinedTies
import Derived.KernelRfl
namespace Go.Proofs.Ytcgphknnnjpbkaa
/- THE CELL 'sum', in the pinned program and in every row, IS THE sha256 OF THE DUMP (.gsa) THAT YtcgphknnnjpbkaaProg.lean LOADS. Nothing in Lean hashes anything: it is a label: what it is worth is what the hold of that sum in a sandbox is worth. -/
noncomputable def Try.pinned : Pinned := { name := "ytcgphknnnjpbkaa", sum := "59c211a1540afb1d88acf73d5b39db048a2d6c4579fcedf77ca95250eea26359", checked := Try.checked }
namespace Rows
def none {H : Type} : Left H := { results := [], args := [] }

/-- 'gimletlaw14.ReadTells': WHATEVER THE INPUT: true; the input reads as it did. -/
def readTellsSpec : ChangeSpec := { name := "readTells", fn := fun _ => fun
  | [d] => { results := [.lit (.bool true)], args := [d] }
  | _ => none }
def readTellsRow : OpenClaim := { program := "ytcgphknnnjpbkaa", sum := "59c211a1540afb1d88acf73d5b39db048a2d6c4579fcedf77ca95250eea26359", func := "gimlet/gimletlaw14.ReadTells", spec := "readTells", unfollowed := true, recurses := true, apart := false }
def ReadTellsSaid : Prop := readTellsRow.holds Try.pinned (OpenSpec.ofChange readTellsSpec)

/-- ITS FALSE NEIGHBOUR: 'it returns false'. Refute it at one input. -/
def readTellsWrong : ChangeSpec := { name := "readTells", fn := fun _ => fun
  | [d] => { results := [.lit (.bool false)], args := [d] }
  | _ => none }
def ReadTellsWrongFalsely : Prop := readTellsRow.holds Try.pinned (OpenSpec.ofChange readTellsWrong)

/-- 'gimletlaw14.ReadMay': WHATEVER THE INPUT: true; the input reads as it did. -/
def readMaySpec : ChangeSpec := { name := "readMay", fn := fun _ => fun
  | [d] => { results := [.lit (.bool true)], args := [d] }
  | _ => none }
def readMayRow : OpenClaim := { program := "ytcgphknnnjpbkaa", sum := "59c211a1540afb1d88acf73d5b39db048a2d6c4579fcedf77ca95250eea26359", func := "gimlet/gimletlaw14.ReadMay", spec := "readMay", unfollowed := true, recurses := true, apart := false }
def ReadMaySaid : Prop := readMayRow.holds Try.pinned (OpenSpec.ofChange readMaySpec)

/-- ITS FALSE NEIGHBOUR: 'it returns false'. Refute it at one input. -/
def readMayWrong : ChangeSpec := { name := "readMay", fn := fun _ => fun
  | [d] => { results := [.lit (.bool false)], args := [d] }
  | _ => none }
def ReadMayWrongFalsely : Prop := readMayRow.holds Try.pinned (OpenSpec.ofChange readMayWrong)

/-- 'gimletlaw14.ReadAlt': WHATEVER THE INPUT: true; the input reads as it did. -/
def readAltSpec : ChangeSpec := { name := "readAlt", fn := fun _ => fun
  | [d1, d2] => { results := [.lit (.bool true)], args := [d1, d2] }
  | _ => none }
def readAltRow : OpenClaim := { program := "ytcgphknnnjpbkaa", sum := "59c211a1540afb1d88acf73d5b39db048a2d6c4579fcedf77ca95250eea26359", func := "gimlet/gimletlaw14.ReadAlt", spec := "readAlt", unfollowed := true, recurses := true, apart := false }
def ReadAltSaid : Prop := readAltRow.holds Try.pinned (OpenSpec.ofChange readAltSpec)

/-- ITS FALSE NEIGHBOUR: 'it returns false'. Refute it at one input. -/
def readAltWrong : ChangeSpec := { name := "readAlt", fn := fun _ => fun
  | [d1, d2] => { results := [.lit (.bool false)], args := [d1, d2] }
  | _ => none }
def ReadAltWrongFalsely : Prop := readAltRow.holds Try.pinned (OpenSpec.ofChange readAltWrong)

/-- 'gimletlaw14.ReadSeq': WHATEVER THE INPUT: true; the input reads as it did. -/
def readSeqSpec : ChangeSpec := { name := "readSeq", fn := fun _ => fun
  | [d1, d2] => { results := [.lit (.bool true)], args := [d1, d2] }
  | _ => none }
def readSeqRow : OpenClaim := { program := "ytcgphknnnjpbkaa", sum := "59c211a1540afb1d88acf73d5b39db048a2d6c4579fcedf77ca95250eea26359", func := "gimlet/gimletlaw14.ReadSeq", spec := "readSeq", unfollowed := true, recurses := true, apart := false }
def ReadSeqSaid : Prop := readSeqRow.holds Try.pinned (OpenSpec.ofChange readSeqSpec)

/-- ITS FALSE NEIGHBOUR: 'it returns false'. Refute it at one input. -/
def readSeqWrong : ChangeSpec := { name := "readSeq", fn := fun _ => fun
  | [d1, d2] => { results := [.lit (.bool false)], args := [d1, d2] }
  | _ => none }
def ReadSeqWrongFalsely : Prop := readSeqRow.holds Try.pinned (OpenSpec.ofChange readSeqWrong)

/-- 'gimletlaw14.ReadGroup': WHATEVER THE INPUT: true; the input reads as it did. -/
def readGroupSpec : ChangeSpec := { name := "readGroup", fn := fun _ => fun
  | [d1, d2, d3] => { results := [.lit (.bool true)], args := [d1, d2, d3] }
  | _ => none }
def readGroupRow : OpenClaim := { program := "ytcgphknnnjpbkaa", sum := "59c211a1540afb1d88acf73d5b39db048a2d6c4579fcedf77ca95250eea26359", func := "gimlet/gimletlaw14.ReadGroup", spec := "readGroup", unfollowed := true, recurses := true, apart := false }
def ReadGroupSaid : Prop := readGroupRow.holds Try.pinned (OpenSpec.ofChange readGroupSpec)

/-- ITS FALSE NEIGHBOUR: 'it returns false'. Refute it at one input. -/
def readGroupWrong : ChangeSpec := { name := "readGroup", fn := fun _ => fun
  | [d1, d2, d3] => { results := [.lit (.bool false)], args := [d1, d2, d3] }
  | _ => none }
def ReadGroupWrongFalsely : Prop := readGroupRow.holds Try.pinned (OpenSpec.ofChange readGroupWrong)

/-- 'gimletlaw14.ReadEscape': WHATEVER THE INPUT: true; the input reads as it did. -/
def readEscapeSpec : ChangeSpec := { name := "readEscape", fn := fun _ => fun
  | [d] => { results := [.lit (.bool true)], args := [d] }
  | _ => none }
def readEscapeRow : OpenClaim := { program := "ytcgphknnnjpbkaa", sum := "59c211a1540afb1d88acf73d5b39db048a2d6c4579fcedf77ca95250eea26359", func := "gimlet/gimletlaw14.ReadEscape", spec := "readEscape", unfollowed := true, recurses := true, apart := false }
def ReadEscapeSaid : Prop := readEscapeRow.holds Try.pinned (OpenSpec.ofChange readEscapeSpec)

/-- ITS FALSE NEIGHBOUR: 'it returns false'. Refute it at one input. -/
def readEscapeWrong : ChangeSpec := { name := "readEscape", fn := fun _ => fun
  | [d] => { results := [.lit (.bool false)], args := [d] }
  | _ => none }
def ReadEscapeWrongFalsely : Prop := readEscapeRow.holds Try.pinned (OpenSpec.ofChange readEscapeWrong)

/-- 'gimletlaw14.ReadTimes': WHATEVER THE INPUT: true; the input reads as it did. -/
def readTimesSpec : ChangeSpec := { name := "readTimes", fn := fun _ => fun
  | [d1, d2, d3, d4] => { results := [.lit (.bool true)], args := [d1, d2, d3, d4] }
  | _ => none }
def readTimesRow : OpenClaim := { program := "ytcgphknnnjpbkaa", sum := "59c211a1540afb1d88acf73d5b39db048a2d6c4579fcedf77ca95250eea26359", func := "gimlet/gimletlaw14.ReadTimes", spec := "readTimes", unfollowed := true, recurses := true, apart := false }
def ReadTimesSaid : Prop := readTimesRow.holds Try.pinned (OpenSpec.ofChange readTimesSpec)

/-- ITS FALSE NEIGHBOUR: 'it returns false'. Refute it at one input. -/
def readTimesWrong : ChangeSpec := { name := "readTimes", fn := fun _ => fun
  | [d1, d2, d3, d4] => { results := [.lit (.bool false)], args := [d1, d2, d3, d4] }
  | _ => none }
def ReadTimesWrongFalsely : Prop := readTimesRow.holds Try.pinned (OpenSpec.ofChange readTimesWrong)

/-- 'gimletlaw14.ReadClass': WHATEVER THE INPUT: true; the input reads as it did. -/
def readClassSpec : ChangeSpec := { name := "readClass", fn := fun _ => fun
  | [d1, d2] => { results := [.lit (.bool true)], args := [d1, d2] }
  | _ => none }
def readClassRow : OpenClaim := { program := "ytcgphknnnjpbkaa", sum := "59c211a1540afb1d88acf73d5b39db048a2d6c4579fcedf77ca95250eea26359", func := "gimlet/gimletlaw14.ReadClass", spec := "readClass", unfollowed := true, recurses := true, apart := false }
def ReadClassSaid : Prop := readClassRow.holds Try.pinned (OpenSpec.ofChange readClassSpec)

/-- ITS FALSE NEIGHBOUR: 'it returns false'. Refute it at one input. -/
def readClassWrong : ChangeSpec := { name := "readClass", fn := fun _ => fun
  | [d1, d2] => { results := [.lit (.bool false)], args := [d1, d2] }
  | _ => none }
def ReadClassWrongFalsely : Prop := readClassRow.holds Try.pinned (OpenSpec.ofChange readClassWrong)

/-- 'gimletlaw14.ReadOften': WHATEVER THE INPUT: true; the input reads as it did. -/
def readOftenSpec : ChangeSpec := { name := "readOften", fn := fun _ => fun
  | [d1, d2, d3, d4] => { results := [.lit (.bool true)], args := [d1, d2, d3, d4] }
  | _ => none }
def readOftenRow : OpenClaim := { program := "ytcgphknnnjpbkaa", sum := "59c211a1540afb1d88acf73d5b39db048a2d6c4579fcedf77ca95250eea26359", func := "gimlet/gimletlaw14.ReadOften", spec := "readOften", unfollowed := true, recurses := true, apart := false }
def ReadOftenSaid : Prop := readOftenRow.holds Try.pinned (OpenSpec.ofChange readOftenSpec)

/-- ITS FALSE NEIGHBOUR: 'it returns false'. Refute it at one input. -/
def readOftenWrong : ChangeSpec := { name := "readOften", fn := fun _ => fun
  | [d1, d2, d3, d4] => { results := [.lit (.bool false)], args := [d1, d2, d3, d4] }
  | _ => none }
def ReadOftenWrongFalsely : Prop := readOftenRow.holds Try.pinned (OpenSpec.ofChange readOftenWrong)

/- THE SECOND FORM. 'bulk': how many values and letters a reading holds, each counted each time it is reached (what is shared counts as often as it is met; a slice's spare places count too). A statement '..UptoSaid' is the law's where the arguments, and the package variables that the reading takes, are together of bulk at most 1048576: NARROWER than '..Said'. Prove '..Said' where nothing that the law and all that it calls make is longer than what came in: it says more and counts as full. Else prove '..UptoSaid'. A law counts once. -/
mutual
def uptoBulk {H : Type} : DataW H → Nat
  | .lit (.string bytes) => bytes.length + 1
  | .lit _ => 1
  | .nil => 1
  | .ptr d => uptoBulk d + 1
  | .slice elems spare => uptoBulkAll elems + uptoBulkAll spare + 1
  | .agg parts => uptoBulkAll parts + 1
  | .iface _ d => uptoBulk d + 1
  | .map entries => uptoBulkEntries entries + 1
  | .held _ => 1
def uptoBulkAll {H : Type} : List (DataW H) → Nat
  | [] => 0
  | d :: r => uptoBulk d + uptoBulkAll r
def uptoBulkEntries {H : Type} : List (Lit × DataW H) → Nat
  | [] => 0
  | x :: r => uptoBulkEntry x + uptoBulkEntries r
def uptoBulkEntry {H : Type} : Lit × DataW H → Nat
  | (.string bytes, d) => bytes.length + uptoBulk d + 1
  | (_, d) => uptoBulk d + 1
 end
def uptoSmall : (H : Type) → List (DataW H) → Bool := fun _ ds => decide (uptoBulkAll ds ≤ 1048576)
def OpenSpec.upto (s : _root_.Go.ChangeSpec) : _root_.Go.OpenSpec := { _root_.Go.OpenSpec.ofChange s with cond := some uptoSmall }

/-- 'gimletlaw14.ReadTells', WHERE WHAT IT READS IS OF BULK AT MOST 1048576: true; the input reads as it did. -/
def readTellsUptoRow : OpenClaim := { program := "ytcgphknnnjpbkaa", sum := "59c211a1540afb1d88acf73d5b39db048a2d6c4579fcedf77ca95250eea26359", func := "gimlet/gimletlaw14.ReadTells", spec := "readTells", unfollowed := true, recurses := true, apart := false, narrowed := true }
def ReadTellsUptoSaid : Prop := readTellsUptoRow.holds Try.pinned (OpenSpec.upto readTellsSpec)

/-- 'gimletlaw14.ReadMay', WHERE WHAT IT READS IS OF BULK AT MOST 1048576: true; the input reads as it did. -/
def readMayUptoRow : OpenClaim := { program := "ytcgphknnnjpbkaa", sum := "59c211a1540afb1d88acf73d5b39db048a2d6c4579fcedf77ca95250eea26359", func := "gimlet/gimletlaw14.ReadMay", spec := "readMay", unfollowed := true, recurses := true, apart := false, narrowed := true }
def ReadMayUptoSaid : Prop := readMayUptoRow.holds Try.pinned (OpenSpec.upto readMaySpec)

/-- 'gimletlaw14.ReadAlt', WHERE WHAT IT READS IS OF BULK AT MOST 1048576: true; the input reads as it did. -/
def readAltUptoRow : OpenClaim := { program := "ytcgphknnnjpbkaa", sum := "59c211a1540afb1d88acf73d5b39db048a2d6c4579fcedf77ca95250eea26359", func := "gimlet/gimletlaw14.ReadAlt", spec := "readAlt", unfollowed := true, recurses := true, apart := false, narrowed := true }
def ReadAltUptoSaid : Prop := readAltUptoRow.holds Try.pinned (OpenSpec.upto readAltSpec)

/-- 'gimletlaw14.ReadSeq', WHERE WHAT IT READS IS OF BULK AT MOST 1048576: true; the input reads as it did. -/
def readSeqUptoRow : OpenClaim := { program := "ytcgphknnnjpbkaa", sum := "59c211a1540afb1d88acf73d5b39db048a2d6c4579fcedf77ca95250eea26359", func := "gimlet/gimletlaw14.ReadSeq", spec := "readSeq", unfollowed := true, recurses := true, apart := false, narrowed := true }
def ReadSeqUptoSaid : Prop := readSeqUptoRow.holds Try.pinned (OpenSpec.upto readSeqSpec)

/-- 'gimletlaw14.ReadGroup', WHERE WHAT IT READS IS OF BULK AT MOST 1048576: true; the input reads as it did. -/
def readGroupUptoRow : OpenClaim := { program := "ytcgphknnnjpbkaa", sum := "59c211a1540afb1d88acf73d5b39db048a2d6c4579fcedf77ca95250eea26359", func := "gimlet/gimletlaw14.ReadGroup", spec := "readGroup", unfollowed := true, recurses := true, apart := false, narrowed := true }
def ReadGroupUptoSaid : Prop := readGroupUptoRow.holds Try.pinned (OpenSpec.upto readGroupSpec)

/-- 'gimletlaw14.ReadEscape', WHERE WHAT IT READS IS OF BULK AT MOST 1048576: true; the input reads as it did. -/
def readEscapeUptoRow : OpenClaim := { program := "ytcgphknnnjpbkaa", sum := "59c211a1540afb1d88acf73d5b39db048a2d6c4579fcedf77ca95250eea26359", func := "gimlet/gimletlaw14.ReadEscape", spec := "readEscape", unfollowed := true, recurses := true, apart := false, narrowed := true }
def ReadEscapeUptoSaid : Prop := readEscapeUptoRow.holds Try.pinned (OpenSpec.upto readEscapeSpec)

/-- 'gimletlaw14.ReadTimes', WHERE WHAT IT READS IS OF BULK AT MOST 1048576: true; the input reads as it did. -/
def readTimesUptoRow : OpenClaim := { program := "ytcgphknnnjpbkaa", sum := "59c211a1540afb1d88acf73d5b39db048a2d6c4579fcedf77ca95250eea26359", func := "gimlet/gimletlaw14.ReadTimes", spec := "readTimes", unfollowed := true, recurses := true, apart := false, narrowed := true }
def ReadTimesUptoSaid : Prop := readTimesUptoRow.holds Try.pinned (OpenSpec.upto readTimesSpec)

/-- 'gimletlaw14.ReadClass', WHERE WHAT IT READS IS OF BULK AT MOST 1048576: true; the input reads as it did. -/
def readClassUptoRow : OpenClaim := { program := "ytcgphknnnjpbkaa", sum := "59c211a1540afb1d88acf73d5b39db048a2d6c4579fcedf77ca95250eea26359", func := "gimlet/gimletlaw14.ReadClass", spec := "readClass", unfollowed := true, recurses := true, apart := false, narrowed := true }
def ReadClassUptoSaid : Prop := readClassUptoRow.holds Try.pinned (OpenSpec.upto readClassSpec)

/-- 'gimletlaw14.ReadOften', WHERE WHAT IT READS IS OF BULK AT MOST 1048576: true; the input reads as it did. -/
def readOftenUptoRow : OpenClaim := { program := "ytcgphknnnjpbkaa", sum := "59c211a1540afb1d88acf73d5b39db048a2d6c4579fcedf77ca95250eea26359", func := "gimlet/gimletlaw14.ReadOften", spec := "readOften", unfollowed := true, recurses := true, apart := false, narrowed := true }
def ReadOftenUptoSaid : Prop := readOftenUptoRow.holds Try.pinned (OpenSpec.upto readOftenSpec)

end Rows
end Go.Proofs.Ytcgphknnnjpbkaa
