/-
  No cell of these rows narrows 'for every input' (looked for: loops, veiled, ifaces, maps, wideKeys, modest, calm, conditions, laid).
  DERIVED. THE GIVEN ROWS OF THIS SEAT. 3 by the template 'for every input the law returns true; each argument reads behind the call as it read before'; 0 by the template 'total and deterministic' (their statements: YtbphckblbbbakaaTotals.lean).
  GIVEN WITH THE SEED: the statements are not yours to turn. If you find one false, say at which input.
  Laid BY PROGRAM, IN A SANDBOX (cutbox-rows.mjs): the forced cells as the released guide's own fill.sh prints them over the translation 48be866340f9bcf9… (all of the seat's roots in one cut). By AI agents, Wed Nov 11 2026. No macro, syntax, notation, axiom, sorry.
-/
import Derived.Test.YtbphckblbbbakaaChecked
import GoSem.Claim
import GoSem.ClaimJoined
import GoSem.ClaimMapViews
import Derived.JoinedTies
import Derived.KernelRfl
namespace Go.Proofs.Ytbphckblbbbakaa
/- THE CELL 'sum', in the pinned program and in every row, IS THE sha256 OF THE DUMP (.gsa) THAT YtbphckblbbbakaaProg.lean LOADS. Nothing in Lean hashes anything: it is a label: what it is worth is what the hold of that sum in a sandbox is worth. -/
noncomputable def Try.pinned : Pinned := { name := "ytbphckblbbbakaa", sum := "48be866340f9bcf9ce8ef82754a86d7b19d756dc445878e5ce87b23e5bebc9ad", checked := Try.checked }
namespace Rows
def none {H : Type} : Left H := { results := [], args := [] }

/-- 'gimletlaw18.FmtText': WHATEVER THE INPUT: true; the input reads as it did. -/
def fmtTextSpec : ChangeSpec := { name := "fmtText", fn := fun _ => fun
  | [d1, d2] => { results := [.lit (.bool true)], args := [d1, d2] }
  | _ => none }
def fmtTextRow : OpenClaim := { program := "ytbphckblbbbakaa", sum := "48be866340f9bcf9ce8ef82754a86d7b19d756dc445878e5ce87b23e5bebc9ad", func := "gimlet/gimletlaw18.FmtText", spec := "fmtText", inPlace := ["internal/bytealg.IndexByteString", "internal/abi.NoEscape"], unfollowed := true, recurses := true, apart := false }
def FmtTextSaid : Prop := fmtTextRow.holds Try.pinned (OpenSpec.ofChange fmtTextSpec)

/-- ITS FALSE NEIGHBOUR: 'it returns false'. Refute it at one input. -/
def fmtTextWrong : ChangeSpec := { name := "fmtText", fn := fun _ => fun
  | [d1, d2] => { results := [.lit (.bool false)], args := [d1, d2] }
  | _ => none }
def FmtTextWrongFalsely : Prop := fmtTextRow.holds Try.pinned (OpenSpec.ofChange fmtTextWrong)

/-- 'gimletlaw18.FmtJoins': WHATEVER THE INPUT: true; the input reads as it did. -/
def fmtJoinsSpec : ChangeSpec := { name := "fmtJoins", fn := fun _ => fun
  | [d1, d2, d3, d4, d5, d6] => { results := [.lit (.bool true)], args := [d1, d2, d3, d4, d5, d6] }
  | _ => none }
def fmtJoinsRow : OpenClaim := { program := "ytbphckblbbbakaa", sum := "48be866340f9bcf9ce8ef82754a86d7b19d756dc445878e5ce87b23e5bebc9ad", func := "gimlet/gimletlaw18.FmtJoins", spec := "fmtJoins", inPlace := ["internal/bytealg.IndexByteString", "internal/abi.NoEscape"], unfollowed := true, recurses := true, apart := false }
def FmtJoinsSaid : Prop := fmtJoinsRow.holds Try.pinned (OpenSpec.ofChange fmtJoinsSpec)

/-- ITS FALSE NEIGHBOUR: 'it returns false'. Refute it at one input. -/
def fmtJoinsWrong : ChangeSpec := { name := "fmtJoins", fn := fun _ => fun
  | [d1, d2, d3, d4, d5, d6] => { results := [.lit (.bool false)], args := [d1, d2, d3, d4, d5, d6] }
  | _ => none }
def FmtJoinsWrongFalsely : Prop := fmtJoinsRow.holds Try.pinned (OpenSpec.ofChange fmtJoinsWrong)

/-- 'gimletlaw18.FmtFrom': WHATEVER THE INPUT: true; the input reads as it did. -/
def fmtFromSpec : ChangeSpec := { name := "fmtFrom", fn := fun _ => fun
  | [d1, d2] => { results := [.lit (.bool true)], args := [d1, d2] }
  | _ => none }
def fmtFromRow : OpenClaim := { program := "ytbphckblbbbakaa", sum := "48be866340f9bcf9ce8ef82754a86d7b19d756dc445878e5ce87b23e5bebc9ad", func := "gimlet/gimletlaw18.FmtFrom", spec := "fmtFrom", inPlace := ["internal/bytealg.IndexByteString", "internal/abi.NoEscape"], unfollowed := true, recurses := true, apart := false }
def FmtFromSaid : Prop := fmtFromRow.holds Try.pinned (OpenSpec.ofChange fmtFromSpec)

/-- ITS FALSE NEIGHBOUR: 'it returns false'. Refute it at one input. -/
def fmtFromWrong : ChangeSpec := { name := "fmtFrom", fn := fun _ => fun
  | [d1, d2] => { results := [.lit (.bool false)], args := [d1, d2] }
  | _ => none }
def FmtFromWrongFalsely : Prop := fmtFromRow.holds Try.pinned (OpenSpec.ofChange fmtFromWrong)

/- THE SECOND FORM. 'bulk': how many values and letters a reading holds, each counted each time it is reached (what is shared counts as often as it is met; a slice's spare places count too). A statement '..UptoSaid' is the law's where the arguments, and the package variables that the reading takes, are together of bulk at most 1048576: NARROWER than '..Said'. Prove '..Said' where nothing that the law and all that it calls make is longer than what came in: it says more and counts as full. Else prove '..UptoSaid'. A law counts once. -/
mutual
def uptoBulk {H : Type} : DataW H → Nat
  | .lit (.string bytes) => bytes.length + 1
  | .lit _ => 1
  | .nil => 1
  | .ptr d => uptoBulk d + 1
  | .slice elems spare => uptoBulkAll elems + uptoBulkAll spare + 1
  | .agg parts => uptoBulkAll parts + 1
  | .iface _ d => uptoBulk d + 1
  | .map entries => uptoBulkEntries entries + 1
  | .held _ => 1
def uptoBulkAll {H : Type} : List (DataW H) → Nat
  | [] => 0
  | d :: r => uptoBulk d + uptoBulkAll r
def uptoBulkEntries {H : Type} : List (Lit × DataW H) → Nat
  | [] => 0
  | x :: r => uptoBulkEntry x + uptoBulkEntries r
def uptoBulkEntry {H : Type} : Lit × DataW H → Nat
  | (.string bytes, d) => bytes.length + uptoBulk d + 1
  | (_, d) => uptoBulk d + 1
 end
def uptoSmall : (H : Type) → List (DataW H) → Bool := fun _ ds => decide (uptoBulkAll ds ≤ 1048576)
def OpenSpec.upto (s : _root_.Go.ChangeSpec) : _root_.Go.OpenSpec := { _root_.Go.OpenSpec.ofChange s with cond := some uptoSmall }

/-- 'gimletlaw18.FmtText', WHERE WHAT IT READS IS OF BULK AT MOST 1048576: true; the input reads as it did. -/
def fmtTextUptoRow : OpenClaim := { program := "ytbphckblbbbakaa", sum := "48be866340f9bcf9ce8ef82754a86d7b19d756dc445878e5ce87b23e5bebc9ad", func := "gimlet/gimletlaw18.FmtText", spec := "fmtText", inPlace := ["internal/bytealg.IndexByteString", "internal/abi.NoEscape"], unfollowed := true, recurses := true, apart := false, narrowed := true }
def FmtTextUptoSaid : Prop := fmtTextUptoRow.holds Try.pinned (OpenSpec.upto fmtTextSpec)

/-- 'gimletlaw18.FmtJoins', WHERE WHAT IT READS IS OF BULK AT MOST 1048576: true; the input reads as it did. -/
def fmtJoinsUptoRow : OpenClaim := { program := "ytbphckblbbbakaa", sum := "48be866340f9bcf9ce8ef82754a86d7b19d756dc445878e5ce87b23e5bebc9ad", func := "gimlet/gimletlaw18.FmtJoins", spec := "fmtJoins", inPlace := ["internal/bytealg.IndexByteString", "internal/abi.NoEscape"], unfollowed := true, recurses := true, apart := false, narrowed := true }
def FmtJoinsUptoSaid : Prop := fmtJoinsUptoRow.holds Try.pinned (OpenSpec.upto fmtJoinsSpec)

/-- 'gimletlaw18.FmtFrom', WHERE WHAT IT READS IS OF BULK AT MOST 1048576: true; the input reads as it did. -/
def fmtFromUptoRow : OpenClaim := { program := "ytbphckblbbbakaa", sum := "48be866340f9bcf9ce8ef82754a86d7b19d756dc445878e5ce87b23e5bebc9ad", func := "gimlet/gimletlaw18.FmtFrom", spec := "fmtFrom", inPlace := ["internal/bytealg.IndexByteString", "internal/abi.NoEscape"], unfollowed := true, recurses := true, apart := false, narrowed := true }
def FmtFromUptoSaid : Prop := fmtFromUptoRow.holds Try.pinned (OpenSpec.upto fmtFromSpec)

end Rows
end Go.Proofs.Ytbphckblbbbakaa
