/-
  No cell of these rows narrows 'for every input' (looked for: loops, veiled, ifaces, maps, wideKeys, modest, calm, conditions, laid).
  DERIVED. THE GIVEN ROWS OF THIS SEAT. 5 by the template 'for every input the law returns true; each argument reads behind the call as it read before'; 0 by the template 'total and deterministic' (their statements: YtodnnhhlpinpbaaTotals.lean).
  GIVEN WITH THE SEED: the statements are not yours to turn. If you find one false, say at which input.
  Laid BY PROGRAM, IN A SANDBOX (cutbox-rows.mjs): the forced cells as the released guide's own fill.sh prints them over the translation e892c3e95f909e3c… (all of the seat's roots in one cut). By AI agents, Wed Nov 11 2026. No macro, syntax, notation, axiom, sorry.
-/
import Derived.Test.YtodnnhhlpinpbaaChecked
import GoSem.Claim
import GoSem.ClaimJoined
import GoSem.ClaimMapViews
import Derived.JoinedTies
import Derived.KernelRfl
namespace Go.Proofs.Ytodnnhhlpinpbaa
/- THE CELL 'sum', in the pinned program and in every row, IS THE sha256 OF THE DUMP (.gsa) THAT YtodnnhhlpinpbaaProg.lean LOADS. Nothing in Lean hashes anything: it is a label: what it is worth is what the hold of that sum in a sandbox is worth. -/
noncomputable def Try.pinned : Pinned := { name := "ytodnnhhlpinpbaa", sum := "e892c3e95f909e3c72811ffa625b91750f55ac944732814bd4d6326537eb810a", checked := Try.checked }
namespace Rows
def none {H : Type} : Left H := { results := [], args := [] }

/-- 'gimletlaw11.CharTells': WHATEVER THE INPUT: true; the input reads as it did. -/
def charTellsSpec : ChangeSpec := { name := "charTells", fn := fun _ => fun
  | [d1, d2] => { results := [.lit (.bool true)], args := [d1, d2] }
  | _ => none }
def charTellsRow : OpenClaim := { program := "ytodnnhhlpinpbaa", sum := "e892c3e95f909e3c72811ffa625b91750f55ac944732814bd4d6326537eb810a", func := "gimlet/gimletlaw11.CharTells", spec := "charTells", unfollowed := true, recurses := true, apart := false }
def CharTellsSaid : Prop := charTellsRow.holds Try.pinned (OpenSpec.ofChange charTellsSpec)

/-- ITS FALSE NEIGHBOUR: 'it returns false'. Refute it at one input. -/
def charTellsWrong : ChangeSpec := { name := "charTells", fn := fun _ => fun
  | [d1, d2] => { results := [.lit (.bool false)], args := [d1, d2] }
  | _ => none }
def CharTellsWrongFalsely : Prop := charTellsRow.holds Try.pinned (OpenSpec.ofChange charTellsWrong)

/-- 'gimletlaw11.CharJoins': WHATEVER THE INPUT: true; the input reads as it did. -/
def charJoinsSpec : ChangeSpec := { name := "charJoins", fn := fun _ => fun
  | [d] => { results := [.lit (.bool true)], args := [d] }
  | _ => none }
def charJoinsRow : OpenClaim := { program := "ytodnnhhlpinpbaa", sum := "e892c3e95f909e3c72811ffa625b91750f55ac944732814bd4d6326537eb810a", func := "gimlet/gimletlaw11.CharJoins", spec := "charJoins", inPlace := ["internal/abi.NoEscape", "internal/bytealg.MakeNoZero"], unfollowed := true, recurses := true, apart := false }
def CharJoinsSaid : Prop := charJoinsRow.holds Try.pinned (OpenSpec.ofChange charJoinsSpec)

/-- ITS FALSE NEIGHBOUR: 'it returns false'. Refute it at one input. -/
def charJoinsWrong : ChangeSpec := { name := "charJoins", fn := fun _ => fun
  | [d] => { results := [.lit (.bool false)], args := [d] }
  | _ => none }
def CharJoinsWrongFalsely : Prop := charJoinsRow.holds Try.pinned (OpenSpec.ofChange charJoinsWrong)

/-- 'gimletlaw11.CharCut': WHATEVER THE INPUT: true; the input reads as it did. -/
def charCutSpec : ChangeSpec := { name := "charCut", fn := fun _ => fun
  | [d1, d2] => { results := [.lit (.bool true)], args := [d1, d2] }
  | _ => none }
def charCutRow : OpenClaim := { program := "ytodnnhhlpinpbaa", sum := "e892c3e95f909e3c72811ffa625b91750f55ac944732814bd4d6326537eb810a", func := "gimlet/gimletlaw11.CharCut", spec := "charCut", unfollowed := true, recurses := true, apart := false }
def CharCutSaid : Prop := charCutRow.holds Try.pinned (OpenSpec.ofChange charCutSpec)

/-- ITS FALSE NEIGHBOUR: 'it returns false'. Refute it at one input. -/
def charCutWrong : ChangeSpec := { name := "charCut", fn := fun _ => fun
  | [d1, d2] => { results := [.lit (.bool false)], args := [d1, d2] }
  | _ => none }
def CharCutWrongFalsely : Prop := charCutRow.holds Try.pinned (OpenSpec.ofChange charCutWrong)

/-- 'gimletlaw11.CharPlaces': WHATEVER THE INPUT: true; the input reads as it did. -/
def charPlacesSpec : ChangeSpec := { name := "charPlaces", fn := fun _ => fun
  | [d] => { results := [.lit (.bool true)], args := [d] }
  | _ => none }
def charPlacesRow : OpenClaim := { program := "ytodnnhhlpinpbaa", sum := "e892c3e95f909e3c72811ffa625b91750f55ac944732814bd4d6326537eb810a", func := "gimlet/gimletlaw11.CharPlaces", spec := "charPlaces", inPlace := ["internal/abi.NoEscape", "internal/bytealg.MakeNoZero"], unfollowed := true, recurses := true, apart := false }
def CharPlacesSaid : Prop := charPlacesRow.holds Try.pinned (OpenSpec.ofChange charPlacesSpec)

/-- ITS FALSE NEIGHBOUR: 'it returns false'. Refute it at one input. -/
def charPlacesWrong : ChangeSpec := { name := "charPlaces", fn := fun _ => fun
  | [d] => { results := [.lit (.bool false)], args := [d] }
  | _ => none }
def CharPlacesWrongFalsely : Prop := charPlacesRow.holds Try.pinned (OpenSpec.ofChange charPlacesWrong)

/-- 'gimletlaw11.CharFold': WHATEVER THE INPUT: true; the input reads as it did. -/
def charFoldSpec : ChangeSpec := { name := "charFold", fn := fun _ => fun
  | [d] => { results := [.lit (.bool true)], args := [d] }
  | _ => none }
def charFoldRow : OpenClaim := { program := "ytodnnhhlpinpbaa", sum := "e892c3e95f909e3c72811ffa625b91750f55ac944732814bd4d6326537eb810a", func := "gimlet/gimletlaw11.CharFold", spec := "charFold", unfollowed := true, recurses := true, apart := false }
def CharFoldSaid : Prop := charFoldRow.holds Try.pinned (OpenSpec.ofChange charFoldSpec)

/-- ITS FALSE NEIGHBOUR: 'it returns false'. Refute it at one input. -/
def charFoldWrong : ChangeSpec := { name := "charFold", fn := fun _ => fun
  | [d] => { results := [.lit (.bool false)], args := [d] }
  | _ => none }
def CharFoldWrongFalsely : Prop := charFoldRow.holds Try.pinned (OpenSpec.ofChange charFoldWrong)

/- THE SECOND FORM. 'bulk': how many values and letters a reading holds, each counted each time it is reached (what is shared counts as often as it is met; a slice's spare places count too). A statement '..UptoSaid' is the law's where the arguments, and the package variables that the reading takes, are together of bulk at most 1048576: NARROWER than '..Said'. Prove '..Said' where nothing that the law and all that it calls make is longer than what came in: it says more and counts as full. Else prove '..UptoSaid'. A law counts once. -/
mutual
def uptoBulk {H : Type} : DataW H → Nat
  | .lit (.string bytes) => bytes.length + 1
  | .lit _ => 1
  | .nil => 1
  | .ptr d => uptoBulk d + 1
  | .slice elems spare => uptoBulkAll elems + uptoBulkAll spare + 1
  | .agg parts => uptoBulkAll parts + 1
  | .iface _ d => uptoBulk d + 1
  | .map entries => uptoBulkEntries entries + 1
  | .held _ => 1
def uptoBulkAll {H : Type} : List (DataW H) → Nat
  | [] => 0
  | d :: r => uptoBulk d + uptoBulkAll r
def uptoBulkEntries {H : Type} : List (Lit × DataW H) → Nat
  | [] => 0
  | x :: r => uptoBulkEntry x + uptoBulkEntries r
def uptoBulkEntry {H : Type} : Lit × DataW H → Nat
  | (.string bytes, d) => bytes.length + uptoBulk d + 1
  | (_, d) => uptoBulk d + 1
 end
def uptoSmall : (H : Type) → List (DataW H) → Bool := fun _ ds => decide (uptoBulkAll ds ≤ 1048576)
def OpenSpec.upto (s : _root_.Go.ChangeSpec) : _root_.Go.OpenSpec := { _root_.Go.OpenSpec.ofChange s with cond := some uptoSmall }

/-- 'gimletlaw11.CharTells', WHERE WHAT IT READS IS OF BULK AT MOST 1048576: true; the input reads as it did. -/
def charTellsUptoRow : OpenClaim := { program := "ytodnnhhlpinpbaa", sum := "e892c3e95f909e3c72811ffa625b91750f55ac944732814bd4d6326537eb810a", func := "gimlet/gimletlaw11.CharTells", spec := "charTells", unfollowed := true, recurses := true, apart := false, narrowed := true }
def CharTellsUptoSaid : Prop := charTellsUptoRow.holds Try.pinned (OpenSpec.upto charTellsSpec)

/-- 'gimletlaw11.CharJoins', WHERE WHAT IT READS IS OF BULK AT MOST 1048576: true; the input reads as it did. -/
def charJoinsUptoRow : OpenClaim := { program := "ytodnnhhlpinpbaa", sum := "e892c3e95f909e3c72811ffa625b91750f55ac944732814bd4d6326537eb810a", func := "gimlet/gimletlaw11.CharJoins", spec := "charJoins", inPlace := ["internal/abi.NoEscape", "internal/bytealg.MakeNoZero"], unfollowed := true, recurses := true, apart := false, narrowed := true }
def CharJoinsUptoSaid : Prop := charJoinsUptoRow.holds Try.pinned (OpenSpec.upto charJoinsSpec)

/-- 'gimletlaw11.CharCut', WHERE WHAT IT READS IS OF BULK AT MOST 1048576: true; the input reads as it did. -/
def charCutUptoRow : OpenClaim := { program := "ytodnnhhlpinpbaa", sum := "e892c3e95f909e3c72811ffa625b91750f55ac944732814bd4d6326537eb810a", func := "gimlet/gimletlaw11.CharCut", spec := "charCut", unfollowed := true, recurses := true, apart := false, narrowed := true }
def CharCutUptoSaid : Prop := charCutUptoRow.holds Try.pinned (OpenSpec.upto charCutSpec)

/-- 'gimletlaw11.CharPlaces', WHERE WHAT IT READS IS OF BULK AT MOST 1048576: true; the input reads as it did. -/
def charPlacesUptoRow : OpenClaim := { program := "ytodnnhhlpinpbaa", sum := "e892c3e95f909e3c72811ffa625b91750f55ac944732814bd4d6326537eb810a", func := "gimlet/gimletlaw11.CharPlaces", spec := "charPlaces", inPlace := ["internal/abi.NoEscape", "internal/bytealg.MakeNoZero"], unfollowed := true, recurses := true, apart := false, narrowed := true }
def CharPlacesUptoSaid : Prop := charPlacesUptoRow.holds Try.pinned (OpenSpec.upto charPlacesSpec)

/-- 'gimletlaw11.CharFold', WHERE WHAT IT READS IS OF BULK AT MOST 1048576: true; the input reads as it did. -/
def charFoldUptoRow : OpenClaim := { program := "ytodnnhhlpinpbaa", sum := "e892c3e95f909e3c72811ffa625b91750f55ac944732814bd4d6326537eb810a", func := "gimlet/gimletlaw11.CharFold", spec := "charFold", unfollowed := true, recurses := true, apart := false, narrowed := true }
def CharFoldUptoSaid : Prop := charFoldUptoRow.holds Try.pinned (OpenSpec.upto charFoldSpec)

end Rows
end Go.Proofs.Ytodnnhhlpinpbaa
