/-
  No cell of these rows narrows 'for every input' (looked for: loops, veiled, ifaces, maps, wideKeys, modest, calm, conditions, laid).
  DERIVED. THE GIVEN ROWS OF THIS SEAT. 10 by the template 'for every input the law returns true; each argument reads behind the call as it read before'; 0 by the template 'total and deterministic' (their statements: YtbaaciekjpadfaaTotals.lean).
  GIVEN WITH THE SEED: the statements are not yours to turn. If you find one false, say at which input.
  Laid BY PROGRAM, IN A SANDBOX (cutbox-rows.mjs): the forced cells as the released guide's own fill.sh prints them over the translation 702bb70de12ed3e9… (all of the seat's roots in one cut). By AI agents, Wed Nov 11 2026. No macro, syntax, notation, axiom, sorry.
-/
import Derived.Test.YtbaaciekjpadfaaChecked
import GoSem.Claim
import GoSem.ClaimJoined
import GoSem.ClaimMapViews
import Derived.JoinedTies
import Derived.KernelRfl
namespace Go.Proofs.Ytbaaciekjpadfaa
/- THE CELL 'sum', in the pinned program and in every row, IS THE sha256 OF THE DUMP (.gsa) THAT YtbaaciekjpadfaaProg.lean LOADS. Nothing in Lean hashes anything: it is a label: what it is worth is what the hold of that sum in a sandbox is worth. -/
noncomputable def Try.pinned : Pinned := { name := "ytbaaciekjpadfaa", sum := "702bb70de12ed3e95923033317f5aade30ffad990ac81c148a4da71bb7b76825", checked := Try.checked }
namespace Rows
def none {H : Type} : Left H := { results := [], args := [] }

/-- 'gimletlaw6.ChangeTells': WHATEVER THE INPUT: true; the input reads as it did. -/
def changeTellsSpec : ChangeSpec := { name := "changeTells", fn := fun _ => fun
  | [d1, d2] => { results := [.lit (.bool true)], args := [d1, d2] }
  | _ => none }
def changeTellsRow : OpenClaim := { program := "ytbaaciekjpadfaa", sum := "702bb70de12ed3e95923033317f5aade30ffad990ac81c148a4da71bb7b76825", func := "gimlet/gimletlaw6.ChangeTells", spec := "changeTells", inPlace := ["internal/abi.NoEscape", "internal/bytealg.MakeNoZero"], unfollowed := true, recurses := true, apart := false }
def ChangeTellsSaid : Prop := changeTellsRow.holds Try.pinned (OpenSpec.ofChange changeTellsSpec)

/-- ITS FALSE NEIGHBOUR: 'it returns false'. Refute it at one input. -/
def changeTellsWrong : ChangeSpec := { name := "changeTells", fn := fun _ => fun
  | [d1, d2] => { results := [.lit (.bool false)], args := [d1, d2] }
  | _ => none }
def ChangeTellsWrongFalsely : Prop := changeTellsRow.holds Try.pinned (OpenSpec.ofChange changeTellsWrong)

/-- 'gimletlaw6.ChangeApart': WHATEVER THE INPUT: true; the input reads as it did. -/
def changeApartSpec : ChangeSpec := { name := "changeApart", fn := fun _ => fun
  | [d1, d2, d3] => { results := [.lit (.bool true)], args := [d1, d2, d3] }
  | _ => none }
def changeApartRow : OpenClaim := { program := "ytbaaciekjpadfaa", sum := "702bb70de12ed3e95923033317f5aade30ffad990ac81c148a4da71bb7b76825", func := "gimlet/gimletlaw6.ChangeApart", spec := "changeApart", inPlace := ["internal/abi.NoEscape", "internal/bytealg.MakeNoZero"], unfollowed := true, recurses := true, apart := false }
def ChangeApartSaid : Prop := changeApartRow.holds Try.pinned (OpenSpec.ofChange changeApartSpec)

/-- ITS FALSE NEIGHBOUR: 'it returns false'. Refute it at one input. -/
def changeApartWrong : ChangeSpec := { name := "changeApart", fn := fun _ => fun
  | [d1, d2, d3] => { results := [.lit (.bool false)], args := [d1, d2, d3] }
  | _ => none }
def ChangeApartWrongFalsely : Prop := changeApartRow.holds Try.pinned (OpenSpec.ofChange changeApartWrong)

/-- 'gimletlaw6.ChangeSingly': WHATEVER THE INPUT: true; the input reads as it did. -/
def changeSinglySpec : ChangeSpec := { name := "changeSingly", fn := fun _ => fun
  | [d1, d2, d3] => { results := [.lit (.bool true)], args := [d1, d2, d3] }
  | _ => none }
def changeSinglyRow : OpenClaim := { program := "ytbaaciekjpadfaa", sum := "702bb70de12ed3e95923033317f5aade30ffad990ac81c148a4da71bb7b76825", func := "gimlet/gimletlaw6.ChangeSingly", spec := "changeSingly", inPlace := ["internal/abi.NoEscape", "internal/bytealg.MakeNoZero"], unfollowed := true, recurses := true, apart := false }
def ChangeSinglySaid : Prop := changeSinglyRow.holds Try.pinned (OpenSpec.ofChange changeSinglySpec)

/-- ITS FALSE NEIGHBOUR: 'it returns false'. Refute it at one input. -/
def changeSinglyWrong : ChangeSpec := { name := "changeSingly", fn := fun _ => fun
  | [d1, d2, d3] => { results := [.lit (.bool false)], args := [d1, d2, d3] }
  | _ => none }
def ChangeSinglyWrongFalsely : Prop := changeSinglyRow.holds Try.pinned (OpenSpec.ofChange changeSinglyWrong)

/-- 'gimletlaw6.ChangeBack': WHATEVER THE INPUT: true; the input reads as it did. -/
def changeBackSpec : ChangeSpec := { name := "changeBack", fn := fun _ => fun
  | [d1, d2, d3] => { results := [.lit (.bool true)], args := [d1, d2, d3] }
  | _ => none }
def changeBackRow : OpenClaim := { program := "ytbaaciekjpadfaa", sum := "702bb70de12ed3e95923033317f5aade30ffad990ac81c148a4da71bb7b76825", func := "gimlet/gimletlaw6.ChangeBack", spec := "changeBack", inPlace := ["internal/abi.NoEscape", "internal/bytealg.MakeNoZero"], unfollowed := true, recurses := true, apart := false }
def ChangeBackSaid : Prop := changeBackRow.holds Try.pinned (OpenSpec.ofChange changeBackSpec)

/-- ITS FALSE NEIGHBOUR: 'it returns false'. Refute it at one input. -/
def changeBackWrong : ChangeSpec := { name := "changeBack", fn := fun _ => fun
  | [d1, d2, d3] => { results := [.lit (.bool false)], args := [d1, d2, d3] }
  | _ => none }
def ChangeBackWrongFalsely : Prop := changeBackRow.holds Try.pinned (OpenSpec.ofChange changeBackWrong)

/-- 'gimletlaw6.MoveSingly': WHATEVER THE INPUT: true; the input reads as it did. -/
def moveSinglySpec : ChangeSpec := { name := "moveSingly", fn := fun _ => fun
  | [d1, d2, d3, d4] => { results := [.lit (.bool true)], args := [d1, d2, d3, d4] }
  | _ => none }
def moveSinglyRow : OpenClaim := { program := "ytbaaciekjpadfaa", sum := "702bb70de12ed3e95923033317f5aade30ffad990ac81c148a4da71bb7b76825", func := "gimlet/gimletlaw6.MoveSingly", spec := "moveSingly", inPlace := ["internal/abi.NoEscape", "internal/bytealg.MakeNoZero"], unfollowed := true, recurses := true, apart := false }
def MoveSinglySaid : Prop := moveSinglyRow.holds Try.pinned (OpenSpec.ofChange moveSinglySpec)

/-- ITS FALSE NEIGHBOUR: 'it returns false'. Refute it at one input. -/
def moveSinglyWrong : ChangeSpec := { name := "moveSingly", fn := fun _ => fun
  | [d1, d2, d3, d4] => { results := [.lit (.bool false)], args := [d1, d2, d3, d4] }
  | _ => none }
def MoveSinglyWrongFalsely : Prop := moveSinglyRow.holds Try.pinned (OpenSpec.ofChange moveSinglyWrong)

/-- 'gimletlaw6.MoveRises': WHATEVER THE INPUT: true; the input reads as it did. -/
def moveRisesSpec : ChangeSpec := { name := "moveRises", fn := fun _ => fun
  | [d1, d2, d3, d4] => { results := [.lit (.bool true)], args := [d1, d2, d3, d4] }
  | _ => none }
def moveRisesRow : OpenClaim := { program := "ytbaaciekjpadfaa", sum := "702bb70de12ed3e95923033317f5aade30ffad990ac81c148a4da71bb7b76825", func := "gimlet/gimletlaw6.MoveRises", spec := "moveRises", inPlace := ["internal/abi.NoEscape", "internal/bytealg.MakeNoZero"], unfollowed := true, recurses := true, apart := false }
def MoveRisesSaid : Prop := moveRisesRow.holds Try.pinned (OpenSpec.ofChange moveRisesSpec)

/-- ITS FALSE NEIGHBOUR: 'it returns false'. Refute it at one input. -/
def moveRisesWrong : ChangeSpec := { name := "moveRises", fn := fun _ => fun
  | [d1, d2, d3, d4] => { results := [.lit (.bool false)], args := [d1, d2, d3, d4] }
  | _ => none }
def MoveRisesWrongFalsely : Prop := moveRisesRow.holds Try.pinned (OpenSpec.ofChange moveRisesWrong)

/-- 'gimletlaw6.MoveKeeps': WHATEVER THE INPUT: true; the input reads as it did. -/
def moveKeepsSpec : ChangeSpec := { name := "moveKeeps", fn := fun _ => fun
  | [d1, d2, d3] => { results := [.lit (.bool true)], args := [d1, d2, d3] }
  | _ => none }
def moveKeepsRow : OpenClaim := { program := "ytbaaciekjpadfaa", sum := "702bb70de12ed3e95923033317f5aade30ffad990ac81c148a4da71bb7b76825", func := "gimlet/gimletlaw6.MoveKeeps", spec := "moveKeeps", inPlace := ["internal/abi.NoEscape", "internal/bytealg.MakeNoZero"], unfollowed := true, recurses := true, apart := false }
def MoveKeepsSaid : Prop := moveKeepsRow.holds Try.pinned (OpenSpec.ofChange moveKeepsSpec)

/-- ITS FALSE NEIGHBOUR: 'it returns false'. Refute it at one input. -/
def moveKeepsWrong : ChangeSpec := { name := "moveKeeps", fn := fun _ => fun
  | [d1, d2, d3] => { results := [.lit (.bool false)], args := [d1, d2, d3] }
  | _ => none }
def MoveKeepsWrongFalsely : Prop := moveKeepsRow.holds Try.pinned (OpenSpec.ofChange moveKeepsWrong)

/-- 'gimletlaw6.ChangeCodes': WHATEVER THE INPUT: true; the input reads as it did. -/
def changeCodesSpec : ChangeSpec := { name := "changeCodes", fn := fun _ => fun
  | [d1, d2, d3, d4] => { results := [.lit (.bool true)], args := [d1, d2, d3, d4] }
  | _ => none }
def changeCodesRow : OpenClaim := { program := "ytbaaciekjpadfaa", sum := "702bb70de12ed3e95923033317f5aade30ffad990ac81c148a4da71bb7b76825", func := "gimlet/gimletlaw6.ChangeCodes", spec := "changeCodes", inPlace := ["internal/abi.NoEscape", "internal/bytealg.MakeNoZero"], unfollowed := true, recurses := true, apart := false }
def ChangeCodesSaid : Prop := changeCodesRow.holds Try.pinned (OpenSpec.ofChange changeCodesSpec)

/-- ITS FALSE NEIGHBOUR: 'it returns false'. Refute it at one input. -/
def changeCodesWrong : ChangeSpec := { name := "changeCodes", fn := fun _ => fun
  | [d1, d2, d3, d4] => { results := [.lit (.bool false)], args := [d1, d2, d3, d4] }
  | _ => none }
def ChangeCodesWrongFalsely : Prop := changeCodesRow.holds Try.pinned (OpenSpec.ofChange changeCodesWrong)

/-- 'gimletlaw6.ChangeHalves': WHATEVER THE INPUT: true; the input reads as it did. -/
def changeHalvesSpec : ChangeSpec := { name := "changeHalves", fn := fun _ => fun
  | [d1, d2, d3, d4, d5] => { results := [.lit (.bool true)], args := [d1, d2, d3, d4, d5] }
  | _ => none }
def changeHalvesRow : OpenClaim := { program := "ytbaaciekjpadfaa", sum := "702bb70de12ed3e95923033317f5aade30ffad990ac81c148a4da71bb7b76825", func := "gimlet/gimletlaw6.ChangeHalves", spec := "changeHalves", inPlace := ["internal/abi.NoEscape", "internal/bytealg.MakeNoZero"], unfollowed := true, recurses := true, apart := false }
def ChangeHalvesSaid : Prop := changeHalvesRow.holds Try.pinned (OpenSpec.ofChange changeHalvesSpec)

/-- ITS FALSE NEIGHBOUR: 'it returns false'. Refute it at one input. -/
def changeHalvesWrong : ChangeSpec := { name := "changeHalves", fn := fun _ => fun
  | [d1, d2, d3, d4, d5] => { results := [.lit (.bool false)], args := [d1, d2, d3, d4, d5] }
  | _ => none }
def ChangeHalvesWrongFalsely : Prop := changeHalvesRow.holds Try.pinned (OpenSpec.ofChange changeHalvesWrong)

/-- 'gimletlaw6.MoveBack': WHATEVER THE INPUT: true; the input reads as it did. -/
def moveBackSpec : ChangeSpec := { name := "moveBack", fn := fun _ => fun
  | [d1, d2, d3] => { results := [.lit (.bool true)], args := [d1, d2, d3] }
  | _ => none }
def moveBackRow : OpenClaim := { program := "ytbaaciekjpadfaa", sum := "702bb70de12ed3e95923033317f5aade30ffad990ac81c148a4da71bb7b76825", func := "gimlet/gimletlaw6.MoveBack", spec := "moveBack", inPlace := ["internal/abi.NoEscape", "internal/bytealg.MakeNoZero"], unfollowed := true, recurses := true, apart := false }
def MoveBackSaid : Prop := moveBackRow.holds Try.pinned (OpenSpec.ofChange moveBackSpec)

/-- ITS FALSE NEIGHBOUR: 'it returns false'. Refute it at one input. -/
def moveBackWrong : ChangeSpec := { name := "moveBack", fn := fun _ => fun
  | [d1, d2, d3] => { results := [.lit (.bool false)], args := [d1, d2, d3] }
  | _ => none }
def MoveBackWrongFalsely : Prop := moveBackRow.holds Try.pinned (OpenSpec.ofChange moveBackWrong)

/- THE SECOND FORM. 'bulk': how many values and letters a reading holds, each counted each time it is reached (what is shared counts as often as it is met; a slice's spare places count too). A statement '..UptoSaid' is the law's where the arguments, and the package variables that the reading takes, are together of bulk at most 1048576: NARROWER than '..Said'. Prove '..Said' where nothing that the law and all that it calls make is longer than what came in: it says more and counts as full. Else prove '..UptoSaid'. A law counts once. -/
mutual
def uptoBulk {H : Type} : DataW H → Nat
  | .lit (.string bytes) => bytes.length + 1
  | .lit _ => 1
  | .nil => 1
  | .ptr d => uptoBulk d + 1
  | .slice elems spare => uptoBulkAll elems + uptoBulkAll spare + 1
  | .agg parts => uptoBulkAll parts + 1
  | .iface _ d => uptoBulk d + 1
  | .map entries => uptoBulkEntries entries + 1
  | .held _ => 1
def uptoBulkAll {H : Type} : List (DataW H) → Nat
  | [] => 0
  | d :: r => uptoBulk d + uptoBulkAll r
def uptoBulkEntries {H : Type} : List (Lit × DataW H) → Nat
  | [] => 0
  | x :: r => uptoBulkEntry x + uptoBulkEntries r
def uptoBulkEntry {H : Type} : Lit × DataW H → Nat
  | (.string bytes, d) => bytes.length + uptoBulk d + 1
  | (_, d) => uptoBulk d + 1
 end
def uptoSmall : (H : Type) → List (DataW H) → Bool := fun _ ds => decide (uptoBulkAll ds ≤ 1048576)
def OpenSpec.upto (s : _root_.Go.ChangeSpec) : _root_.Go.OpenSpec := { _root_.Go.OpenSpec.ofChange s with cond := some uptoSmall }

/-- 'gimletlaw6.ChangeTells', WHERE WHAT IT READS IS OF BULK AT MOST 1048576: true; the input reads as it did. -/
def changeTellsUptoRow : OpenClaim := { program := "ytbaaciekjpadfaa", sum := "702bb70de12ed3e95923033317f5aade30ffad990ac81c148a4da71bb7b76825", func := "gimlet/gimletlaw6.ChangeTells", spec := "changeTells", inPlace := ["internal/abi.NoEscape", "internal/bytealg.MakeNoZero"], unfollowed := true, recurses := true, apart := false, narrowed := true }
def ChangeTellsUptoSaid : Prop := changeTellsUptoRow.holds Try.pinned (OpenSpec.upto changeTellsSpec)

/-- 'gimletlaw6.ChangeApart', WHERE WHAT IT READS IS OF BULK AT MOST 1048576: true; the input reads as it did. -/
def changeApartUptoRow : OpenClaim := { program := "ytbaaciekjpadfaa", sum := "702bb70de12ed3e95923033317f5aade30ffad990ac81c148a4da71bb7b76825", func := "gimlet/gimletlaw6.ChangeApart", spec := "changeApart", inPlace := ["internal/abi.NoEscape", "internal/bytealg.MakeNoZero"], unfollowed := true, recurses := true, apart := false, narrowed := true }
def ChangeApartUptoSaid : Prop := changeApartUptoRow.holds Try.pinned (OpenSpec.upto changeApartSpec)

/-- 'gimletlaw6.ChangeSingly', WHERE WHAT IT READS IS OF BULK AT MOST 1048576: true; the input reads as it did. -/
def changeSinglyUptoRow : OpenClaim := { program := "ytbaaciekjpadfaa", sum := "702bb70de12ed3e95923033317f5aade30ffad990ac81c148a4da71bb7b76825", func := "gimlet/gimletlaw6.ChangeSingly", spec := "changeSingly", inPlace := ["internal/abi.NoEscape", "internal/bytealg.MakeNoZero"], unfollowed := true, recurses := true, apart := false, narrowed := true }
def ChangeSinglyUptoSaid : Prop := changeSinglyUptoRow.holds Try.pinned (OpenSpec.upto changeSinglySpec)

/-- 'gimletlaw6.ChangeBack', WHERE WHAT IT READS IS OF BULK AT MOST 1048576: true; the input reads as it did. -/
def changeBackUptoRow : OpenClaim := { program := "ytbaaciekjpadfaa", sum := "702bb70de12ed3e95923033317f5aade30ffad990ac81c148a4da71bb7b76825", func := "gimlet/gimletlaw6.ChangeBack", spec := "changeBack", inPlace := ["internal/abi.NoEscape", "internal/bytealg.MakeNoZero"], unfollowed := true, recurses := true, apart := false, narrowed := true }
def ChangeBackUptoSaid : Prop := changeBackUptoRow.holds Try.pinned (OpenSpec.upto changeBackSpec)

/-- 'gimletlaw6.MoveSingly', WHERE WHAT IT READS IS OF BULK AT MOST 1048576: true; the input reads as it did. -/
def moveSinglyUptoRow : OpenClaim := { program := "ytbaaciekjpadfaa", sum := "702bb70de12ed3e95923033317f5aade30ffad990ac81c148a4da71bb7b76825", func := "gimlet/gimletlaw6.MoveSingly", spec := "moveSingly", inPlace := ["internal/abi.NoEscape", "internal/bytealg.MakeNoZero"], unfollowed := true, recurses := true, apart := false, narrowed := true }
def MoveSinglyUptoSaid : Prop := moveSinglyUptoRow.holds Try.pinned (OpenSpec.upto moveSinglySpec)

/-- 'gimletlaw6.MoveRises', WHERE WHAT IT READS IS OF BULK AT MOST 1048576: true; the input reads as it did. -/
def moveRisesUptoRow : OpenClaim := { program := "ytbaaciekjpadfaa", sum := "702bb70de12ed3e95923033317f5aade30ffad990ac81c148a4da71bb7b76825", func := "gimlet/gimletlaw6.MoveRises", spec := "moveRises", inPlace := ["internal/abi.NoEscape", "internal/bytealg.MakeNoZero"], unfollowed := true, recurses := true, apart := false, narrowed := true }
def MoveRisesUptoSaid : Prop := moveRisesUptoRow.holds Try.pinned (OpenSpec.upto moveRisesSpec)

/-- 'gimletlaw6.MoveKeeps', WHERE WHAT IT READS IS OF BULK AT MOST 1048576: true; the input reads as it did. -/
def moveKeepsUptoRow : OpenClaim := { program := "ytbaaciekjpadfaa", sum := "702bb70de12ed3e95923033317f5aade30ffad990ac81c148a4da71bb7b76825", func := "gimlet/gimletlaw6.MoveKeeps", spec := "moveKeeps", inPlace := ["internal/abi.NoEscape", "internal/bytealg.MakeNoZero"], unfollowed := true, recurses := true, apart := false, narrowed := true }
def MoveKeepsUptoSaid : Prop := moveKeepsUptoRow.holds Try.pinned (OpenSpec.upto moveKeepsSpec)

/-- 'gimletlaw6.ChangeCodes', WHERE WHAT IT READS IS OF BULK AT MOST 1048576: true; the input reads as it did. -/
def changeCodesUptoRow : OpenClaim := { program := "ytbaaciekjpadfaa", sum := "702bb70de12ed3e95923033317f5aade30ffad990ac81c148a4da71bb7b76825", func := "gimlet/gimletlaw6.ChangeCodes", spec := "changeCodes", inPlace := ["internal/abi.NoEscape", "internal/bytealg.MakeNoZero"], unfollowed := true, recurses := true, apart := false, narrowed := true }
def ChangeCodesUptoSaid : Prop := changeCodesUptoRow.holds Try.pinned (OpenSpec.upto changeCodesSpec)

/-- 'gimletlaw6.ChangeHalves', WHERE WHAT IT READS IS OF BULK AT MOST 1048576: true; the input reads as it did. -/
def changeHalvesUptoRow : OpenClaim := { program := "ytbaaciekjpadfaa", sum := "702bb70de12ed3e95923033317f5aade30ffad990ac81c148a4da71bb7b76825", func := "gimlet/gimletlaw6.ChangeHalves", spec := "changeHalves", inPlace := ["internal/abi.NoEscape", "internal/bytealg.MakeNoZero"], unfollowed := true, recurses := true, apart := false, narrowed := true }
def ChangeHalvesUptoSaid : Prop := changeHalvesUptoRow.holds Try.pinned (OpenSpec.upto changeHalvesSpec)

/-- 'gimletlaw6.MoveBack', WHERE WHAT IT READS IS OF BULK AT MOST 1048576: true; the input reads as it did. -/
def moveBackUptoRow : OpenClaim := { program := "ytbaaciekjpadfaa", sum := "702bb70de12ed3e95923033317f5aade30ffad990ac81c148a4da71bb7b76825", func := "gimlet/gimletlaw6.MoveBack", spec := "moveBack", inPlace := ["internal/abi.NoEscape", "internal/bytealg.MakeNoZero"], unfollowed := true, recurses := true, apart := false, narrowed := true }
def MoveBackUptoSaid : Prop := moveBackUptoRow.holds Try.pinned (OpenSpec.upto moveBackSpec)

end Rows
end Go.Proofs.Ytbaaciekjpadfaa
