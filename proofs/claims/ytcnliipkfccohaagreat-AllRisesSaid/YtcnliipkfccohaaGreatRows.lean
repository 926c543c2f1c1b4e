/-
  NARROWER THAN 'FOR EVERY INPUT', by the rows' own cells (each row's printed sentence says how): RunTells: loops · RunCodes: loops.
  DERIVED. THE GIVEN ROWS OF THIS SEAT. 11 by the template 'for every input the law returns true; each argument reads behind the call as it read before'; 0 by the template 'total and deterministic' (their statements: YtcnliipkfccohaaGreatTotals.lean).
  GIVEN WITH THE SEED: the statements are not yours to turn. If you find one false, say at which input.
  Laid BY PROGRAM, IN A SANDBOX (cutbox-rows.mjs): the forced cells as the released guide's own fill.sh prints them over the translation 83974b9400c461a5… (all of the seat's roots in one cut). By AI agents, Wed Nov 11 2026. No macro, syntax, notation, axiom, sorry.
-/
import Derived.Test.YtcnliipkfccohaaGreatChecked
import GoSem.Claim
import GoSem.ClaimJoined
import GoSem.ClaimMapViews
import Derived.JoinedTies
import Derived.KernelRfl
namespace Go.Proofs.YtcnliipkfccohaaGreat
/- THE CELL 'sum', in the pinned program and in every row, IS THE sha256 OF THE DUMP (.gsa) THAT YtcnliipkfccohaaGreatProg.lean LOADS. Nothing in Lean hashes anything: it is a label: what it is worth is what the hold of that sum in a sandbox is worth. -/
noncomputable def Tryz.pinned : Pinned := { name := "ytcnliipkfccohaagreat", sum := "83974b9400c461a5c045f420da3d72ff615e7262f1ae6faf5a10e39734d0395b", checked := Tryz.checked }
namespace Rows
def none {H : Type} : Left H := { results := [], args := [] }

/-- 'gimletlaw16.RunTells': WHATEVER THE INPUT: true; the input reads as it did. -/
def runTellsSpec : ChangeSpec := { name := "runTells", fn := fun _ => fun
  | [d1, d2, d3, d4, d5] => { results := [.lit (.bool true)], args := [d1, d2, d3, d4, d5] }
  | _ => none }
def runTellsRow : OpenClaim := { program := "ytcnliipkfccohaagreat", sum := "83974b9400c461a5c045f420da3d72ff615e7262f1ae6faf5a10e39734d0395b", func := "gimlet/gimletlaw16.RunTells", spec := "runTells", unfollowed := true, recurses := true, loops := true, apart := false }
def RunTellsSaid : Prop := runTellsRow.holds Tryz.pinned (OpenSpec.ofChange runTellsSpec)

/-- ITS FALSE NEIGHBOUR: 'it returns false'. Refute it at one input. -/
def runTellsWrong : ChangeSpec := { name := "runTells", fn := fun _ => fun
  | [d1, d2, d3, d4, d5] => { results := [.lit (.bool false)], args := [d1, d2, d3, d4, d5] }
  | _ => none }
def RunTellsWrongFalsely : Prop := runTellsRow.holds Tryz.pinned (OpenSpec.ofChange runTellsWrong)

/-- 'gimletlaw16.RunReads': WHATEVER THE INPUT: true; the input reads as it did. -/
def runReadsSpec : ChangeSpec := { name := "runReads", fn := fun _ => fun
  | [d1, d2, d3, d4, d5] => { results := [.lit (.bool true)], args := [d1, d2, d3, d4, d5] }
  | _ => none }
def runReadsRow : OpenClaim := { program := "ytcnliipkfccohaagreat", sum := "83974b9400c461a5c045f420da3d72ff615e7262f1ae6faf5a10e39734d0395b", func := "gimlet/gimletlaw16.RunReads", spec := "runReads", unfollowed := true, recurses := true, apart := false }
def RunReadsSaid : Prop := runReadsRow.holds Tryz.pinned (OpenSpec.ofChange runReadsSpec)

/-- ITS FALSE NEIGHBOUR: 'it returns false'. Refute it at one input. -/
def runReadsWrong : ChangeSpec := { name := "runReads", fn := fun _ => fun
  | [d1, d2, d3, d4, d5] => { results := [.lit (.bool false)], args := [d1, d2, d3, d4, d5] }
  | _ => none }
def RunReadsWrongFalsely : Prop := runReadsRow.holds Tryz.pinned (OpenSpec.ofChange runReadsWrong)

/-- 'gimletlaw16.AllTells': WHATEVER THE INPUT: true; the input reads as it did. -/
def allTellsSpec : ChangeSpec := { name := "allTells", fn := fun _ => fun
  | [d1, d2, d3, d4] => { results := [.lit (.bool true)], args := [d1, d2, d3, d4] }
  | _ => none }
def allTellsRow : OpenClaim := { program := "ytcnliipkfccohaagreat", sum := "83974b9400c461a5c045f420da3d72ff615e7262f1ae6faf5a10e39734d0395b", func := "gimlet/gimletlaw16.AllTells", spec := "allTells", unfollowed := true, recurses := true, apart := false }
def AllTellsSaid : Prop := allTellsRow.holds Tryz.pinned (OpenSpec.ofChange allTellsSpec)

/-- ITS FALSE NEIGHBOUR: 'it returns false'. Refute it at one input. -/
def allTellsWrong : ChangeSpec := { name := "allTells", fn := fun _ => fun
  | [d1, d2, d3, d4] => { results := [.lit (.bool false)], args := [d1, d2, d3, d4] }
  | _ => none }
def AllTellsWrongFalsely : Prop := allTellsRow.holds Tryz.pinned (OpenSpec.ofChange allTellsWrong)

/-- 'gimletlaw16.RunFuel': WHATEVER THE INPUT: true; the input reads as it did. -/
def runFuelSpec : ChangeSpec := { name := "runFuel", fn := fun _ => fun
  | [d1, d2, d3, d4, d5, d6] => { results := [.lit (.bool true)], args := [d1, d2, d3, d4, d5, d6] }
  | _ => none }
def runFuelRow : OpenClaim := { program := "ytcnliipkfccohaagreat", sum := "83974b9400c461a5c045f420da3d72ff615e7262f1ae6faf5a10e39734d0395b", func := "gimlet/gimletlaw16.RunFuel", spec := "runFuel", unfollowed := true, recurses := true, apart := false }
def RunFuelSaid : Prop := runFuelRow.holds Tryz.pinned (OpenSpec.ofChange runFuelSpec)

/-- ITS FALSE NEIGHBOUR: 'it returns false'. Refute it at one input. -/
def runFuelWrong : ChangeSpec := { name := "runFuel", fn := fun _ => fun
  | [d1, d2, d3, d4, d5, d6] => { results := [.lit (.bool false)], args := [d1, d2, d3, d4, d5, d6] }
  | _ => none }
def RunFuelWrongFalsely : Prop := runFuelRow.holds Tryz.pinned (OpenSpec.ofChange runFuelWrong)

/-- 'gimletlaw16.RunSpan': WHATEVER THE INPUT: true; the input reads as it did. -/
def runSpanSpec : ChangeSpec := { name := "runSpan", fn := fun _ => fun
  | [d1, d2, d3, d4] => { results := [.lit (.bool true)], args := [d1, d2, d3, d4] }
  | _ => none }
def runSpanRow : OpenClaim := { program := "ytcnliipkfccohaagreat", sum := "83974b9400c461a5c045f420da3d72ff615e7262f1ae6faf5a10e39734d0395b", func := "gimlet/gimletlaw16.RunSpan", spec := "runSpan", unfollowed := true, recurses := true, apart := false }
def RunSpanSaid : Prop := runSpanRow.holds Tryz.pinned (OpenSpec.ofChange runSpanSpec)

/-- ITS FALSE NEIGHBOUR: 'it returns false'. Refute it at one input. -/
def runSpanWrong : ChangeSpec := { name := "runSpan", fn := fun _ => fun
  | [d1, d2, d3, d4] => { results := [.lit (.bool false)], args := [d1, d2, d3, d4] }
  | _ => none }
def RunSpanWrongFalsely : Prop := runSpanRow.holds Tryz.pinned (OpenSpec.ofChange runSpanWrong)

/-- 'gimletlaw16.RunRepeat': WHATEVER THE INPUT: true; the input reads as it did. -/
def runRepeatSpec : ChangeSpec := { name := "runRepeat", fn := fun _ => fun
  | [d1, d2, d3, d4, d5, d6, d7] => { results := [.lit (.bool true)], args := [d1, d2, d3, d4, d5, d6, d7] }
  | _ => none }
def runRepeatRow : OpenClaim := { program := "ytcnliipkfccohaagreat", sum := "83974b9400c461a5c045f420da3d72ff615e7262f1ae6faf5a10e39734d0395b", func := "gimlet/gimletlaw16.RunRepeat", spec := "runRepeat", unfollowed := true, recurses := true, apart := false }
def RunRepeatSaid : Prop := runRepeatRow.holds Tryz.pinned (OpenSpec.ofChange runRepeatSpec)

/-- ITS FALSE NEIGHBOUR: 'it returns false'. Refute it at one input. -/
def runRepeatWrong : ChangeSpec := { name := "runRepeat", fn := fun _ => fun
  | [d1, d2, d3, d4, d5, d6, d7] => { results := [.lit (.bool false)], args := [d1, d2, d3, d4, d5, d6, d7] }
  | _ => none }
def RunRepeatWrongFalsely : Prop := runRepeatRow.holds Tryz.pinned (OpenSpec.ofChange runRepeatWrong)

/-- 'gimletlaw16.RunAlt': WHATEVER THE INPUT: true; the input reads as it did. -/
def runAltSpec : ChangeSpec := { name := "runAlt", fn := fun _ => fun
  | [d1, d2, d3, d4, d5] => { results := [.lit (.bool true)], args := [d1, d2, d3, d4, d5] }
  | _ => none }
def runAltRow : OpenClaim := { program := "ytcnliipkfccohaagreat", sum := "83974b9400c461a5c045f420da3d72ff615e7262f1ae6faf5a10e39734d0395b", func := "gimlet/gimletlaw16.RunAlt", spec := "runAlt", unfollowed := true, recurses := true, apart := false }
def RunAltSaid : Prop := runAltRow.holds Tryz.pinned (OpenSpec.ofChange runAltSpec)

/-- ITS FALSE NEIGHBOUR: 'it returns false'. Refute it at one input. -/
def runAltWrong : ChangeSpec := { name := "runAlt", fn := fun _ => fun
  | [d1, d2, d3, d4, d5] => { results := [.lit (.bool false)], args := [d1, d2, d3, d4, d5] }
  | _ => none }
def RunAltWrongFalsely : Prop := runAltRow.holds Tryz.pinned (OpenSpec.ofChange runAltWrong)

/-- 'gimletlaw16.AllRises': WHATEVER THE INPUT: true; the input reads as it did. -/
def allRisesSpec : ChangeSpec := { name := "allRises", fn := fun _ => fun
  | [d1, d2, d3] => { results := [.lit (.bool true)], args := [d1, d2, d3] }
  | _ => none }
def allRisesRow : OpenClaim := { program := "ytcnliipkfccohaagreat", sum := "83974b9400c461a5c045f420da3d72ff615e7262f1ae6faf5a10e39734d0395b", func := "gimlet/gimletlaw16.AllRises", spec := "allRises", unfollowed := true, recurses := true, apart := false }
def AllRisesSaid : Prop := allRisesRow.holds Tryz.pinned (OpenSpec.ofChange allRisesSpec)

/-- ITS FALSE NEIGHBOUR: 'it returns false'. Refute it at one input. -/
def allRisesWrong : ChangeSpec := { name := "allRises", fn := fun _ => fun
  | [d1, d2, d3] => { results := [.lit (.bool false)], args := [d1, d2, d3] }
  | _ => none }
def AllRisesWrongFalsely : Prop := allRisesRow.holds Tryz.pinned (OpenSpec.ofChange allRisesWrong)

/-- 'gimletlaw16.RunCodes': WHATEVER THE INPUT: true; the input reads as it did. -/
def runCodesSpec : ChangeSpec := { name := "runCodes", fn := fun _ => fun
  | [d1, d2, d3, d4, d5] => { results := [.lit (.bool true)], args := [d1, d2, d3, d4, d5] }
  | _ => none }
def runCodesRow : OpenClaim := { program := "ytcnliipkfccohaagreat", sum := "83974b9400c461a5c045f420da3d72ff615e7262f1ae6faf5a10e39734d0395b", func := "gimlet/gimletlaw16.RunCodes", spec := "runCodes", unfollowed := true, recurses := true, loops := true, apart := false }
def RunCodesSaid : Prop := runCodesRow.holds Tryz.pinned (OpenSpec.ofChange runCodesSpec)

/-- ITS FALSE NEIGHBOUR: 'it returns false'. Refute it at one input. -/
def runCodesWrong : ChangeSpec := { name := "runCodes", fn := fun _ => fun
  | [d1, d2, d3, d4, d5] => { results := [.lit (.bool false)], args := [d1, d2, d3, d4, d5] }
  | _ => none }
def RunCodesWrongFalsely : Prop := runCodesRow.holds Tryz.pinned (OpenSpec.ofChange runCodesWrong)

/-- 'gimletlaw16.RunBehind': WHATEVER THE INPUT: true; the input reads as it did. -/
def runBehindSpec : ChangeSpec := { name := "runBehind", fn := fun _ => fun
  | [d1, d2, d3, d4, d5] => { results := [.lit (.bool true)], args := [d1, d2, d3, d4, d5] }
  | _ => none }
def runBehindRow : OpenClaim := { program := "ytcnliipkfccohaagreat", sum := "83974b9400c461a5c045f420da3d72ff615e7262f1ae6faf5a10e39734d0395b", func := "gimlet/gimletlaw16.RunBehind", spec := "runBehind", unfollowed := true, recurses := true, apart := false }
def RunBehindSaid : Prop := runBehindRow.holds Tryz.pinned (OpenSpec.ofChange runBehindSpec)

/-- ITS FALSE NEIGHBOUR: 'it returns false'. Refute it at one input. -/
def runBehindWrong : ChangeSpec := { name := "runBehind", fn := fun _ => fun
  | [d1, d2, d3, d4, d5] => { results := [.lit (.bool false)], args := [d1, d2, d3, d4, d5] }
  | _ => none }
def RunBehindWrongFalsely : Prop := runBehindRow.holds Tryz.pinned (OpenSpec.ofChange runBehindWrong)

/-- 'gimletlaw16.RunGroup': WHATEVER THE INPUT: true; the input reads as it did. -/
def runGroupSpec : ChangeSpec := { name := "runGroup", fn := fun _ => fun
  | [d1, d2, d3, d4, d5] => { results := [.lit (.bool true)], args := [d1, d2, d3, d4, d5] }
  | _ => none }
def runGroupRow : OpenClaim := { program := "ytcnliipkfccohaagreat", sum := "83974b9400c461a5c045f420da3d72ff615e7262f1ae6faf5a10e39734d0395b", func := "gimlet/gimletlaw16.RunGroup", spec := "runGroup", unfollowed := true, recurses := true, apart := false }
def RunGroupSaid : Prop := runGroupRow.holds Tryz.pinned (OpenSpec.ofChange runGroupSpec)

/-- ITS FALSE NEIGHBOUR: 'it returns false'. Refute it at one input. -/
def runGroupWrong : ChangeSpec := { name := "runGroup", fn := fun _ => fun
  | [d1, d2, d3, d4, d5] => { results := [.lit (.bool false)], args := [d1, d2, d3, d4, d5] }
  | _ => none }
def RunGroupWrongFalsely : Prop := runGroupRow.holds Tryz.pinned (OpenSpec.ofChange runGroupWrong)

/- THE SECOND FORM. 'bulk': how many values and letters a reading holds, each counted each time it is reached (what is shared counts as often as it is met; a slice's spare places count too). A statement '..UptoSaid' is the law's where the arguments, and the package variables that the reading takes, are together of bulk at most 1048576: NARROWER than '..Said'. Prove '..Said' where nothing that the law and all that it calls make is longer than what came in: it says more and counts as full. Else prove '..UptoSaid'. A law counts once. -/
mutual
def uptoBulk {H : Type} : DataW H → Nat
  | .lit (.string bytes) => bytes.length + 1
  | .lit _ => 1
  | .nil => 1
  | .ptr d => uptoBulk d + 1
  | .slice elems spare => uptoBulkAll elems + uptoBulkAll spare + 1
  | .agg parts => uptoBulkAll parts + 1
  | .iface _ d => uptoBulk d + 1
  | .map entries => uptoBulkEntries entries + 1
  | .held _ => 1
def uptoBulkAll {H : Type} : List (DataW H) → Nat
  | [] => 0
  | d :: r => uptoBulk d + uptoBulkAll r
def uptoBulkEntries {H : Type} : List (Lit × DataW H) → Nat
  | [] => 0
  | x :: r => uptoBulkEntry x + uptoBulkEntries r
def uptoBulkEntry {H : Type} : Lit × DataW H → Nat
  | (.string bytes, d) => bytes.length + uptoBulk d + 1
  | (_, d) => uptoBulk d + 1
 end
def uptoSmall : (H : Type) → List (DataW H) → Bool := fun _ ds => decide (uptoBulkAll ds ≤ 1048576)
def OpenSpec.upto (s : _root_.Go.ChangeSpec) : _root_.Go.OpenSpec := { _root_.Go.OpenSpec.ofChange s with cond := some uptoSmall }

/-- 'gimletlaw16.RunTells', WHERE WHAT IT READS IS OF BULK AT MOST 1048576: true; the input reads as it did. -/
def runTellsUptoRow : OpenClaim := { program := "ytcnliipkfccohaagreat", sum := "83974b9400c461a5c045f420da3d72ff615e7262f1ae6faf5a10e39734d0395b", func := "gimlet/gimletlaw16.RunTells", spec := "runTells", unfollowed := true, recurses := true, loops := true, apart := false, narrowed := true }
def RunTellsUptoSaid : Prop := runTellsUptoRow.holds Tryz.pinned (OpenSpec.upto runTellsSpec)

/-- 'gimletlaw16.RunReads', WHERE WHAT IT READS IS OF BULK AT MOST 1048576: true; the input reads as it did. -/
def runReadsUptoRow : OpenClaim := { program := "ytcnliipkfccohaagreat", sum := "83974b9400c461a5c045f420da3d72ff615e7262f1ae6faf5a10e39734d0395b", func := "gimlet/gimletlaw16.RunReads", spec := "runReads", unfollowed := true, recurses := true, apart := false, narrowed := true }
def RunReadsUptoSaid : Prop := runReadsUptoRow.holds Tryz.pinned (OpenSpec.upto runReadsSpec)

/-- 'gimletlaw16.AllTells', WHERE WHAT IT READS IS OF BULK AT MOST 1048576: true; the input reads as it did. -/
def allTellsUptoRow : OpenClaim := { program := "ytcnliipkfccohaagreat", sum := "83974b9400c461a5c045f420da3d72ff615e7262f1ae6faf5a10e39734d0395b", func := "gimlet/gimletlaw16.AllTells", spec := "allTells", unfollowed := true, recurses := true, apart := false, narrowed := true }
def AllTellsUptoSaid : Prop := allTellsUptoRow.holds Tryz.pinned (OpenSpec.upto allTellsSpec)

/-- 'gimletlaw16.RunFuel', WHERE WHAT IT READS IS OF BULK AT MOST 1048576: true; the input reads as it did. -/
def runFuelUptoRow : OpenClaim := { program := "ytcnliipkfccohaagreat", sum := "83974b9400c461a5c045f420da3d72ff615e7262f1ae6faf5a10e39734d0395b", func := "gimlet/gimletlaw16.RunFuel", spec := "runFuel", unfollowed := true, recurses := true, apart := false, narrowed := true }
def RunFuelUptoSaid : Prop := runFuelUptoRow.holds Tryz.pinned (OpenSpec.upto runFuelSpec)

/-- 'gimletlaw16.RunSpan', WHERE WHAT IT READS IS OF BULK AT MOST 1048576: true; the input reads as it did. -/
def runSpanUptoRow : OpenClaim := { program := "ytcnliipkfccohaagreat", sum := "83974b9400c461a5c045f420da3d72ff615e7262f1ae6faf5a10e39734d0395b", func := "gimlet/gimletlaw16.RunSpan", spec := "runSpan", unfollowed := true, recurses := true, apart := false, narrowed := true }
def RunSpanUptoSaid : Prop := runSpanUptoRow.holds Tryz.pinned (OpenSpec.upto runSpanSpec)

/-- 'gimletlaw16.RunRepeat', WHERE WHAT IT READS IS OF BULK AT MOST 1048576: true; the input reads as it did. -/
def runRepeatUptoRow : OpenClaim := { program := "ytcnliipkfccohaagreat", sum := "83974b9400c461a5c045f420da3d72ff615e7262f1ae6faf5a10e39734d0395b", func := "gimlet/gimletlaw16.RunRepeat", spec := "runRepeat", unfollowed := true, recurses := true, apart := false, narrowed := true }
def RunRepeatUptoSaid : Prop := runRepeatUptoRow.holds Tryz.pinned (OpenSpec.upto runRepeatSpec)

/-- 'gimletlaw16.RunAlt', WHERE WHAT IT READS IS OF BULK AT MOST 1048576: true; the input reads as it did. -/
def runAltUptoRow : OpenClaim := { program := "ytcnliipkfccohaagreat", sum := "83974b9400c461a5c045f420da3d72ff615e7262f1ae6faf5a10e39734d0395b", func := "gimlet/gimletlaw16.RunAlt", spec := "runAlt", unfollowed := true, recurses := true, apart := false, narrowed := true }
def RunAltUptoSaid : Prop := runAltUptoRow.holds Tryz.pinned (OpenSpec.upto runAltSpec)

/-- 'gimletlaw16.AllRises', WHERE WHAT IT READS IS OF BULK AT MOST 1048576: true; the input reads as it did. -/
def allRisesUptoRow : OpenClaim := { program := "ytcnliipkfccohaagreat", sum := "83974b9400c461a5c045f420da3d72ff615e7262f1ae6faf5a10e39734d0395b", func := "gimlet/gimletlaw16.AllRises", spec := "allRises", unfollowed := true, recurses := true, apart := false, narrowed := true }
def AllRisesUptoSaid : Prop := allRisesUptoRow.holds Tryz.pinned (OpenSpec.upto allRisesSpec)

/-- 'gimletlaw16.RunCodes', WHERE WHAT IT READS IS OF BULK AT MOST 1048576: true; the input reads as it did. -/
def runCodesUptoRow : OpenClaim := { program := "ytcnliipkfccohaagreat", sum := "83974b9400c461a5c045f420da3d72ff615e7262f1ae6faf5a10e39734d0395b", func := "gimlet/gimletlaw16.RunCodes", spec := "runCodes", unfollowed := true, recurses := true, loops := true, apart := false, narrowed := true }
def RunCodesUptoSaid : Prop := runCodesUptoRow.holds Tryz.pinned (OpenSpec.upto runCodesSpec)

/-- 'gimletlaw16.RunBehind', WHERE WHAT IT READS IS OF BULK AT MOST 1048576: true; the input reads as it did. -/
def runBehindUptoRow : OpenClaim := { program := "ytcnliipkfccohaagreat", sum := "83974b9400c461a5c045f420da3d72ff615e7262f1ae6faf5a10e39734d0395b", func := "gimlet/gimletlaw16.RunBehind", spec := "runBehind", unfollowed := true, recurses := true, apart := false, narrowed := true }
def RunBehindUptoSaid : Prop := runBehindUptoRow.holds Tryz.pinned (OpenSpec.upto runBehindSpec)

/-- 'gimletlaw16.RunGroup', WHERE WHAT IT READS IS OF BULK AT MOST 1048576: true; the input reads as it did. -/
def runGroupUptoRow : OpenClaim := { program := "ytcnliipkfccohaagreat", sum := "83974b9400c461a5c045f420da3d72ff615e7262f1ae6faf5a10e39734d0395b", func := "gimlet/gimletlaw16.RunGroup", spec := "runGroup", unfollowed := true, recurses := true, apart := false, narrowed := true }
def RunGroupUptoSaid : Prop := runGroupUptoRow.holds Tryz.pinned (OpenSpec.upto runGroupSpec)

end Rows
end Go.Proofs.YtcnliipkfccohaaGreat
