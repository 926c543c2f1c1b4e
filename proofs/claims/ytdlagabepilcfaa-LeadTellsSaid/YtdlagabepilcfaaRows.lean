/-
  No cell of these rows narrows 'for every input' (looked for: loops, veiled, ifaces, maps, wideKeys, modest, calm, conditions, laid).
  DERIVED. THE GIVEN ROWS OF THIS SEAT. 5 by the template 'for every input the law returns true; each argument reads behind the call as it read before'; 0 by the template 'total and deterministic' (their statements: YtdlagabepilcfaaTotals.lean).
  GIVEN WITH THE SEED: the statements are not yours to turn. If you find one false, say at which input.
  Laid BY PROGRAM, IN A SANDBOX (cutbox-rows.mjs): the forced cells as the released guide's own fill.sh prints them over the translation eb203d814b49b728… (all of the seat's roots in one cut). By AI agents, Wed Nov 11 2026. No macro, syntax, notation, axiom, sorry.
-/
import Derived.Test.YtdlagabepilcfaaChecked
import GoSem.Claim
import GoSem.ClaimJoined
import GoSem.ClaimMapViews
import Derived.JoinedTies
import Derived.KernelRfl
namespace Go.Proofs.Ytdlagabepilcfaa
/- THE CELL 'sum', in the pinned program and in every row, IS THE sha256 OF THE DUMP (.gsa) THAT YtdlagabepilcfaaProg.lean LOADS. Nothing in Lean hashes anything: it is a label: what it is worth is what the hold of that sum in a sandbox is worth. -/
noncomputable def Try.pinned : Pinned := { name := "ytdlagabepilcfaa", sum := "eb203d814b49b7288916d0018749ea9544e6850cfa3d33e467695fa3915ecdb3", checked := Try.checked }
namespace Rows
def none {H : Type} : Left H := { results := [], args := [] }

/-- 'gimletlaw24.LeadTells': WHATEVER THE INPUT: true; the input reads as it did. -/
def leadTellsSpec : ChangeSpec := { name := "leadTells", fn := fun _ => fun
  | [d1, d2, d3, d4] => { results := [.lit (.bool true)], args := [d1, d2, d3, d4] }
  | _ => none }
def leadTellsRow : OpenClaim := { program := "ytdlagabepilcfaa", sum := "eb203d814b49b7288916d0018749ea9544e6850cfa3d33e467695fa3915ecdb3", func := "gimlet/gimletlaw24.LeadTells", spec := "leadTells", inPlace := ["internal/abi.NoEscape"], unfollowed := true, recurses := true, apart := false }
def LeadTellsSaid : Prop := leadTellsRow.holds Try.pinned (OpenSpec.ofChange leadTellsSpec)

/-- ITS FALSE NEIGHBOUR: 'it returns false'. Refute it at one input. -/
def leadTellsWrong : ChangeSpec := { name := "leadTells", fn := fun _ => fun
  | [d1, d2, d3, d4] => { results := [.lit (.bool false)], args := [d1, d2, d3, d4] }
  | _ => none }
def LeadTellsWrongFalsely : Prop := leadTellsRow.holds Try.pinned (OpenSpec.ofChange leadTellsWrong)

/-- 'gimletlaw24.LeadLines': WHATEVER THE INPUT: true; the input reads as it did. -/
def leadLinesSpec : ChangeSpec := { name := "leadLines", fn := fun _ => fun
  | [d1, d2, d3] => { results := [.lit (.bool true)], args := [d1, d2, d3] }
  | _ => none }
def leadLinesRow : OpenClaim := { program := "ytdlagabepilcfaa", sum := "eb203d814b49b7288916d0018749ea9544e6850cfa3d33e467695fa3915ecdb3", func := "gimlet/gimletlaw24.LeadLines", spec := "leadLines", inPlace := ["internal/abi.NoEscape"], unfollowed := true, recurses := true, apart := false }
def LeadLinesSaid : Prop := leadLinesRow.holds Try.pinned (OpenSpec.ofChange leadLinesSpec)

/-- ITS FALSE NEIGHBOUR: 'it returns false'. Refute it at one input. -/
def leadLinesWrong : ChangeSpec := { name := "leadLines", fn := fun _ => fun
  | [d1, d2, d3] => { results := [.lit (.bool false)], args := [d1, d2, d3] }
  | _ => none }
def LeadLinesWrongFalsely : Prop := leadLinesRow.holds Try.pinned (OpenSpec.ofChange leadLinesWrong)

/-- 'gimletlaw24.LeadNone': WHATEVER THE INPUT: true; the input reads as it did. -/
def leadNoneSpec : ChangeSpec := { name := "leadNone", fn := fun _ => fun
  | [d1, d2, d3] => { results := [.lit (.bool true)], args := [d1, d2, d3] }
  | _ => none }
def leadNoneRow : OpenClaim := { program := "ytdlagabepilcfaa", sum := "eb203d814b49b7288916d0018749ea9544e6850cfa3d33e467695fa3915ecdb3", func := "gimlet/gimletlaw24.LeadNone", spec := "leadNone", inPlace := ["internal/abi.NoEscape"], unfollowed := true, recurses := true, apart := false }
def LeadNoneSaid : Prop := leadNoneRow.holds Try.pinned (OpenSpec.ofChange leadNoneSpec)

/-- ITS FALSE NEIGHBOUR: 'it returns false'. Refute it at one input. -/
def leadNoneWrong : ChangeSpec := { name := "leadNone", fn := fun _ => fun
  | [d1, d2, d3] => { results := [.lit (.bool false)], args := [d1, d2, d3] }
  | _ => none }
def LeadNoneWrongFalsely : Prop := leadNoneRow.holds Try.pinned (OpenSpec.ofChange leadNoneWrong)

/-- 'gimletlaw24.LeadTwice': WHATEVER THE INPUT: true; the input reads as it did. -/
def leadTwiceSpec : ChangeSpec := { name := "leadTwice", fn := fun _ => fun
  | [d1, d2, d3] => { results := [.lit (.bool true)], args := [d1, d2, d3] }
  | _ => none }
def leadTwiceRow : OpenClaim := { program := "ytdlagabepilcfaa", sum := "eb203d814b49b7288916d0018749ea9544e6850cfa3d33e467695fa3915ecdb3", func := "gimlet/gimletlaw24.LeadTwice", spec := "leadTwice", inPlace := ["internal/abi.NoEscape"], unfollowed := true, recurses := true, apart := false }
def LeadTwiceSaid : Prop := leadTwiceRow.holds Try.pinned (OpenSpec.ofChange leadTwiceSpec)

/-- ITS FALSE NEIGHBOUR: 'it returns false'. Refute it at one input. -/
def leadTwiceWrong : ChangeSpec := { name := "leadTwice", fn := fun _ => fun
  | [d1, d2, d3] => { results := [.lit (.bool false)], args := [d1, d2, d3] }
  | _ => none }
def LeadTwiceWrongFalsely : Prop := leadTwiceRow.holds Try.pinned (OpenSpec.ofChange leadTwiceWrong)

/-- 'gimletlaw24.LeadJoin': WHATEVER THE INPUT: true; the input reads as it did. -/
def leadJoinSpec : ChangeSpec := { name := "leadJoin", fn := fun _ => fun
  | [d1, d2, d3, d4] => { results := [.lit (.bool true)], args := [d1, d2, d3, d4] }
  | _ => none }
def leadJoinRow : OpenClaim := { program := "ytdlagabepilcfaa", sum := "eb203d814b49b7288916d0018749ea9544e6850cfa3d33e467695fa3915ecdb3", func := "gimlet/gimletlaw24.LeadJoin", spec := "leadJoin", inPlace := ["internal/abi.NoEscape"], unfollowed := true, recurses := true, apart := false }
def LeadJoinSaid : Prop := leadJoinRow.holds Try.pinned (OpenSpec.ofChange leadJoinSpec)

/-- ITS FALSE NEIGHBOUR: 'it returns false'. Refute it at one input. -/
def leadJoinWrong : ChangeSpec := { name := "leadJoin", fn := fun _ => fun
  | [d1, d2, d3, d4] => { results := [.lit (.bool false)], args := [d1, d2, d3, d4] }
  | _ => none }
def LeadJoinWrongFalsely : Prop := leadJoinRow.holds Try.pinned (OpenSpec.ofChange leadJoinWrong)

/- THE SECOND FORM. 'bulk': how many values and letters a reading holds, each counted each time it is reached (what is shared counts as often as it is met; a slice's spare places count too). A statement '..UptoSaid' is the law's where the arguments, and the package variables that the reading takes, are together of bulk at most 1048576: NARROWER than '..Said'. Prove '..Said' where nothing that the law and all that it calls make is longer than what came in: it says more and counts as full. Else prove '..UptoSaid'. A law counts once. -/
mutual
def uptoBulk {H : Type} : DataW H → Nat
  | .lit (.string bytes) => bytes.length + 1
  | .lit _ => 1
  | .nil => 1
  | .ptr d => uptoBulk d + 1
  | .slice elems spare => uptoBulkAll elems + uptoBulkAll spare + 1
  | .agg parts => uptoBulkAll parts + 1
  | .iface _ d => uptoBulk d + 1
  | .map entries => uptoBulkEntries entries + 1
  | .held _ => 1
def uptoBulkAll {H : Type} : List (DataW H) → Nat
  | [] => 0
  | d :: r => uptoBulk d + uptoBulkAll r
def uptoBulkEntries {H : Type} : List (Lit × DataW H) → Nat
  | [] => 0
  | x :: r => uptoBulkEntry x + uptoBulkEntries r
def uptoBulkEntry {H : Type} : Lit × DataW H → Nat
  | (.string bytes, d) => bytes.length + uptoBulk d + 1
  | (_, d) => uptoBulk d + 1
 end
def uptoSmall : (H : Type) → List (DataW H) → Bool := fun _ ds => decide (uptoBulkAll ds ≤ 1048576)
def OpenSpec.upto (s : _root_.Go.ChangeSpec) : _root_.Go.OpenSpec := { _root_.Go.OpenSpec.ofChange s with cond := some uptoSmall }

/-- 'gimletlaw24.LeadTells', WHERE WHAT IT READS IS OF BULK AT MOST 1048576: true; the input reads as it did. -/
def leadTellsUptoRow : OpenClaim := { program := "ytdlagabepilcfaa", sum := "eb203d814b49b7288916d0018749ea9544e6850cfa3d33e467695fa3915ecdb3", func := "gimlet/gimletlaw24.LeadTells", spec := "leadTells", inPlace := ["internal/abi.NoEscape"], unfollowed := true, recurses := true, apart := false, narrowed := true }
def LeadTellsUptoSaid : Prop := leadTellsUptoRow.holds Try.pinned (OpenSpec.upto leadTellsSpec)

/-- 'gimletlaw24.LeadLines', WHERE WHAT IT READS IS OF BULK AT MOST 1048576: true; the input reads as it did. -/
def leadLinesUptoRow : OpenClaim := { program := "ytdlagabepilcfaa", sum := "eb203d814b49b7288916d0018749ea9544e6850cfa3d33e467695fa3915ecdb3", func := "gimlet/gimletlaw24.LeadLines", spec := "leadLines", inPlace := ["internal/abi.NoEscape"], unfollowed := true, recurses := true, apart := false, narrowed := true }
def LeadLinesUptoSaid : Prop := leadLinesUptoRow.holds Try.pinned (OpenSpec.upto leadLinesSpec)

/-- 'gimletlaw24.LeadNone', WHERE WHAT IT READS IS OF BULK AT MOST 1048576: true; the input reads as it did. -/
def leadNoneUptoRow : OpenClaim := { program := "ytdlagabepilcfaa", sum := "eb203d814b49b7288916d0018749ea9544e6850cfa3d33e467695fa3915ecdb3", func := "gimlet/gimletlaw24.LeadNone", spec := "leadNone", inPlace := ["internal/abi.NoEscape"], unfollowed := true, recurses := true, apart := false, narrowed := true }
def LeadNoneUptoSaid : Prop := leadNoneUptoRow.holds Try.pinned (OpenSpec.upto leadNoneSpec)

/-- 'gimletlaw24.LeadTwice', WHERE WHAT IT READS IS OF BULK AT MOST 1048576: true; the input reads as it did. -/
def leadTwiceUptoRow : OpenClaim := { program := "ytdlagabepilcfaa", sum := "eb203d814b49b7288916d0018749ea9544e6850cfa3d33e467695fa3915ecdb3", func := "gimlet/gimletlaw24.LeadTwice", spec := "leadTwice", inPlace := ["internal/abi.NoEscape"], unfollowed := true, recurses := true, apart := false, narrowed := true }
def LeadTwiceUptoSaid : Prop := leadTwiceUptoRow.holds Try.pinned (OpenSpec.upto leadTwiceSpec)

/-- 'gimletlaw24.LeadJoin', WHERE WHAT IT READS IS OF BULK AT MOST 1048576: true; the input reads as it did. -/
def leadJoinUptoRow : OpenClaim := { program := "ytdlagabepilcfaa", sum := "eb203d814b49b7288916d0018749ea9544e6850cfa3d33e467695fa3915ecdb3", func := "gimlet/gimletlaw24.LeadJoin", spec := "leadJoin", inPlace := ["internal/abi.NoEscape"], unfollowed := true, recurses := true, apart := false, narrowed := true }
def LeadJoinUptoSaid : Prop := leadJoinUptoRow.holds Try.pinned (OpenSpec.upto leadJoinSpec)

end Rows
end Go.Proofs.Ytdlagabepilcfaa
