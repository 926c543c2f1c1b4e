/-
  NARROWER THAN 'FOR EVERY INPUT', by the rows' own cells (each row's printed sentence says how): TreeTells: loops · TreeSame: loops · SeqTells: loops.
  DERIVED. THE GIVEN ROWS OF THIS SEAT. 6 by the template 'for every input the law returns true; each argument reads behind the call as it read before'; 0 by the template 'total and deterministic' (their statements: YtmfaeonlmfejdaaTotals.lean).
  GIVEN WITH THE SEED: the statements are not yours to turn. If you find one false, say at which input.
  Laid BY PROGRAM, IN A SANDBOX (cutbox-rows.mjs): the forced cells as the released guide's own fill.sh prints them over the translation c8905e6730eacf33… (all of the seat's roots in one cut). By AI agents, Wed Nov 11 2026. No macro, syntax, notation, axiom, sorry.
-/
import Derived.Test.YtmfaeonlmfejdaaChecked
import GoSem.Claim
import GoSem.ClaimJoined
import GoSem.ClaimMapViews
import Derived.JoinedTies
import Derived.KernelRfl
namespace Go.Proofs.Ytmfaeonlmfejdaa
/- THE CELL 'sum', in the pinned program and in every row, IS THE sha256 OF THE DUMP (.gsa) THAT YtmfaeonlmfejdaaProg.lean LOADS. Nothing in Lean hashes anything: it is a label: what it is worth is what the hold of that sum in a sandbox is worth. -/
noncomputable def Try.pinned : Pinned := { name := "ytmfaeonlmfejdaa", sum := "c8905e6730eacf33c871dc2e920d35d9687ddbf4fcc351c91c51d7509c93ed7f", checked := Try.checked }
namespace Rows
def none {H : Type} : Left H := { results := [], args := [] }

/-- 'gimletlaw13.TreeTells': WHATEVER THE INPUT: true; the input reads as it did. -/
def treeTellsSpec : ChangeSpec := { name := "treeTells", fn := fun _ => fun
  | [d] => { results := [.lit (.bool true)], args := [d] }
  | _ => none }
def treeTellsRow : OpenClaim := { program := "ytmfaeonlmfejdaa", sum := "c8905e6730eacf33c871dc2e920d35d9687ddbf4fcc351c91c51d7509c93ed7f", func := "gimlet/gimletlaw13.TreeTells", spec := "treeTells", unfollowed := true, recurses := true, loops := true, apart := false }
def TreeTellsSaid : Prop := treeTellsRow.holds Try.pinned (OpenSpec.ofChange treeTellsSpec)

/-- ITS FALSE NEIGHBOUR: 'it returns false'. Refute it at one input. -/
def treeTellsWrong : ChangeSpec := { name := "treeTells", fn := fun _ => fun
  | [d] => { results := [.lit (.bool false)], args := [d] }
  | _ => none }
def TreeTellsWrongFalsely : Prop := treeTellsRow.holds Try.pinned (OpenSpec.ofChange treeTellsWrong)

/-- 'gimletlaw13.TreeSame': WHATEVER THE INPUT: true; the input reads as it did. -/
def treeSameSpec : ChangeSpec := { name := "treeSame", fn := fun _ => fun
  | [d1, d2] => { results := [.lit (.bool true)], args := [d1, d2] }
  | _ => none }
def treeSameRow : OpenClaim := { program := "ytmfaeonlmfejdaa", sum := "c8905e6730eacf33c871dc2e920d35d9687ddbf4fcc351c91c51d7509c93ed7f", func := "gimlet/gimletlaw13.TreeSame", spec := "treeSame", unfollowed := true, recurses := true, loops := true, apart := false }
def TreeSameSaid : Prop := treeSameRow.holds Try.pinned (OpenSpec.ofChange treeSameSpec)

/-- ITS FALSE NEIGHBOUR: 'it returns false'. Refute it at one input. -/
def treeSameWrong : ChangeSpec := { name := "treeSame", fn := fun _ => fun
  | [d1, d2] => { results := [.lit (.bool false)], args := [d1, d2] }
  | _ => none }
def TreeSameWrongFalsely : Prop := treeSameRow.holds Try.pinned (OpenSpec.ofChange treeSameWrong)

/-- 'gimletlaw13.SeqTells': WHATEVER THE INPUT: true; the input reads as it did. -/
def seqTellsSpec : ChangeSpec := { name := "seqTells", fn := fun _ => fun
  | [d] => { results := [.lit (.bool true)], args := [d] }
  | _ => none }
def seqTellsRow : OpenClaim := { program := "ytmfaeonlmfejdaa", sum := "c8905e6730eacf33c871dc2e920d35d9687ddbf4fcc351c91c51d7509c93ed7f", func := "gimlet/gimletlaw13.SeqTells", spec := "seqTells", unfollowed := true, recurses := true, loops := true, apart := false }
def SeqTellsSaid : Prop := seqTellsRow.holds Try.pinned (OpenSpec.ofChange seqTellsSpec)

/-- ITS FALSE NEIGHBOUR: 'it returns false'. Refute it at one input. -/
def seqTellsWrong : ChangeSpec := { name := "seqTells", fn := fun _ => fun
  | [d] => { results := [.lit (.bool false)], args := [d] }
  | _ => none }
def SeqTellsWrongFalsely : Prop := seqTellsRow.holds Try.pinned (OpenSpec.ofChange seqTellsWrong)

/-- 'gimletlaw13.SeqMay': WHATEVER THE INPUT: true; the input reads as it did. -/
def seqMaySpec : ChangeSpec := { name := "seqMay", fn := fun _ => fun
  | [d] => { results := [.lit (.bool true)], args := [d] }
  | _ => none }
def seqMayRow : OpenClaim := { program := "ytmfaeonlmfejdaa", sum := "c8905e6730eacf33c871dc2e920d35d9687ddbf4fcc351c91c51d7509c93ed7f", func := "gimlet/gimletlaw13.SeqMay", spec := "seqMay", unfollowed := true, recurses := true, apart := false }
def SeqMaySaid : Prop := seqMayRow.holds Try.pinned (OpenSpec.ofChange seqMaySpec)

/-- ITS FALSE NEIGHBOUR: 'it returns false'. Refute it at one input. -/
def seqMayWrong : ChangeSpec := { name := "seqMay", fn := fun _ => fun
  | [d] => { results := [.lit (.bool false)], args := [d] }
  | _ => none }
def SeqMayWrongFalsely : Prop := seqMayRow.holds Try.pinned (OpenSpec.ofChange seqMayWrong)

/-- 'gimletlaw13.SeqTwice': WHATEVER THE INPUT: true; the input reads as it did. -/
def seqTwiceSpec : ChangeSpec := { name := "seqTwice", fn := fun _ => fun
  | [d1, d2] => { results := [.lit (.bool true)], args := [d1, d2] }
  | _ => none }
def seqTwiceRow : OpenClaim := { program := "ytmfaeonlmfejdaa", sum := "c8905e6730eacf33c871dc2e920d35d9687ddbf4fcc351c91c51d7509c93ed7f", func := "gimlet/gimletlaw13.SeqTwice", spec := "seqTwice", unfollowed := true, recurses := true, apart := false }
def SeqTwiceSaid : Prop := seqTwiceRow.holds Try.pinned (OpenSpec.ofChange seqTwiceSpec)

/-- ITS FALSE NEIGHBOUR: 'it returns false'. Refute it at one input. -/
def seqTwiceWrong : ChangeSpec := { name := "seqTwice", fn := fun _ => fun
  | [d1, d2] => { results := [.lit (.bool false)], args := [d1, d2] }
  | _ => none }
def SeqTwiceWrongFalsely : Prop := seqTwiceRow.holds Try.pinned (OpenSpec.ofChange seqTwiceWrong)

/-- 'gimletlaw13.TreeLimits': WHATEVER THE INPUT: true; the input reads as it did. -/
def treeLimitsSpec : ChangeSpec := { name := "treeLimits", fn := fun _ => fun
  | [d1, d2, d3] => { results := [.lit (.bool true)], args := [d1, d2, d3] }
  | _ => none }
def treeLimitsRow : OpenClaim := { program := "ytmfaeonlmfejdaa", sum := "c8905e6730eacf33c871dc2e920d35d9687ddbf4fcc351c91c51d7509c93ed7f", func := "gimlet/gimletlaw13.TreeLimits", spec := "treeLimits", unfollowed := true, recurses := true, apart := false }
def TreeLimitsSaid : Prop := treeLimitsRow.holds Try.pinned (OpenSpec.ofChange treeLimitsSpec)

/-- ITS FALSE NEIGHBOUR: 'it returns false'. Refute it at one input. -/
def treeLimitsWrong : ChangeSpec := { name := "treeLimits", fn := fun _ => fun
  | [d1, d2, d3] => { results := [.lit (.bool false)], args := [d1, d2, d3] }
  | _ => none }
def TreeLimitsWrongFalsely : Prop := treeLimitsRow.holds Try.pinned (OpenSpec.ofChange treeLimitsWrong)

/- THE SECOND FORM. 'bulk': how many values and letters a reading holds, each counted each time it is reached (what is shared counts as often as it is met; a slice's spare places count too). A statement '..UptoSaid' is the law's where the arguments, and the package variables that the reading takes, are together of bulk at most 1048576: NARROWER than '..Said'. Prove '..Said' where nothing that the law and all that it calls make is longer than what came in: it says more and counts as full. Else prove '..UptoSaid'. A law counts once. -/
mutual
def uptoBulk {H : Type} : DataW H → Nat
  | .lit (.string bytes) => bytes.length + 1
  | .lit _ => 1
  | .nil => 1
  | .ptr d => uptoBulk d + 1
  | .slice elems spare => uptoBulkAll elems + uptoBulkAll spare + 1
  | .agg parts => uptoBulkAll parts + 1
  | .iface _ d => uptoBulk d + 1
  | .map entries => uptoBulkEntries entries + 1
  | .held _ => 1
def uptoBulkAll {H : Type} : List (DataW H) → Nat
  | [] => 0
  | d :: r => uptoBulk d + uptoBulkAll r
def uptoBulkEntries {H : Type} : List (Lit × DataW H) → Nat
  | [] => 0
  | x :: r => uptoBulkEntry x + uptoBulkEntries r
def uptoBulkEntry {H : Type} : Lit × DataW H → Nat
  | (.string bytes, d) => bytes.length + uptoBulk d + 1
  | (_, d) => uptoBulk d + 1
 end
def uptoSmall : (H : Type) → List (DataW H) → Bool := fun _ ds => decide (uptoBulkAll ds ≤ 1048576)
def OpenSpec.upto (s : _root_.Go.ChangeSpec) : _root_.Go.OpenSpec := { _root_.Go.OpenSpec.ofChange s with cond := some uptoSmall }

/-- 'gimletlaw13.TreeTells', WHERE WHAT IT READS IS OF BULK AT MOST 1048576: true; the input reads as it did. -/
def treeTellsUptoRow : OpenClaim := { program := "ytmfaeonlmfejdaa", sum := "c8905e6730eacf33c871dc2e920d35d9687ddbf4fcc351c91c51d7509c93ed7f", func := "gimlet/gimletlaw13.TreeTells", spec := "treeTells", unfollowed := true, recurses := true, loops := true, apart := false, narrowed := true }
def TreeTellsUptoSaid : Prop := treeTellsUptoRow.holds Try.pinned (OpenSpec.upto treeTellsSpec)

/-- 'gimletlaw13.TreeSame', WHERE WHAT IT READS IS OF BULK AT MOST 1048576: true; the input reads as it did. -/
def treeSameUptoRow : OpenClaim := { program := "ytmfaeonlmfejdaa", sum := "c8905e6730eacf33c871dc2e920d35d9687ddbf4fcc351c91c51d7509c93ed7f", func := "gimlet/gimletlaw13.TreeSame", spec := "treeSame", unfollowed := true, recurses := true, loops := true, apart := false, narrowed := true }
def TreeSameUptoSaid : Prop := treeSameUptoRow.holds Try.pinned (OpenSpec.upto treeSameSpec)

/-- 'gimletlaw13.SeqTells', WHERE WHAT IT READS IS OF BULK AT MOST 1048576: true; the input reads as it did. -/
def seqTellsUptoRow : OpenClaim := { program := "ytmfaeonlmfejdaa", sum := "c8905e6730eacf33c871dc2e920d35d9687ddbf4fcc351c91c51d7509c93ed7f", func := "gimlet/gimletlaw13.SeqTells", spec := "seqTells", unfollowed := true, recurses := true, loops := true, apart := false, narrowed := true }
def SeqTellsUptoSaid : Prop := seqTellsUptoRow.holds Try.pinned (OpenSpec.upto seqTellsSpec)

/-- 'gimletlaw13.SeqMay', WHERE WHAT IT READS IS OF BULK AT MOST 1048576: true; the input reads as it did. -/
def seqMayUptoRow : OpenClaim := { program := "ytmfaeonlmfejdaa", sum := "c8905e6730eacf33c871dc2e920d35d9687ddbf4fcc351c91c51d7509c93ed7f", func := "gimlet/gimletlaw13.SeqMay", spec := "seqMay", unfollowed := true, recurses := true, apart := false, narrowed := true }
def SeqMayUptoSaid : Prop := seqMayUptoRow.holds Try.pinned (OpenSpec.upto seqMaySpec)

/-- 'gimletlaw13.SeqTwice', WHERE WHAT IT READS IS OF BULK AT MOST 1048576: true; the input reads as it did. -/
def seqTwiceUptoRow : OpenClaim := { program := "ytmfaeonlmfejdaa", sum := "c8905e6730eacf33c871dc2e920d35d9687ddbf4fcc351c91c51d7509c93ed7f", func := "gimlet/gimletlaw13.SeqTwice", spec := "seqTwice", unfollowed := true, recurses := true, apart := false, narrowed := true }
def SeqTwiceUptoSaid : Prop := seqTwiceUptoRow.holds Try.pinned (OpenSpec.upto seqTwiceSpec)

/-- 'gimletlaw13.TreeLimits', WHERE WHAT IT READS IS OF BULK AT MOST 1048576: true; the input reads as it did. -/
def treeLimitsUptoRow : OpenClaim := { program := "ytmfaeonlmfejdaa", sum := "c8905e6730eacf33c871dc2e920d35d9687ddbf4fcc351c91c51d7509c93ed7f", func := "gimlet/gimletlaw13.TreeLimits", spec := "treeLimits", unfollowed := true, recurses := true, apart := false, narrowed := true }
def TreeLimitsUptoSaid : Prop := treeLimitsUptoRow.holds Try.pinned (OpenSpec.upto treeLimitsSpec)

end Rows
end Go.Proofs.Ytmfaeonlmfejdaa
