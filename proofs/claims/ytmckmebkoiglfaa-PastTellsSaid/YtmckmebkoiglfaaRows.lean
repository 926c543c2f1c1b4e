/-
  No cell of these rows narrows 'for every input' (looked for: loops, veiled, ifaces, maps, wideKeys, modest, calm, conditions, laid).
  DERIVED. THE GIVEN ROWS OF THIS SEAT. 4 by the template 'for every input the law returns true; each argument reads behind the call as it read before'; 0 by the template 'total and deterministic' (their statements: YtmckmebkoiglfaaTotals.lean).
  GIVEN WITH THE SEED: the statements are not yours to turn. If you find one false, say at which input.
  Laid BY PROGRAM, IN A SANDBOX (cutbox-rows.mjs): the forced cells as the released guide's own fill.sh prints them over the translation 17e8a8e9420964b0… (all of the seat's roots in one cut). By AI agents, Wed Nov 11 2026. No macro, syntax, notation, axiom, sorry.
-/
import Derived.Test.YtmckmebkoiglfaaChecked
import GoSem.Claim
import GoSem.ClaimJoined
import GoSem.ClaimMapViews
import Derived.JoinedTies
import Derived.KernelRfl
namespace Go.Proofs.Ytmckmebkoiglfaa
/- THE CELL 'sum', in the pinned program and in every row, IS THE sha256 OF THE DUMP (.gsa) THAT YtmckmebkoiglfaaProg.lean LOADS. Nothing in Lean hashes anything: it is a label: what it is worth is what the hold of that sum in a sandbox is worth. -/
noncomputable def Try.pinned : Pinned := { name := "ytmckmebkoiglfaa", sum := "17e8a8e9420964b0d89b8b602502930032aa5412d7aa8509127beca169cde701", checked := Try.checked }
namespace Rows
def none {H : Type} : Left H := { results := [], args := [] }

/-- 'gimletlaw29.PastTells': WHATEVER THE INPUT: true; the input reads as it did. -/
def pastTellsSpec : ChangeSpec := { name := "pastTells", fn := fun _ => fun
  | [d1, d2] => { results := [.lit (.bool true)], args := [d1, d2] }
  | _ => none }
def pastTellsRow : OpenClaim := { program := "ytmckmebkoiglfaa", sum := "17e8a8e9420964b0d89b8b602502930032aa5412d7aa8509127beca169cde701", func := "gimlet/gimletlaw29.PastTells", spec := "pastTells", apart := false }
def PastTellsSaid : Prop := pastTellsRow.holds Try.pinned (OpenSpec.ofChange pastTellsSpec)

/-- ITS FALSE NEIGHBOUR: 'it returns false'. Refute it at one input. -/
def pastTellsWrong : ChangeSpec := { name := "pastTells", fn := fun _ => fun
  | [d1, d2] => { results := [.lit (.bool false)], args := [d1, d2] }
  | _ => none }
def PastTellsWrongFalsely : Prop := pastTellsRow.holds Try.pinned (OpenSpec.ofChange pastTellsWrong)

/-- 'gimletlaw29.PastWalks': WHATEVER THE INPUT: true; the input reads as it did. -/
def pastWalksSpec : ChangeSpec := { name := "pastWalks", fn := fun _ => fun
  | [d1, d2, d3] => { results := [.lit (.bool true)], args := [d1, d2, d3] }
  | _ => none }
def pastWalksRow : OpenClaim := { program := "ytmckmebkoiglfaa", sum := "17e8a8e9420964b0d89b8b602502930032aa5412d7aa8509127beca169cde701", func := "gimlet/gimletlaw29.PastWalks", spec := "pastWalks", apart := false }
def PastWalksSaid : Prop := pastWalksRow.holds Try.pinned (OpenSpec.ofChange pastWalksSpec)

/-- ITS FALSE NEIGHBOUR: 'it returns false'. Refute it at one input. -/
def pastWalksWrong : ChangeSpec := { name := "pastWalks", fn := fun _ => fun
  | [d1, d2, d3] => { results := [.lit (.bool false)], args := [d1, d2, d3] }
  | _ => none }
def PastWalksWrongFalsely : Prop := pastWalksRow.holds Try.pinned (OpenSpec.ofChange pastWalksWrong)

/-- 'gimletlaw29.PastPush': WHATEVER THE INPUT: true; the input reads as it did. -/
def pastPushSpec : ChangeSpec := { name := "pastPush", fn := fun _ => fun
  | [d1, d2, d3] => { results := [.lit (.bool true)], args := [d1, d2, d3] }
  | _ => none }
def pastPushRow : OpenClaim := { program := "ytmckmebkoiglfaa", sum := "17e8a8e9420964b0d89b8b602502930032aa5412d7aa8509127beca169cde701", func := "gimlet/gimletlaw29.PastPush", spec := "pastPush", apart := false }
def PastPushSaid : Prop := pastPushRow.holds Try.pinned (OpenSpec.ofChange pastPushSpec)

/-- ITS FALSE NEIGHBOUR: 'it returns false'. Refute it at one input. -/
def pastPushWrong : ChangeSpec := { name := "pastPush", fn := fun _ => fun
  | [d1, d2, d3] => { results := [.lit (.bool false)], args := [d1, d2, d3] }
  | _ => none }
def PastPushWrongFalsely : Prop := pastPushRow.holds Try.pinned (OpenSpec.ofChange pastPushWrong)

/-- 'gimletlaw29.PastNil': WHATEVER THE INPUT: true; the input reads as it did. -/
def pastNilSpec : ChangeSpec := { name := "pastNil", fn := fun _ => fun
  | [d] => { results := [.lit (.bool true)], args := [d] }
  | _ => none }
def pastNilRow : OpenClaim := { program := "ytmckmebkoiglfaa", sum := "17e8a8e9420964b0d89b8b602502930032aa5412d7aa8509127beca169cde701", func := "gimlet/gimletlaw29.PastNil", spec := "pastNil", apart := false }
def PastNilSaid : Prop := pastNilRow.holds Try.pinned (OpenSpec.ofChange pastNilSpec)

/-- ITS FALSE NEIGHBOUR: 'it returns false'. Refute it at one input. -/
def pastNilWrong : ChangeSpec := { name := "pastNil", fn := fun _ => fun
  | [d] => { results := [.lit (.bool false)], args := [d] }
  | _ => none }
def PastNilWrongFalsely : Prop := pastNilRow.holds Try.pinned (OpenSpec.ofChange pastNilWrong)

/- THE SECOND FORM. 'bulk': how many values and letters a reading holds, each counted each time it is reached (what is shared counts as often as it is met; a slice's spare places count too). A statement '..UptoSaid' is the law's where the arguments, and the package variables that the reading takes, are together of bulk at most 1048576: NARROWER than '..Said'. Prove '..Said' where nothing that the law and all that it calls make is longer than what came in: it says more and counts as full. Else prove '..UptoSaid'. A law counts once. -/
mutual
def uptoBulk {H : Type} : DataW H → Nat
  | .lit (.string bytes) => bytes.length + 1
  | .lit _ => 1
  | .nil => 1
  | .ptr d => uptoBulk d + 1
  | .slice elems spare => uptoBulkAll elems + uptoBulkAll spare + 1
  | .agg parts => uptoBulkAll parts + 1
  | .iface _ d => uptoBulk d + 1
  | .map entries => uptoBulkEntries entries + 1
  | .held _ => 1
def uptoBulkAll {H : Type} : List (DataW H) → Nat
  | [] => 0
  | d :: r => uptoBulk d + uptoBulkAll r
def uptoBulkEntries {H : Type} : List (Lit × DataW H) → Nat
  | [] => 0
  | x :: r => uptoBulkEntry x + uptoBulkEntries r
def uptoBulkEntry {H : Type} : Lit × DataW H → Nat
  | (.string bytes, d) => bytes.length + uptoBulk d + 1
  | (_, d) => uptoBulk d + 1
 end
def uptoSmall : (H : Type) → List (DataW H) → Bool := fun _ ds => decide (uptoBulkAll ds ≤ 1048576)
def OpenSpec.upto (s : _root_.Go.ChangeSpec) : _root_.Go.OpenSpec := { _root_.Go.OpenSpec.ofChange s with cond := some uptoSmall }

/-- 'gimletlaw29.PastTells', WHERE WHAT IT READS IS OF BULK AT MOST 1048576: true; the input reads as it did. -/
def pastTellsUptoRow : OpenClaim := { program := "ytmckmebkoiglfaa", sum := "17e8a8e9420964b0d89b8b602502930032aa5412d7aa8509127beca169cde701", func := "gimlet/gimletlaw29.PastTells", spec := "pastTells", apart := false, narrowed := true }
def PastTellsUptoSaid : Prop := pastTellsUptoRow.holds Try.pinned (OpenSpec.upto pastTellsSpec)

/-- 'gimletlaw29.PastWalks', WHERE WHAT IT READS IS OF BULK AT MOST 1048576: true; the input reads as it did. -/
def pastWalksUptoRow : OpenClaim := { program := "ytmckmebkoiglfaa", sum := "17e8a8e9420964b0d89b8b602502930032aa5412d7aa8509127beca169cde701", func := "gimlet/gimletlaw29.PastWalks", spec := "pastWalks", apart := false, narrowed := true }
def PastWalksUptoSaid : Prop := pastWalksUptoRow.holds Try.pinned (OpenSpec.upto pastWalksSpec)

/-- 'gimletlaw29.PastPush', WHERE WHAT IT READS IS OF BULK AT MOST 1048576: true; the input reads as it did. -/
def pastPushUptoRow : OpenClaim := { program := "ytmckmebkoiglfaa", sum := "17e8a8e9420964b0d89b8b602502930032aa5412d7aa8509127beca169cde701", func := "gimlet/gimletlaw29.PastPush", spec := "pastPush", apart := false, narrowed := true }
def PastPushUptoSaid : Prop := pastPushUptoRow.holds Try.pinned (OpenSpec.upto pastPushSpec)

/-- 'gimletlaw29.PastNil', WHERE WHAT IT READS IS OF BULK AT MOST 1048576: true; the input reads as it did. -/
def pastNilUptoRow : OpenClaim := { program := "ytmckmebkoiglfaa", sum := "17e8a8e9420964b0d89b8b602502930032aa5412d7aa8509127beca169cde701", func := "gimlet/gimletlaw29.PastNil", spec := "pastNil", apart := false, narrowed := true }
def PastNilUptoSaid : Prop := pastNilUptoRow.holds Try.pinned (OpenSpec.upto pastNilSpec)

end Rows
end Go.Proofs.Ytmckmebkoiglfaa
