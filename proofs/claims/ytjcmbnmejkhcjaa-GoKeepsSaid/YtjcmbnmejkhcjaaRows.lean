/-
  No cell of these rows narrows 'for every input' (looked for: loops, veiled, ifaces, maps, wideKeys, modest, calm, conditions, laid).
  DERIVED. THE GIVEN ROWS OF THIS SEAT. 7 by the template 'for every input the law returns true; each argument reads behind the call as it read before'; 0 by the template 'total and deterministic' (their statements: YtjcmbnmejkhcjaaTotals.lean).
  GIVEN WITH THE SEED: the statements are not yours to turn. If you find one false, say at which input.
  Laid BY PROGRAM, IN A SANDBOX (cutbox-rows.mjs): the forced cells as the released guide's own fill.sh prints them over the translation f9f9d8e4cddf55fe… (all of the seat's roots in one cut). By AI agents, Wed Nov 11 2026. No macro, syntax, notation, axiom, sorry.
-/
import Derived.Test.YtjcmbnmejkhcjaaChecked
import GoSem.Claim
import GoSem.ClaimJoined
import GoSem.ClaimMapViews
import Derived.JoinedTies
import Derived.KernelRfl
namespace Go.Proofs.Ytjcmbnmejkhcjaa
/- THE CELL 'sum', in the pinned program and in every row, IS THE sha256 OF THE DUMP (.gsa) THAT YtjcmbnmejkhcjaaProg.lean LOADS. Nothing in Lean hashes anything: it is a label: what it is worth is what the hold of that sum in a sandbox is worth. -/
noncomputable def Try.pinned : Pinned := { name := "ytjcmbnmejkhcjaa", sum := "f9f9d8e4cddf55fe60eff12ca3640d7020aab0cd917a024e94457c1dcbb5be1c", checked := Try.checked }
namespace Rows
def none {H : Type} : Left H := { results := [], args := [] }

/-- 'gimletlaw9.StepTells': WHATEVER THE INPUT: true; the input reads as it did. -/
def stepTellsSpec : ChangeSpec := { name := "stepTells", fn := fun _ => fun
  | [d1, d2, d3] => { results := [.lit (.bool true)], args := [d1, d2, d3] }
  | _ => none }
def stepTellsRow : OpenClaim := { program := "ytjcmbnmejkhcjaa", sum := "f9f9d8e4cddf55fe60eff12ca3640d7020aab0cd917a024e94457c1dcbb5be1c", func := "gimlet/gimletlaw9.StepTells", spec := "stepTells", inPlace := ["internal/abi.NoEscape", "internal/bytealg.MakeNoZero"], unfollowed := true, recurses := true, apart := false }
def StepTellsSaid : Prop := stepTellsRow.holds Try.pinned (OpenSpec.ofChange stepTellsSpec)

/-- ITS FALSE NEIGHBOUR: 'it returns false'. Refute it at one input. -/
def stepTellsWrong : ChangeSpec := { name := "stepTells", fn := fun _ => fun
  | [d1, d2, d3] => { results := [.lit (.bool false)], args := [d1, d2, d3] }
  | _ => none }
def StepTellsWrongFalsely : Prop := stepTellsRow.holds Try.pinned (OpenSpec.ofChange stepTellsWrong)

/-- 'gimletlaw9.StepRises': WHATEVER THE INPUT: true; the input reads as it did. -/
def stepRisesSpec : ChangeSpec := { name := "stepRises", fn := fun _ => fun
  | [d1, d2, d3, d4] => { results := [.lit (.bool true)], args := [d1, d2, d3, d4] }
  | _ => none }
def stepRisesRow : OpenClaim := { program := "ytjcmbnmejkhcjaa", sum := "f9f9d8e4cddf55fe60eff12ca3640d7020aab0cd917a024e94457c1dcbb5be1c", func := "gimlet/gimletlaw9.StepRises", spec := "stepRises", inPlace := ["internal/abi.NoEscape", "internal/bytealg.MakeNoZero"], unfollowed := true, recurses := true, apart := false }
def StepRisesSaid : Prop := stepRisesRow.holds Try.pinned (OpenSpec.ofChange stepRisesSpec)

/-- ITS FALSE NEIGHBOUR: 'it returns false'. Refute it at one input. -/
def stepRisesWrong : ChangeSpec := { name := "stepRises", fn := fun _ => fun
  | [d1, d2, d3, d4] => { results := [.lit (.bool false)], args := [d1, d2, d3, d4] }
  | _ => none }
def StepRisesWrongFalsely : Prop := stepRisesRow.holds Try.pinned (OpenSpec.ofChange stepRisesWrong)

/-- 'gimletlaw9.StepBack': WHATEVER THE INPUT: true; the input reads as it did. -/
def stepBackSpec : ChangeSpec := { name := "stepBack", fn := fun _ => fun
  | [d1, d2] => { results := [.lit (.bool true)], args := [d1, d2] }
  | _ => none }
def stepBackRow : OpenClaim := { program := "ytjcmbnmejkhcjaa", sum := "f9f9d8e4cddf55fe60eff12ca3640d7020aab0cd917a024e94457c1dcbb5be1c", func := "gimlet/gimletlaw9.StepBack", spec := "stepBack", inPlace := ["internal/abi.NoEscape", "internal/bytealg.MakeNoZero"], unfollowed := true, recurses := true, apart := false }
def StepBackSaid : Prop := stepBackRow.holds Try.pinned (OpenSpec.ofChange stepBackSpec)

/-- ITS FALSE NEIGHBOUR: 'it returns false'. Refute it at one input. -/
def stepBackWrong : ChangeSpec := { name := "stepBack", fn := fun _ => fun
  | [d1, d2] => { results := [.lit (.bool false)], args := [d1, d2] }
  | _ => none }
def StepBackWrongFalsely : Prop := stepBackRow.holds Try.pinned (OpenSpec.ofChange stepBackWrong)

/-- 'gimletlaw9.StepWalks': WHATEVER THE INPUT: true; the input reads as it did. -/
def stepWalksSpec : ChangeSpec := { name := "stepWalks", fn := fun _ => fun
  | [d] => { results := [.lit (.bool true)], args := [d] }
  | _ => none }
def stepWalksRow : OpenClaim := { program := "ytjcmbnmejkhcjaa", sum := "f9f9d8e4cddf55fe60eff12ca3640d7020aab0cd917a024e94457c1dcbb5be1c", func := "gimlet/gimletlaw9.StepWalks", spec := "stepWalks", inPlace := ["internal/abi.NoEscape", "internal/bytealg.MakeNoZero"], unfollowed := true, recurses := true, apart := false }
def StepWalksSaid : Prop := stepWalksRow.holds Try.pinned (OpenSpec.ofChange stepWalksSpec)

/-- ITS FALSE NEIGHBOUR: 'it returns false'. Refute it at one input. -/
def stepWalksWrong : ChangeSpec := { name := "stepWalks", fn := fun _ => fun
  | [d] => { results := [.lit (.bool false)], args := [d] }
  | _ => none }
def StepWalksWrongFalsely : Prop := stepWalksRow.holds Try.pinned (OpenSpec.ofChange stepWalksWrong)

/-- 'gimletlaw9.StepLines': WHATEVER THE INPUT: true; the input reads as it did. -/
def stepLinesSpec : ChangeSpec := { name := "stepLines", fn := fun _ => fun
  | [d1, d2] => { results := [.lit (.bool true)], args := [d1, d2] }
  | _ => none }
def stepLinesRow : OpenClaim := { program := "ytjcmbnmejkhcjaa", sum := "f9f9d8e4cddf55fe60eff12ca3640d7020aab0cd917a024e94457c1dcbb5be1c", func := "gimlet/gimletlaw9.StepLines", spec := "stepLines", inPlace := ["internal/abi.NoEscape", "internal/bytealg.MakeNoZero"], unfollowed := true, recurses := true, apart := false }
def StepLinesSaid : Prop := stepLinesRow.holds Try.pinned (OpenSpec.ofChange stepLinesSpec)

/-- ITS FALSE NEIGHBOUR: 'it returns false'. Refute it at one input. -/
def stepLinesWrong : ChangeSpec := { name := "stepLines", fn := fun _ => fun
  | [d1, d2] => { results := [.lit (.bool false)], args := [d1, d2] }
  | _ => none }
def StepLinesWrongFalsely : Prop := stepLinesRow.holds Try.pinned (OpenSpec.ofChange stepLinesWrong)

/-- 'gimletlaw9.GoKeeps': WHATEVER THE INPUT: true; the input reads as it did. -/
def goKeepsSpec : ChangeSpec := { name := "goKeeps", fn := fun _ => fun
  | [d1, d2, d3] => { results := [.lit (.bool true)], args := [d1, d2, d3] }
  | _ => none }
def goKeepsRow : OpenClaim := { program := "ytjcmbnmejkhcjaa", sum := "f9f9d8e4cddf55fe60eff12ca3640d7020aab0cd917a024e94457c1dcbb5be1c", func := "gimlet/gimletlaw9.GoKeeps", spec := "goKeeps", inPlace := ["internal/abi.NoEscape", "internal/bytealg.MakeNoZero"], unfollowed := true, recurses := true, apart := false }
def GoKeepsSaid : Prop := goKeepsRow.holds Try.pinned (OpenSpec.ofChange goKeepsSpec)

/-- ITS FALSE NEIGHBOUR: 'it returns false'. Refute it at one input. -/
def goKeepsWrong : ChangeSpec := { name := "goKeeps", fn := fun _ => fun
  | [d1, d2, d3] => { results := [.lit (.bool false)], args := [d1, d2, d3] }
  | _ => none }
def GoKeepsWrongFalsely : Prop := goKeepsRow.holds Try.pinned (OpenSpec.ofChange goKeepsWrong)

/-- 'gimletlaw9.StepWords': WHATEVER THE INPUT: true; the input reads as it did. -/
def stepWordsSpec : ChangeSpec := { name := "stepWords", fn := fun _ => fun
  | [d1, d2] => { results := [.lit (.bool true)], args := [d1, d2] }
  | _ => none }
def stepWordsRow : OpenClaim := { program := "ytjcmbnmejkhcjaa", sum := "f9f9d8e4cddf55fe60eff12ca3640d7020aab0cd917a024e94457c1dcbb5be1c", func := "gimlet/gimletlaw9.StepWords", spec := "stepWords", inPlace := ["internal/abi.NoEscape", "internal/bytealg.MakeNoZero"], unfollowed := true, recurses := true, apart := false }
def StepWordsSaid : Prop := stepWordsRow.holds Try.pinned (OpenSpec.ofChange stepWordsSpec)

/-- ITS FALSE NEIGHBOUR: 'it returns false'. Refute it at one input. -/
def stepWordsWrong : ChangeSpec := { name := "stepWords", fn := fun _ => fun
  | [d1, d2] => { results := [.lit (.bool false)], args := [d1, d2] }
  | _ => none }
def StepWordsWrongFalsely : Prop := stepWordsRow.holds Try.pinned (OpenSpec.ofChange stepWordsWrong)

/- THE SECOND FORM. 'bulk': how many values and letters a reading holds, each counted each time it is reached (what is shared counts as often as it is met; a slice's spare places count too). A statement '..UptoSaid' is the law's where the arguments, and the package variables that the reading takes, are together of bulk at most 1048576: NARROWER than '..Said'. Prove '..Said' where nothing that the law and all that it calls make is longer than what came in: it says more and counts as full. Else prove '..UptoSaid'. A law counts once. -/
mutual
def uptoBulk {H : Type} : DataW H → Nat
  | .lit (.string bytes) => bytes.length + 1
  | .lit _ => 1
  | .nil => 1
  | .ptr d => uptoBulk d + 1
  | .slice elems spare => uptoBulkAll elems + uptoBulkAll spare + 1
  | .agg parts => uptoBulkAll parts + 1
  | .iface _ d => uptoBulk d + 1
  | .map entries => uptoBulkEntries entries + 1
  | .held _ => 1
def uptoBulkAll {H : Type} : List (DataW H) → Nat
  | [] => 0
  | d :: r => uptoBulk d + uptoBulkAll r
def uptoBulkEntries {H : Type} : List (Lit × DataW H) → Nat
  | [] => 0
  | x :: r => uptoBulkEntry x + uptoBulkEntries r
def uptoBulkEntry {H : Type} : Lit × DataW H → Nat
  | (.string bytes, d) => bytes.length + uptoBulk d + 1
  | (_, d) => uptoBulk d + 1
 end
def uptoSmall : (H : Type) → List (DataW H) → Bool := fun _ ds => decide (uptoBulkAll ds ≤ 1048576)
def OpenSpec.upto (s : _root_.Go.ChangeSpec) : _root_.Go.OpenSpec := { _root_.Go.OpenSpec.ofChange s with cond := some uptoSmall }

/-- 'gimletlaw9.StepTells', WHERE WHAT IT READS IS OF BULK AT MOST 1048576: true; the input reads as it did. -/
def stepTellsUptoRow : OpenClaim := { program := "ytjcmbnmejkhcjaa", sum := "f9f9d8e4cddf55fe60eff12ca3640d7020aab0cd917a024e94457c1dcbb5be1c", func := "gimlet/gimletlaw9.StepTells", spec := "stepTells", inPlace := ["internal/abi.NoEscape", "internal/bytealg.MakeNoZero"], unfollowed := true, recurses := true, apart := false, narrowed := true }
def StepTellsUptoSaid : Prop := stepTellsUptoRow.holds Try.pinned (OpenSpec.upto stepTellsSpec)

/-- 'gimletlaw9.StepRises', WHERE WHAT IT READS IS OF BULK AT MOST 1048576: true; the input reads as it did. -/
def stepRisesUptoRow : OpenClaim := { program := "ytjcmbnmejkhcjaa", sum := "f9f9d8e4cddf55fe60eff12ca3640d7020aab0cd917a024e94457c1dcbb5be1c", func := "gimlet/gimletlaw9.StepRises", spec := "stepRises", inPlace := ["internal/abi.NoEscape", "internal/bytealg.MakeNoZero"], unfollowed := true, recurses := true, apart := false, narrowed := true }
def StepRisesUptoSaid : Prop := stepRisesUptoRow.holds Try.pinned (OpenSpec.upto stepRisesSpec)

/-- 'gimletlaw9.StepBack', WHERE WHAT IT READS IS OF BULK AT MOST 1048576: true; the input reads as it did. -/
def stepBackUptoRow : OpenClaim := { program := "ytjcmbnmejkhcjaa", sum := "f9f9d8e4cddf55fe60eff12ca3640d7020aab0cd917a024e94457c1dcbb5be1c", func := "gimlet/gimletlaw9.StepBack", spec := "stepBack", inPlace := ["internal/abi.NoEscape", "internal/bytealg.MakeNoZero"], unfollowed := true, recurses := true, apart := false, narrowed := true }
def StepBackUptoSaid : Prop := stepBackUptoRow.holds Try.pinned (OpenSpec.upto stepBackSpec)

/-- 'gimletlaw9.StepWalks', WHERE WHAT IT READS IS OF BULK AT MOST 1048576: true; the input reads as it did. -/
def stepWalksUptoRow : OpenClaim := { program := "ytjcmbnmejkhcjaa", sum := "f9f9d8e4cddf55fe60eff12ca3640d7020aab0cd917a024e94457c1dcbb5be1c", func := "gimlet/gimletlaw9.StepWalks", spec := "stepWalks", inPlace := ["internal/abi.NoEscape", "internal/bytealg.MakeNoZero"], unfollowed := true, recurses := true, apart := false, narrowed := true }
def StepWalksUptoSaid : Prop := stepWalksUptoRow.holds Try.pinned (OpenSpec.upto stepWalksSpec)

/-- 'gimletlaw9.StepLines', WHERE WHAT IT READS IS OF BULK AT MOST 1048576: true; the input reads as it did. -/
def stepLinesUptoRow : OpenClaim := { program := "ytjcmbnmejkhcjaa", sum := "f9f9d8e4cddf55fe60eff12ca3640d7020aab0cd917a024e94457c1dcbb5be1c", func := "gimlet/gimletlaw9.StepLines", spec := "stepLines", inPlace := ["internal/abi.NoEscape", "internal/bytealg.MakeNoZero"], unfollowed := true, recurses := true, apart := false, narrowed := true }
def StepLinesUptoSaid : Prop := stepLinesUptoRow.holds Try.pinned (OpenSpec.upto stepLinesSpec)

/-- 'gimletlaw9.GoKeeps', WHERE WHAT IT READS IS OF BULK AT MOST 1048576: true; the input reads as it did. -/
def goKeepsUptoRow : OpenClaim := { program := "ytjcmbnmejkhcjaa", sum := "f9f9d8e4cddf55fe60eff12ca3640d7020aab0cd917a024e94457c1dcbb5be1c", func := "gimlet/gimletlaw9.GoKeeps", spec := "goKeeps", inPlace := ["internal/abi.NoEscape", "internal/bytealg.MakeNoZero"], unfollowed := true, recurses := true, apart := false, narrowed := true }
def GoKeepsUptoSaid : Prop := goKeepsUptoRow.holds Try.pinned (OpenSpec.upto goKeepsSpec)

/-- 'gimletlaw9.StepWords', WHERE WHAT IT READS IS OF BULK AT MOST 1048576: true; the input reads as it did. -/
def stepWordsUptoRow : OpenClaim := { program := "ytjcmbnmejkhcjaa", sum := "f9f9d8e4cddf55fe60eff12ca3640d7020aab0cd917a024e94457c1dcbb5be1c", func := "gimlet/gimletlaw9.StepWords", spec := "stepWords", inPlace := ["internal/abi.NoEscape", "internal/bytealg.MakeNoZero"], unfollowed := true, recurses := true, apart := false, narrowed := true }
def StepWordsUptoSaid : Prop := stepWordsUptoRow.holds Try.pinned (OpenSpec.upto stepWordsSpec)

end Rows
end Go.Proofs.Ytjcmbnmejkhcjaa
