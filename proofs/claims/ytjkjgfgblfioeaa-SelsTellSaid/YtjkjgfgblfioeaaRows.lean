/-
  No cell of these rows narrows 'for every input' (looked for: loops, veiled, ifaces, maps, wideKeys, modest, calm, conditions, laid).
  DERIVED. THE GIVEN ROWS OF THIS SEAT. 6 by the template 'for every input the law returns true; each argument reads behind the call as it read before'; 0 by the template 'total and deterministic' (their statements: YtjkjgfgblfioeaaTotals.lean).
  GIVEN WITH THE SEED: the statements are not yours to turn. If you find one false, say at which input.
  Laid BY PROGRAM, IN A SANDBOX (cutbox-rows.mjs): the forced cells as the released guide's own fill.sh prints them over the translation cbe71a65b3f1657f… (all of the seat's roots in one cut). By AI agents, Wed Nov 11 2026. No macro, syntax, notation, axiom, sorry.
-/
import Derived.Test.YtjkjgfgblfioeaaChecked
import GoSem.Claim
import GoSem.ClaimJoined
import GoSem.ClaimMapViews
import Derived.JoinedTies
import Derived.KernelRfl
namespace Go.Proofs.Ytjkjgfgblfioeaa
/- THE CELL 'sum', in the pinned program and in every row, IS THE sha256 OF THE DUMP (.gsa) THAT YtjkjgfgblfioeaaProg.lean LOADS. Nothing in Lean hashes anything: it is a label: what it is worth is what the hold of that sum in a sandbox is worth. -/
noncomputable def Try.pinned : Pinned := { name := "ytjkjgfgblfioeaa", sum := "cbe71a65b3f1657f2a846f86a291d148684f15a8d95d77b1f721cb212052f782", checked := Try.checked }
namespace Rows
def none {H : Type} : Left H := { results := [], args := [] }

/-- 'gimletlaw8.SelsTell': WHATEVER THE INPUT: true; the input reads as it did. -/
def selsTellSpec : ChangeSpec := { name := "selsTell", fn := fun _ => fun
  | [d1, d2, d3] => { results := [.lit (.bool true)], args := [d1, d2, d3] }
  | _ => none }
def selsTellRow : OpenClaim := { program := "ytjkjgfgblfioeaa", sum := "cbe71a65b3f1657f2a846f86a291d148684f15a8d95d77b1f721cb212052f782", func := "gimlet/gimletlaw8.SelsTell", spec := "selsTell", unfollowed := true, recurses := true, apart := false }
def SelsTellSaid : Prop := selsTellRow.holds Try.pinned (OpenSpec.ofChange selsTellSpec)

/-- ITS FALSE NEIGHBOUR: 'it returns false'. Refute it at one input. -/
def selsTellWrong : ChangeSpec := { name := "selsTell", fn := fun _ => fun
  | [d1, d2, d3] => { results := [.lit (.bool false)], args := [d1, d2, d3] }
  | _ => none }
def SelsTellWrongFalsely : Prop := selsTellRow.holds Try.pinned (OpenSpec.ofChange selsTellWrong)

/-- 'gimletlaw8.SelsCover': WHATEVER THE INPUT: true; the input reads as it did. -/
def selsCoverSpec : ChangeSpec := { name := "selsCover", fn := fun _ => fun
  | [d1, d2] => { results := [.lit (.bool true)], args := [d1, d2] }
  | _ => none }
def selsCoverRow : OpenClaim := { program := "ytjkjgfgblfioeaa", sum := "cbe71a65b3f1657f2a846f86a291d148684f15a8d95d77b1f721cb212052f782", func := "gimlet/gimletlaw8.SelsCover", spec := "selsCover", unfollowed := true, recurses := true, apart := false }
def SelsCoverSaid : Prop := selsCoverRow.holds Try.pinned (OpenSpec.ofChange selsCoverSpec)

/-- ITS FALSE NEIGHBOUR: 'it returns false'. Refute it at one input. -/
def selsCoverWrong : ChangeSpec := { name := "selsCover", fn := fun _ => fun
  | [d1, d2] => { results := [.lit (.bool false)], args := [d1, d2] }
  | _ => none }
def SelsCoverWrongFalsely : Prop := selsCoverRow.holds Try.pinned (OpenSpec.ofChange selsCoverWrong)

/-- 'gimletlaw8.SelsBack': WHATEVER THE INPUT: true; the input reads as it did. -/
def selsBackSpec : ChangeSpec := { name := "selsBack", fn := fun _ => fun
  | [d1, d2] => { results := [.lit (.bool true)], args := [d1, d2] }
  | _ => none }
def selsBackRow : OpenClaim := { program := "ytjkjgfgblfioeaa", sum := "cbe71a65b3f1657f2a846f86a291d148684f15a8d95d77b1f721cb212052f782", func := "gimlet/gimletlaw8.SelsBack", spec := "selsBack", unfollowed := true, recurses := true, apart := false }
def SelsBackSaid : Prop := selsBackRow.holds Try.pinned (OpenSpec.ofChange selsBackSpec)

/-- ITS FALSE NEIGHBOUR: 'it returns false'. Refute it at one input. -/
def selsBackWrong : ChangeSpec := { name := "selsBack", fn := fun _ => fun
  | [d1, d2] => { results := [.lit (.bool false)], args := [d1, d2] }
  | _ => none }
def SelsBackWrongFalsely : Prop := selsBackRow.holds Try.pinned (OpenSpec.ofChange selsBackWrong)

/-- 'gimletlaw8.SelsTyped': WHATEVER THE INPUT: true; the input reads as it did. -/
def selsTypedSpec : ChangeSpec := { name := "selsTyped", fn := fun _ => fun
  | [d1, d2] => { results := [.lit (.bool true)], args := [d1, d2] }
  | _ => none }
def selsTypedRow : OpenClaim := { program := "ytjkjgfgblfioeaa", sum := "cbe71a65b3f1657f2a846f86a291d148684f15a8d95d77b1f721cb212052f782", func := "gimlet/gimletlaw8.SelsTyped", spec := "selsTyped", unfollowed := true, recurses := true, apart := false }
def SelsTypedSaid : Prop := selsTypedRow.holds Try.pinned (OpenSpec.ofChange selsTypedSpec)

/-- ITS FALSE NEIGHBOUR: 'it returns false'. Refute it at one input. -/
def selsTypedWrong : ChangeSpec := { name := "selsTyped", fn := fun _ => fun
  | [d1, d2] => { results := [.lit (.bool false)], args := [d1, d2] }
  | _ => none }
def SelsTypedWrongFalsely : Prop := selsTypedRow.holds Try.pinned (OpenSpec.ofChange selsTypedWrong)

/-- 'gimletlaw8.SelsCodes': WHATEVER THE INPUT: true; the input reads as it did. -/
def selsCodesSpec : ChangeSpec := { name := "selsCodes", fn := fun _ => fun
  | [d1, d2, d3] => { results := [.lit (.bool true)], args := [d1, d2, d3] }
  | _ => none }
def selsCodesRow : OpenClaim := { program := "ytjkjgfgblfioeaa", sum := "cbe71a65b3f1657f2a846f86a291d148684f15a8d95d77b1f721cb212052f782", func := "gimlet/gimletlaw8.SelsCodes", spec := "selsCodes", unfollowed := true, recurses := true, apart := false }
def SelsCodesSaid : Prop := selsCodesRow.holds Try.pinned (OpenSpec.ofChange selsCodesSpec)

/-- ITS FALSE NEIGHBOUR: 'it returns false'. Refute it at one input. -/
def selsCodesWrong : ChangeSpec := { name := "selsCodes", fn := fun _ => fun
  | [d1, d2, d3] => { results := [.lit (.bool false)], args := [d1, d2, d3] }
  | _ => none }
def SelsCodesWrongFalsely : Prop := selsCodesRow.holds Try.pinned (OpenSpec.ofChange selsCodesWrong)

/-- 'gimletlaw8.SelsAlong': WHATEVER THE INPUT: true; the input reads as it did. -/
def selsAlongSpec : ChangeSpec := { name := "selsAlong", fn := fun _ => fun
  | [d1, d2] => { results := [.lit (.bool true)], args := [d1, d2] }
  | _ => none }
def selsAlongRow : OpenClaim := { program := "ytjkjgfgblfioeaa", sum := "cbe71a65b3f1657f2a846f86a291d148684f15a8d95d77b1f721cb212052f782", func := "gimlet/gimletlaw8.SelsAlong", spec := "selsAlong", unfollowed := true, recurses := true, apart := false }
def SelsAlongSaid : Prop := selsAlongRow.holds Try.pinned (OpenSpec.ofChange selsAlongSpec)

/-- ITS FALSE NEIGHBOUR: 'it returns false'. Refute it at one input. -/
def selsAlongWrong : ChangeSpec := { name := "selsAlong", fn := fun _ => fun
  | [d1, d2] => { results := [.lit (.bool false)], args := [d1, d2] }
  | _ => none }
def SelsAlongWrongFalsely : Prop := selsAlongRow.holds Try.pinned (OpenSpec.ofChange selsAlongWrong)

/- THE SECOND FORM. 'bulk': how many values and letters a reading holds, each counted each time it is reached (what is shared counts as often as it is met; a slice's spare places count too). A statement '..UptoSaid' is the law's where the arguments, and the package variables that the reading takes, are together of bulk at most 1048576: NARROWER than '..Said'. Prove '..Said' where nothing that the law and all that it calls make is longer than what came in: it says more and counts as full. Else prove '..UptoSaid'. A law counts once. -/
mutual
def uptoBulk {H : Type} : DataW H → Nat
  | .lit (.string bytes) => bytes.length + 1
  | .lit _ => 1
  | .nil => 1
  | .ptr d => uptoBulk d + 1
  | .slice elems spare => uptoBulkAll elems + uptoBulkAll spare + 1
  | .agg parts => uptoBulkAll parts + 1
  | .iface _ d => uptoBulk d + 1
  | .map entries => uptoBulkEntries entries + 1
  | .held _ => 1
def uptoBulkAll {H : Type} : List (DataW H) → Nat
  | [] => 0
  | d :: r => uptoBulk d + uptoBulkAll r
def uptoBulkEntries {H : Type} : List (Lit × DataW H) → Nat
  | [] => 0
  | x :: r => uptoBulkEntry x + uptoBulkEntries r
def uptoBulkEntry {H : Type} : Lit × DataW H → Nat
  | (.string bytes, d) => bytes.length + uptoBulk d + 1
  | (_, d) => uptoBulk d + 1
 end
def uptoSmall : (H : Type) → List (DataW H) → Bool := fun _ ds => decide (uptoBulkAll ds ≤ 1048576)
def OpenSpec.upto (s : _root_.Go.ChangeSpec) : _root_.Go.OpenSpec := { _root_.Go.OpenSpec.ofChange s with cond := some uptoSmall }

/-- 'gimletlaw8.SelsTell', WHERE WHAT IT READS IS OF BULK AT MOST 1048576: true; the input reads as it did. -/
def selsTellUptoRow : OpenClaim := { program := "ytjkjgfgblfioeaa", sum := "cbe71a65b3f1657f2a846f86a291d148684f15a8d95d77b1f721cb212052f782", func := "gimlet/gimletlaw8.SelsTell", spec := "selsTell", unfollowed := true, recurses := true, apart := false, narrowed := true }
def SelsTellUptoSaid : Prop := selsTellUptoRow.holds Try.pinned (OpenSpec.upto selsTellSpec)

/-- 'gimletlaw8.SelsCover', WHERE WHAT IT READS IS OF BULK AT MOST 1048576: true; the input reads as it did. -/
def selsCoverUptoRow : OpenClaim := { program := "ytjkjgfgblfioeaa", sum := "cbe71a65b3f1657f2a846f86a291d148684f15a8d95d77b1f721cb212052f782", func := "gimlet/gimletlaw8.SelsCover", spec := "selsCover", unfollowed := true, recurses := true, apart := false, narrowed := true }
def SelsCoverUptoSaid : Prop := selsCoverUptoRow.holds Try.pinned (OpenSpec.upto selsCoverSpec)

/-- 'gimletlaw8.SelsBack', WHERE WHAT IT READS IS OF BULK AT MOST 1048576: true; the input reads as it did. -/
def selsBackUptoRow : OpenClaim := { program := "ytjkjgfgblfioeaa", sum := "cbe71a65b3f1657f2a846f86a291d148684f15a8d95d77b1f721cb212052f782", func := "gimlet/gimletlaw8.SelsBack", spec := "selsBack", unfollowed := true, recurses := true, apart := false, narrowed := true }
def SelsBackUptoSaid : Prop := selsBackUptoRow.holds Try.pinned (OpenSpec.upto selsBackSpec)

/-- 'gimletlaw8.SelsTyped', WHERE WHAT IT READS IS OF BULK AT MOST 1048576: true; the input reads as it did. -/
def selsTypedUptoRow : OpenClaim := { program := "ytjkjgfgblfioeaa", sum := "cbe71a65b3f1657f2a846f86a291d148684f15a8d95d77b1f721cb212052f782", func := "gimlet/gimletlaw8.SelsTyped", spec := "selsTyped", unfollowed := true, recurses := true, apart := false, narrowed := true }
def SelsTypedUptoSaid : Prop := selsTypedUptoRow.holds Try.pinned (OpenSpec.upto selsTypedSpec)

/-- 'gimletlaw8.SelsCodes', WHERE WHAT IT READS IS OF BULK AT MOST 1048576: true; the input reads as it did. -/
def selsCodesUptoRow : OpenClaim := { program := "ytjkjgfgblfioeaa", sum := "cbe71a65b3f1657f2a846f86a291d148684f15a8d95d77b1f721cb212052f782", func := "gimlet/gimletlaw8.SelsCodes", spec := "selsCodes", unfollowed := true, recurses := true, apart := false, narrowed := true }
def SelsCodesUptoSaid : Prop := selsCodesUptoRow.holds Try.pinned (OpenSpec.upto selsCodesSpec)

/-- 'gimletlaw8.SelsAlong', WHERE WHAT IT READS IS OF BULK AT MOST 1048576: true; the input reads as it did. -/
def selsAlongUptoRow : OpenClaim := { program := "ytjkjgfgblfioeaa", sum := "cbe71a65b3f1657f2a846f86a291d148684f15a8d95d77b1f721cb212052f782", func := "gimlet/gimletlaw8.SelsAlong", spec := "selsAlong", unfollowed := true, recurses := true, apart := false, narrowed := true }
def SelsAlongUptoSaid : Prop := selsAlongUptoRow.holds Try.pinned (OpenSpec.upto selsAlongSpec)

end Rows
end Go.Proofs.Ytjkjgfgblfioeaa
