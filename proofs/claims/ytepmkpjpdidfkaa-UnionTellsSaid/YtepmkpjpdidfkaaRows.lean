/-
  No cell of these rows narrows 'for every input' (looked for: loops, veiled, ifaces, maps, wideKeys, modest, calm, conditions, laid).
  DERIVED. THE GIVEN ROWS OF THIS SEAT. 8 by the template 'for every input the law returns true; each argument reads behind the call as it read before'; 0 by the template 'total and deterministic' (their statements: YtepmkpjpdidfkaaTotals.lean).
  GIVEN WITH THE SEED: the statements are not yours to turn. If you find one false, say at which input.
  Laid BY PROGRAM, IN A SANDBOX (cutbox-rows.mjs): the forced cells as the released guide's own fill.sh prints them over the translation 8c1b58568341e301… (all of the seat's roots in one cut). By AI agents, Wed Nov 11 2026. No macro, syntax, notation, axiom, sorry.
-/
import Derived.Test.YtepmkpjpdidfkaaChecked
import GoSem.Claim
import GoSem.ClaimJoined
import GoSem.ClaimMapViews
import Derived.JoinedTies
import Derived.KernelRfl
namespace Go.Proofs.Ytepmkpjpdidfkaa
/- THE CELL 'sum', in the pinned program and in every row, IS THE sha256 OF THE DUMP (.gsa) THAT YtepmkpjpdidfkaaProg.lean LOADS. Nothing in Lean hashes anything: it is a label: what it is worth is what the hold of that sum in a sandbox is worth. -/
noncomputable def Try.pinned : Pinned := { name := "ytepmkpjpdidfkaa", sum := "8c1b58568341e301f75e535698051ad0c2ac2cfc800cec6b6154238cfe9b6f73", checked := Try.checked }
namespace Rows
def none {H : Type} : Left H := { results := [], args := [] }

/-- 'gimletlaw5.SpanTells': WHATEVER THE INPUT: true; the input reads as it did. -/
def spanTellsSpec : ChangeSpec := { name := "spanTells", fn := fun _ => fun
  | [d1, d2, d3, d4] => { results := [.lit (.bool true)], args := [d1, d2, d3, d4] }
  | _ => none }
def spanTellsRow : OpenClaim := { program := "ytepmkpjpdidfkaa", sum := "8c1b58568341e301f75e535698051ad0c2ac2cfc800cec6b6154238cfe9b6f73", func := "gimlet/gimletlaw5.SpanTells", spec := "spanTells", unfollowed := true, recurses := true, apart := false }
def SpanTellsSaid : Prop := spanTellsRow.holds Try.pinned (OpenSpec.ofChange spanTellsSpec)

/-- ITS FALSE NEIGHBOUR: 'it returns false'. Refute it at one input. -/
def spanTellsWrong : ChangeSpec := { name := "spanTells", fn := fun _ => fun
  | [d1, d2, d3, d4] => { results := [.lit (.bool false)], args := [d1, d2, d3, d4] }
  | _ => none }
def SpanTellsWrongFalsely : Prop := spanTellsRow.holds Try.pinned (OpenSpec.ofChange spanTellsWrong)

/-- 'gimletlaw5.SpanAgree': WHATEVER THE INPUT: true; the input reads as it did. -/
def spanAgreeSpec : ChangeSpec := { name := "spanAgree", fn := fun _ => fun
  | [d1, d2, d3] => { results := [.lit (.bool true)], args := [d1, d2, d3] }
  | _ => none }
def spanAgreeRow : OpenClaim := { program := "ytepmkpjpdidfkaa", sum := "8c1b58568341e301f75e535698051ad0c2ac2cfc800cec6b6154238cfe9b6f73", func := "gimlet/gimletlaw5.SpanAgree", spec := "spanAgree", unfollowed := true, recurses := true, apart := false }
def SpanAgreeSaid : Prop := spanAgreeRow.holds Try.pinned (OpenSpec.ofChange spanAgreeSpec)

/-- ITS FALSE NEIGHBOUR: 'it returns false'. Refute it at one input. -/
def spanAgreeWrong : ChangeSpec := { name := "spanAgree", fn := fun _ => fun
  | [d1, d2, d3] => { results := [.lit (.bool false)], args := [d1, d2, d3] }
  | _ => none }
def SpanAgreeWrongFalsely : Prop := spanAgreeRow.holds Try.pinned (OpenSpec.ofChange spanAgreeWrong)

/-- 'gimletlaw5.UnionTells': WHATEVER THE INPUT: true; the input reads as it did. -/
def unionTellsSpec : ChangeSpec := { name := "unionTells", fn := fun _ => fun
  | [d] => { results := [.lit (.bool true)], args := [d] }
  | _ => none }
def unionTellsRow : OpenClaim := { program := "ytepmkpjpdidfkaa", sum := "8c1b58568341e301f75e535698051ad0c2ac2cfc800cec6b6154238cfe9b6f73", func := "gimlet/gimletlaw5.UnionTells", spec := "unionTells", unfollowed := true, recurses := true, apart := false }
def UnionTellsSaid : Prop := unionTellsRow.holds Try.pinned (OpenSpec.ofChange unionTellsSpec)

/-- ITS FALSE NEIGHBOUR: 'it returns false'. Refute it at one input. -/
def unionTellsWrong : ChangeSpec := { name := "unionTells", fn := fun _ => fun
  | [d] => { results := [.lit (.bool false)], args := [d] }
  | _ => none }
def UnionTellsWrongFalsely : Prop := unionTellsRow.holds Try.pinned (OpenSpec.ofChange unionTellsWrong)

/-- 'gimletlaw5.UnionCovers': WHATEVER THE INPUT: true; the input reads as it did. -/
def unionCoversSpec : ChangeSpec := { name := "unionCovers", fn := fun _ => fun
  | [d1, d2] => { results := [.lit (.bool true)], args := [d1, d2] }
  | _ => none }
def unionCoversRow : OpenClaim := { program := "ytepmkpjpdidfkaa", sum := "8c1b58568341e301f75e535698051ad0c2ac2cfc800cec6b6154238cfe9b6f73", func := "gimlet/gimletlaw5.UnionCovers", spec := "unionCovers", unfollowed := true, recurses := true, apart := false }
def UnionCoversSaid : Prop := unionCoversRow.holds Try.pinned (OpenSpec.ofChange unionCoversSpec)

/-- ITS FALSE NEIGHBOUR: 'it returns false'. Refute it at one input. -/
def unionCoversWrong : ChangeSpec := { name := "unionCovers", fn := fun _ => fun
  | [d1, d2] => { results := [.lit (.bool false)], args := [d1, d2] }
  | _ => none }
def UnionCoversWrongFalsely : Prop := unionCoversRow.holds Try.pinned (OpenSpec.ofChange unionCoversWrong)

/-- 'gimletlaw5.UnionOrder': WHATEVER THE INPUT: true; the input reads as it did. -/
def unionOrderSpec : ChangeSpec := { name := "unionOrder", fn := fun _ => fun
  | [d] => { results := [.lit (.bool true)], args := [d] }
  | _ => none }
def unionOrderRow : OpenClaim := { program := "ytepmkpjpdidfkaa", sum := "8c1b58568341e301f75e535698051ad0c2ac2cfc800cec6b6154238cfe9b6f73", func := "gimlet/gimletlaw5.UnionOrder", spec := "unionOrder", unfollowed := true, recurses := true, apart := false }
def UnionOrderSaid : Prop := unionOrderRow.holds Try.pinned (OpenSpec.ofChange unionOrderSpec)

/-- ITS FALSE NEIGHBOUR: 'it returns false'. Refute it at one input. -/
def unionOrderWrong : ChangeSpec := { name := "unionOrder", fn := fun _ => fun
  | [d] => { results := [.lit (.bool false)], args := [d] }
  | _ => none }
def UnionOrderWrongFalsely : Prop := unionOrderRow.holds Try.pinned (OpenSpec.ofChange unionOrderWrong)

/-- 'gimletlaw5.ApartTells': WHATEVER THE INPUT: true; the input reads as it did. -/
def apartTellsSpec : ChangeSpec := { name := "apartTells", fn := fun _ => fun
  | [d1, d2] => { results := [.lit (.bool true)], args := [d1, d2] }
  | _ => none }
def apartTellsRow : OpenClaim := { program := "ytepmkpjpdidfkaa", sum := "8c1b58568341e301f75e535698051ad0c2ac2cfc800cec6b6154238cfe9b6f73", func := "gimlet/gimletlaw5.ApartTells", spec := "apartTells", unfollowed := true, recurses := true, apart := false }
def ApartTellsSaid : Prop := apartTellsRow.holds Try.pinned (OpenSpec.ofChange apartTellsSpec)

/-- ITS FALSE NEIGHBOUR: 'it returns false'. Refute it at one input. -/
def apartTellsWrong : ChangeSpec := { name := "apartTells", fn := fun _ => fun
  | [d1, d2] => { results := [.lit (.bool false)], args := [d1, d2] }
  | _ => none }
def ApartTellsWrongFalsely : Prop := apartTellsRow.holds Try.pinned (OpenSpec.ofChange apartTellsWrong)

/-- 'gimletlaw5.ApartPairs': WHATEVER THE INPUT: true; the input reads as it did. -/
def apartPairsSpec : ChangeSpec := { name := "apartPairs", fn := fun _ => fun
  | [d] => { results := [.lit (.bool true)], args := [d] }
  | _ => none }
def apartPairsRow : OpenClaim := { program := "ytepmkpjpdidfkaa", sum := "8c1b58568341e301f75e535698051ad0c2ac2cfc800cec6b6154238cfe9b6f73", func := "gimlet/gimletlaw5.ApartPairs", spec := "apartPairs", unfollowed := true, recurses := true, apart := false }
def ApartPairsSaid : Prop := apartPairsRow.holds Try.pinned (OpenSpec.ofChange apartPairsSpec)

/-- ITS FALSE NEIGHBOUR: 'it returns false'. Refute it at one input. -/
def apartPairsWrong : ChangeSpec := { name := "apartPairs", fn := fun _ => fun
  | [d] => { results := [.lit (.bool false)], args := [d] }
  | _ => none }
def ApartPairsWrongFalsely : Prop := apartPairsRow.holds Try.pinned (OpenSpec.ofChange apartPairsWrong)

/-- 'gimletlaw5.UnionAdds': WHATEVER THE INPUT: true; the input reads as it did. -/
def unionAddsSpec : ChangeSpec := { name := "unionAdds", fn := fun _ => fun
  | [d1, d2] => { results := [.lit (.bool true)], args := [d1, d2] }
  | _ => none }
def unionAddsRow : OpenClaim := { program := "ytepmkpjpdidfkaa", sum := "8c1b58568341e301f75e535698051ad0c2ac2cfc800cec6b6154238cfe9b6f73", func := "gimlet/gimletlaw5.UnionAdds", spec := "unionAdds", unfollowed := true, recurses := true, apart := false }
def UnionAddsSaid : Prop := unionAddsRow.holds Try.pinned (OpenSpec.ofChange unionAddsSpec)

/-- ITS FALSE NEIGHBOUR: 'it returns false'. Refute it at one input. -/
def unionAddsWrong : ChangeSpec := { name := "unionAdds", fn := fun _ => fun
  | [d1, d2] => { results := [.lit (.bool false)], args := [d1, d2] }
  | _ => none }
def UnionAddsWrongFalsely : Prop := unionAddsRow.holds Try.pinned (OpenSpec.ofChange unionAddsWrong)

/- THE SECOND FORM. 'bulk': how many values and letters a reading holds, each counted each time it is reached (what is shared counts as often as it is met; a slice's spare places count too). A statement '..UptoSaid' is the law's where the arguments, and the package variables that the reading takes, are together of bulk at most 1048576: NARROWER than '..Said'. Prove '..Said' where nothing that the law and all that it calls make is longer than what came in: it says more and counts as full. Else prove '..UptoSaid'. A law counts once. -/
mutual
def uptoBulk {H : Type} : DataW H → Nat
  | .lit (.string bytes) => bytes.length + 1
  | .lit _ => 1
  | .nil => 1
  | .ptr d => uptoBulk d + 1
  | .slice elems spare => uptoBulkAll elems + uptoBulkAll spare + 1
  | .agg parts => uptoBulkAll parts + 1
  | .iface _ d => uptoBulk d + 1
  | .map entries => uptoBulkEntries entries + 1
  | .held _ => 1
def uptoBulkAll {H : Type} : List (DataW H) → Nat
  | [] => 0
  | d :: r => uptoBulk d + uptoBulkAll r
def uptoBulkEntries {H : Type} : List (Lit × DataW H) → Nat
  | [] => 0
  | x :: r => uptoBulkEntry x + uptoBulkEntries r
def uptoBulkEntry {H : Type} : Lit × DataW H → Nat
  | (.string bytes, d) => bytes.length + uptoBulk d + 1
  | (_, d) => uptoBulk d + 1
 end
def uptoSmall : (H : Type) → List (DataW H) → Bool := fun _ ds => decide (uptoBulkAll ds ≤ 1048576)
def OpenSpec.upto (s : _root_.Go.ChangeSpec) : _root_.Go.OpenSpec := { _root_.Go.OpenSpec.ofChange s with cond := some uptoSmall }

/-- 'gimletlaw5.SpanTells', WHERE WHAT IT READS IS OF BULK AT MOST 1048576: true; the input reads as it did. -/
def spanTellsUptoRow : OpenClaim := { program := "ytepmkpjpdidfkaa", sum := "8c1b58568341e301f75e535698051ad0c2ac2cfc800cec6b6154238cfe9b6f73", func := "gimlet/gimletlaw5.SpanTells", spec := "spanTells", unfollowed := true, recurses := true, apart := false, narrowed := true }
def SpanTellsUptoSaid : Prop := spanTellsUptoRow.holds Try.pinned (OpenSpec.upto spanTellsSpec)

/-- 'gimletlaw5.SpanAgree', WHERE WHAT IT READS IS OF BULK AT MOST 1048576: true; the input reads as it did. -/
def spanAgreeUptoRow : OpenClaim := { program := "ytepmkpjpdidfkaa", sum := "8c1b58568341e301f75e535698051ad0c2ac2cfc800cec6b6154238cfe9b6f73", func := "gimlet/gimletlaw5.SpanAgree", spec := "spanAgree", unfollowed := true, recurses := true, apart := false, narrowed := true }
def SpanAgreeUptoSaid : Prop := spanAgreeUptoRow.holds Try.pinned (OpenSpec.upto spanAgreeSpec)

/-- 'gimletlaw5.UnionTells', WHERE WHAT IT READS IS OF BULK AT MOST 1048576: true; the input reads as it did. -/
def unionTellsUptoRow : OpenClaim := { program := "ytepmkpjpdidfkaa", sum := "8c1b58568341e301f75e535698051ad0c2ac2cfc800cec6b6154238cfe9b6f73", func := "gimlet/gimletlaw5.UnionTells", spec := "unionTells", unfollowed := true, recurses := true, apart := false, narrowed := true }
def UnionTellsUptoSaid : Prop := unionTellsUptoRow.holds Try.pinned (OpenSpec.upto unionTellsSpec)

/-- 'gimletlaw5.UnionCovers', WHERE WHAT IT READS IS OF BULK AT MOST 1048576: true; the input reads as it did. -/
def unionCoversUptoRow : OpenClaim := { program := "ytepmkpjpdidfkaa", sum := "8c1b58568341e301f75e535698051ad0c2ac2cfc800cec6b6154238cfe9b6f73", func := "gimlet/gimletlaw5.UnionCovers", spec := "unionCovers", unfollowed := true, recurses := true, apart := false, narrowed := true }
def UnionCoversUptoSaid : Prop := unionCoversUptoRow.holds Try.pinned (OpenSpec.upto unionCoversSpec)

/-- 'gimletlaw5.UnionOrder', WHERE WHAT IT READS IS OF BULK AT MOST 1048576: true; the input reads as it did. -/
def unionOrderUptoRow : OpenClaim := { program := "ytepmkpjpdidfkaa", sum := "8c1b58568341e301f75e535698051ad0c2ac2cfc800cec6b6154238cfe9b6f73", func := "gimlet/gimletlaw5.UnionOrder", spec := "unionOrder", unfollowed := true, recurses := true, apart := false, narrowed := true }
def UnionOrderUptoSaid : Prop := unionOrderUptoRow.holds Try.pinned (OpenSpec.upto unionOrderSpec)

/-- 'gimletlaw5.ApartTells', WHERE WHAT IT READS IS OF BULK AT MOST 1048576: true; the input reads as it did. -/
def apartTellsUptoRow : OpenClaim := { program := "ytepmkpjpdidfkaa", sum := "8c1b58568341e301f75e535698051ad0c2ac2cfc800cec6b6154238cfe9b6f73", func := "gimlet/gimletlaw5.ApartTells", spec := "apartTells", unfollowed := true, recurses := true, apart := false, narrowed := true }
def ApartTellsUptoSaid : Prop := apartTellsUptoRow.holds Try.pinned (OpenSpec.upto apartTellsSpec)

/-- 'gimletlaw5.ApartPairs', WHERE WHAT IT READS IS OF BULK AT MOST 1048576: true; the input reads as it did. -/
def apartPairsUptoRow : OpenClaim := { program := "ytepmkpjpdidfkaa", sum := "8c1b58568341e301f75e535698051ad0c2ac2cfc800cec6b6154238cfe9b6f73", func := "gimlet/gimletlaw5.ApartPairs", spec := "apartPairs", unfollowed := true, recurses := true, apart := false, narrowed := true }
def ApartPairsUptoSaid : Prop := apartPairsUptoRow.holds Try.pinned (OpenSpec.upto apartPairsSpec)

/-- 'gimletlaw5.UnionAdds', WHERE WHAT IT READS IS OF BULK AT MOST 1048576: true; the input reads as it did. -/
def unionAddsUptoRow : OpenClaim := { program := "ytepmkpjpdidfkaa", sum := "8c1b58568341e301f75e535698051ad0c2ac2cfc800cec6b6154238cfe9b6f73", func := "gimlet/gimletlaw5.UnionAdds", spec := "unionAdds", unfollowed := true, recurses := true, apart := false, narrowed := true }
def UnionAddsUptoSaid : Prop := unionAddsUptoRow.holds Try.pinned (OpenSpec.upto unionAddsSpec)

end Rows
end Go.Proofs.Ytepmkpjpdidfkaa
