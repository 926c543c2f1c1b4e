/- Contracts of the small functions on stretches. No condition. -/
import Derived.Test.YtodnnhhlpinpbaaSpanA
import Derived.Deep.RegionWith
namespace Go.Proofs.Ytodnnhhlpinpbaa
open Go.ChangeShapes Go.WideShapes Go.ChangeAt Go.RowKit
open SpanM
def mayB (s : Sp) (n : Int) : Bool := decide (0 ≤ s.1 ∧ s.1 ≤ s.2 ∧ s.2 ≤ n)
def hasB (s : Sp) (x : Int) : Bool := decide (s.1 ≤ x ∧ x ≤ s.2)
def withinB (a b : Sp) : Bool := decide (b.1 ≤ a.1 ∧ a.2 ≤ b.2)
def overB (a b : Sp) : Bool := decide (max a.1 b.1 < min a.2 b.2)
theorem touch_d (a b : Sp) : touch a b = decide (max a.1 b.1 ≤ min a.2 b.2) := rfl
theorem less_d (a b : Sp) : less a b = decide (a.1 < b.1 ∨ (a.1 = b.1 ∧ a.2 < b.2)) := by unfold less; simp
end Go.Proofs.Ytodnnhhlpinpbaa
