/- Contracts: the reference's May and Has; Has; the named classes. No condition but short texts and slices. -/
import Derived.Test.YtcgphknnnjpbkaaRowH
namespace Go.Proofs.Ytcgphknnnjpbkaa
open Go.ChangeShapes Go.WideShapes Go.ChangeAt Go.RowKit
open SetM
attribute [local go_sem ↓] Go.wp_at_zero Go.wp_at_succ
attribute [local go_sem] later_cell later_frozen lt_bl le_bl
theorem rfolde_any (s X : ByteArray) (w : World) (hs : s.size ≤ 1000000) (hX : mapS downB s = X) :
    Calls Try.prog 102 #[.string s] w fun e w' => e = .returned (.string X) ∧ Below w.heap.size w w' := by
  subst hX; exact rfold_any s w hs
def hasF (l : List Rw) (no fold : Bool) (c : ByteArray) : Bool := (inB l c || (fold && (inB l (mapS downB c) || inB l (mapS upB c)))) != no
end Go.Proofs.Ytcgphknnnjpbkaa
