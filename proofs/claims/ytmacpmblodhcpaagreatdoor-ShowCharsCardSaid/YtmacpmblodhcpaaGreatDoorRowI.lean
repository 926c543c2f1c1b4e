/- Contracts: the reference's May and Has; Has; the named classes. No condition but short texts and slices. -/
import Derived.Test.YtmacpmblodhcpaaGreatDoorRowH
namespace Go.Proofs.YtmacpmblodhcpaaGreatDoor
open Go.ChangeShapes Go.WideShapes Go.ChangeAt Go.RowKit
open SetM
attribute [local go_sem ↓] Go.wp_at_zero Go.wp_at_succ
attribute [local go_sem] later_cell later_frozen lt_bl le_bl
def hasF (l : List Rw) (no fold : Bool) (c : ByteArray) : Bool := (inB l c || (fold && (inB l (mapS downB c) || inB l (mapS upB c)))) != no
end Go.Proofs.YtmacpmblodhcpaaGreatDoor
