/- Contract of gimletlaw0.Low: a number from 0 to below n. -/
import Derived.Test.YtmacpmblodhcpaaGreatDoorRows
import Derived.Test.YtmacpmblodhcpaaGreatDoorBase
namespace Go.Proofs.YtmacpmblodhcpaaGreatDoor
open Go.ChangeShapes Go.WideShapes Go.ChangeAt Go.RowKit

/-- uint(x) % uint(n). -/
def lowN (x : Int) (n : Nat) : Nat := ((IntKind.u64.wrap x).tmod n).toNat
theorem u64_nonneg (x : Int) : 0 ≤ IntKind.u64.wrap x := by
  rw [IntKind.wrap_u64]; omega
theorem lowN_eq (x : Int) (n : Nat) : (IntKind.u64.wrap x).tmod n = (lowN x n : Int) := by
  unfold lowN
  have := Int.tmod_nonneg (n : Int) (u64_nonneg x)
  omega
theorem lowN_lt (x : Int) (n : Nat) (hn : 0 < n) : lowN x n < n := by
  have h := Int.tmod_lt_of_pos (IntKind.u64.wrap x) (b := (n : Int)) (by omega)
  rw [lowN_eq] at h
  omega
end Go.Proofs.YtmacpmblodhcpaaGreatDoor
