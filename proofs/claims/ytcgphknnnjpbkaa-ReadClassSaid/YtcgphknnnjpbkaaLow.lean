/- Contract of gimletlaw0.Low: a number from 0 to below n. -/
import Derived.Test.YtcgphknnnjpbkaaRows
import Derived.Test.YtcgphknnnjpbkaaBase
namespace Go.Proofs.Ytcgphknnnjpbkaa
open Go.ChangeShapes Go.WideShapes Go.ChangeAt Go.RowKit

/-- uint(x) % uint(n). -/
def lowN (x : Int) (n : Nat) : Nat := ((IntKind.u64.wrap x).tmod n).toNat
theorem u64_nonneg (x : Int) : 0 ≤ IntKind.u64.wrap x := by
  rw [IntKind.wrap_u64]; omega
theorem lowN_eq (x : Int) (n : Nat) : (IntKind.u64.wrap x).tmod n = (lowN x n : Int) := by
  unfold lowN
  have := Int.tmod_nonneg (n : Int) (u64_nonneg x)
  omega
theorem lowN_lt (x : Int) (n : Nat) (hn : 0 < n) : lowN x n < n := by
  have h := Int.tmod_lt_of_pos (IntKind.u64.wrap x) (b := (n : Int)) (by omega)
  rw [lowN_eq] at h
  omega
set_option maxHeartbeats 400000 in
theorem low_any (x : Int) (n : Nat) (w : World) (hn : 0 < n) (hn' : n < 1000000000) :
    Calls Try.prog 21 #[.int .i64 x, .int .i64 n] w fun e w' => e = .returned (.int .i64 (lowN x n)) ∧ w = w' := by
  have hlt := lowN_lt x n hn
  have he := hide (lowN_eq x n)
  go_enter Try.func21, Try.ntmps21
  go_wp2
  go_ret
  refine ⟨ret_int ?_, rfl⟩
  rw [he.out]; unfold wrap64; omega
end Go.Proofs.Ytcgphknnnjpbkaa
