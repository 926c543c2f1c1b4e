/- Contract: gimletref13.bare. No condition. -/
import Derived.Test.YtmfaeonlmfejdaaRxH
namespace Go.Proofs.Ytmfaeonlmfejdaa
open Go.ChangeShapes Go.WideShapes Go.ChangeAt Go.RowKit
open SetM
attribute [local go_sem ↓] Go.wp_at_zero Go.wp_at_succ
set_option maxRecDepth 100000
set_option linter.unusedVariables false
def bareB (ch : ByteArray) (nt : Bool) (rl : Nat) (mi ma : Int) (lz : Bool) : Bool := decide (ch = ⟨#[]⟩) && !nt && decide (rl = 0) && decide (mi = 0) && decide (ma = 0) && !lz
set_option maxHeartbeats 4000000 in
theorem bare_any (k mi ma : Int) (ch : ByteArray) (nt lz : Bool) (RA A : Option Addr) (rl rc kl c : Nat) (r : Bool) (hr : bareB ch nt rl mi ma lz = r) (w : World) :
    Calls Try.prog 38 #[.agg #[.int .i64 k, .string ch, .bool nt, .slice RA rl rc, .int .i64 mi, .int .i64 ma, .bool lz, .slice A kl c]] w (SmPost r w) := by
  unfold SmPost
  unfold bareB at hr
  have HBA := hide (bl_alloc (bl_refl w) (.cells #[.int .i64 k, .string ch, .bool nt, .slice RA rl rc, .int .i64 mi, .int .i64 ma, .bool lz, .slice A kl c] 25))
  by_cases q0 : ch = ⟨#[]⟩
  case neg =>
    obtain rfl : r = false := by rw [← hr]; simp [q0]
    clear hr
    have z1 : (ch.toList == (⟨#[]⟩ : ByteArray).toList) = false := tleq _ _ _ (decide_eq_false q0)
    have z2 : (ch.toList == []) = false := by have h := z1; rw [show (⟨#[]⟩ : ByteArray).toList = [] by rw [Go.ByteArray.toList_eq]] at h; exact h
    have z3 : ¬ ch.toList = [] := fun e => by rw [e] at z2; cases z2
    clear q0
    go_enter Try.func38, Try.ntmps38
    go_wp2
    go_ret
    exact ⟨rfl, HBA.out⟩
  subst q0
  rcases nt with _ | _
  case true =>
    obtain rfl : r = false := by rw [← hr]; simp
    clear hr
    go_enter Try.func38, Try.ntmps38
    go_wp2
    go_ret
    exact ⟨rfl, HBA.out⟩
  by_cases q2 : rl = 0
  case neg =>
    obtain rfl : r = false := by rw [← hr]; simp [q2]
    clear hr
    have z1 : ((rl : Int) == 0) = false := beq_eq_false_iff_ne.2 (by omega)
    clear q2
    go_enter Try.func38, Try.ntmps38
    go_wp2
    go_ret
    exact ⟨rfl, HBA.out⟩
  subst q2
  by_cases q3 : mi = 0
  case neg =>
    obtain rfl : r = false := by rw [← hr]; simp [q3]
    clear hr
    have z1 : (mi == 0) = false := beq_eq_false_iff_ne.2 q3
    clear q3
    go_enter Try.func38, Try.ntmps38
    go_wp2
    go_ret
    exact ⟨rfl, HBA.out⟩
  subst q3
  by_cases q4 : ma = 0
  case neg =>
    obtain rfl : r = false := by rw [← hr]; simp [q4]
    clear hr
    have z1 : (ma == 0) = false := beq_eq_false_iff_ne.2 q4
    clear q4
    go_enter Try.func38, Try.ntmps38
    go_wp2
    go_ret
    exact ⟨rfl, HBA.out⟩
  subst q4
  rcases lz with _ | _
  case true =>
    obtain rfl : r = false := by rw [← hr]; simp
    clear hr
    go_enter Try.func38, Try.ntmps38
    go_wp2
    go_ret
    exact ⟨rfl, HBA.out⟩
  obtain rfl : r = true := by rw [← hr]; rfl
  clear hr
  go_enter Try.func38, Try.ntmps38
  go_wp2
  go_ret
  exact ⟨rfl, HBA.out⟩
end Go.Proofs.Ytmfaeonlmfejdaa
