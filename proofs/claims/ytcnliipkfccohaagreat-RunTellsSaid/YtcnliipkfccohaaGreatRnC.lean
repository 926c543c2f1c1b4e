/- Two matches held against one another. Condition: at most 1000 parts. -/
import Derived.Test.YtcnliipkfccohaaGreatT1611
namespace Go.Proofs.YtcnliipkfccohaaGreat
open Go.ChangeShapes Go.WideShapes Go.ChangeAt Go.RowKit
open SetM SpanM
attribute [local go_sem ↓] Go.wp_at_zero Go.wp_at_succ
attribute [local go_sem] eqge_s4
attribute [local go_sem ↓] eql_s4
set_option maxRecDepth 100000
set_option linter.unusedVariables false
theorem low_rC (x m : Int) (n r : Nat) (w : World) (hm : (n : Int) = m) (hn : 0 < n) (hn' : n < 1000000000) (hr : lowN x n = r) : Calls Tryz.prog 18 #[.int .i64 x, .int .i64 m] w fun e w' => e = .returned (.int .i64 ((r : Nat) : Int)) ∧ w = w' := by
  subst hm hr; exact low_any x n w hn hn'
set_option maxHeartbeats 4000000 in
theorem same16_any (a b : Int) (p : List Sp) (A A' : Option Addr) (c c' : Nat) (w : World) (h : SpAt w (.slice A p.length c) p) (g : SpAt w (.slice A' p.length c') p) (hl : p.length ≤ 1000) : Calls Tryz.prog 21 #[.agg #[.int .i64 a, .int .i64 b, .slice A p.length c], .agg #[.int .i64 a, .int .i64 b, .slice A' p.length c']] w fun e w' => e = .returned (.bool true) ∧ Below w.heap.size w w' := by
  have HB := hide (bl_alloc (bl_alloc (bl_refl w) (.cells #[.int .i64 a, .int .i64 b, .slice A p.length c] 32)) (.cells #[.int .i64 a, .int .i64 b, .slice A' p.length c'] 36))
  have HSP := hide (spans_any _ _ p p _ (spat_below h HB.out) (spat_below g HB.out) hl hl)
  rw [show decide (p = p) = true by simp] at HSP
  clear h g hl
  go_enter Tryz.func21, Tryz.ntmps21
  go_wp2_with fail
  refine HSP.out.mono ?_
  rintro e w8 ⟨rfl, dn, rfl⟩
  go_wp2
  go_ret
  exact ⟨rfl, bl_drewN HB.out dn⟩
end Go.Proofs.YtcnliipkfccohaaGreat
