/- Contracts of the small functions on stretches. No condition. -/
import Derived.Test.YtmjadcjpgcbalaaDoorSpanA
import Derived.Deep.RegionWith
namespace Go.Proofs.YtmjadcjpgcbalaaDoor
open Go.ChangeShapes Go.WideShapes Go.ChangeAt Go.RowKit
open SpanM
def mayB (s : Sp) (n : Int) : Bool := decide (0 ≤ s.1 ∧ s.1 ≤ s.2 ∧ s.2 ≤ n)
def hasB (s : Sp) (x : Int) : Bool := decide (s.1 ≤ x ∧ x ≤ s.2)
def withinB (a b : Sp) : Bool := decide (b.1 ≤ a.1 ∧ a.2 ≤ b.2)
def overB (a b : Sp) : Bool := decide (max a.1 b.1 < min a.2 b.2)
theorem touch_d (a b : Sp) : touch a b = decide (max a.1 b.1 ≤ min a.2 b.2) := rfl
theorem less_d (a b : Sp) : less a b = decide (a.1 < b.1 ∨ (a.1 = b.1 ∧ a.2 < b.2)) := by unfold less; simp
set_option maxRecDepth 100000 in
set_option maxHeartbeats 400000 in
theorem may_any (a : Sp) (n : Int) (w : World) : Calls Tryd.prog 38 #[.agg #[.int .i64 a.1, .int .i64 a.2], .int .i64 n] w fun e w' => e = .returned (.bool (mayB a n)) ∧ Below w.heap.size w w' := by
  obtain ⟨a1, a2⟩ := a
  have HE := hide (show mayB (a1, a2) n = decide (0 ≤ a1 ∧ a1 ≤ a2 ∧ a2 ≤ n) from rfl)
  generalize mayB (a1, a2) n = r at *
  try simp only at HE
  go_enter Tryd.func38, Tryd.ntmps38
  go_wp2
  all_goals
    go_ret
    exact ⟨ret_bool (by rw [HE.out, Bool.eq_iff_iff]; first | (simp; done) | (simp; omega) | omega), (by repeat (first | exact bl_refl _ | assumption | refine bl_alloc ?_ _ | refine bl_drewN ?_ _ | refine bl_drew ?_ | refine bl_trans ?_ (by assumption)))⟩
end Go.Proofs.YtmjadcjpgcbalaaDoor
