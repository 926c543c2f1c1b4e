/- Contracts of the small functions on stretches. No condition. -/
import Derived.Test.YtjcmbnmejkhcjaaGreatSpanA
import Derived.Deep.RegionWith
namespace Go.Proofs.YtjcmbnmejkhcjaaGreat
open Go.ChangeShapes Go.WideShapes Go.ChangeAt Go.RowKit
open SpanM
def mayB (s : Sp) (n : Int) : Bool := decide (0 ≤ s.1 ∧ s.1 ≤ s.2 ∧ s.2 ≤ n)
def hasB (s : Sp) (x : Int) : Bool := decide (s.1 ≤ x ∧ x ≤ s.2)
def withinB (a b : Sp) : Bool := decide (b.1 ≤ a.1 ∧ a.2 ≤ b.2)
def overB (a b : Sp) : Bool := decide (max a.1 b.1 < min a.2 b.2)
theorem touch_d (a b : Sp) : touch a b = decide (max a.1 b.1 ≤ min a.2 b.2) := rfl
theorem less_d (a b : Sp) : less a b = decide (a.1 < b.1 ∨ (a.1 = b.1 ∧ a.2 < b.2)) := by unfold less; simp
set_option maxRecDepth 100000 in
set_option maxHeartbeats 400000 in
theorem touch_any (a b : Sp) (w : World) : Calls Tryz.prog 57 #[.agg #[.int .i64 a.1, .int .i64 a.2], .agg #[.int .i64 b.1, .int .i64 b.2]] w fun e w' => e = .returned (.bool (touch a b)) ∧ Below w.heap.size w w' := by
  obtain ⟨a1, a2⟩ := a
  obtain ⟨b1, b2⟩ := b
  have HE := hide (touch_d (a1, a2) (b1, b2))
  generalize touch (a1, a2) (b1, b2) = r at *
  try simp only at HE
  go_enter Tryz.func57, Tryz.ntmps57
  go_wp2
  all_goals
    go_ret
    exact ⟨ret_bool (by rw [HE.out, Bool.eq_iff_iff]; first | (simp; done) | (simp; omega) | omega), (by repeat (first | exact bl_refl _ | assumption | refine bl_alloc ?_ _ | refine bl_drewN ?_ _ | refine bl_drew ?_ | refine bl_trans ?_ (by assumption)))⟩
set_option maxRecDepth 100000 in
set_option maxHeartbeats 400000 in
theorem may_any (a : Sp) (n : Int) (w : World) : Calls Tryz.prog 25 #[.agg #[.int .i64 a.1, .int .i64 a.2], .int .i64 n] w fun e w' => e = .returned (.bool (mayB a n)) ∧ Below w.heap.size w w' := by
  obtain ⟨a1, a2⟩ := a
  have HE := hide (show mayB (a1, a2) n = decide (0 ≤ a1 ∧ a1 ≤ a2 ∧ a2 ≤ n) from rfl)
  generalize mayB (a1, a2) n = r at *
  try simp only at HE
  go_enter Tryz.func25, Tryz.ntmps25
  go_wp2
  all_goals
    go_ret
    exact ⟨ret_bool (by rw [HE.out, Bool.eq_iff_iff]; first | (simp; done) | (simp; omega) | omega), (by repeat (first | exact bl_refl _ | assumption | refine bl_alloc ?_ _ | refine bl_drewN ?_ _ | refine bl_drew ?_ | refine bl_trans ?_ (by assumption)))⟩
set_option maxRecDepth 100000 in
set_option maxHeartbeats 400000 in
theorem rtouch_any (a b : Sp) (w : World) : Calls Tryz.prog 68 #[.agg #[.int .i64 a.1, .int .i64 a.2], .agg #[.int .i64 b.1, .int .i64 b.2]] w fun e w' => e = .returned (.bool (touch a b)) ∧ Below w.heap.size w w' := by
  obtain ⟨a1, a2⟩ := a
  obtain ⟨b1, b2⟩ := b
  have HE := hide (touch_d (a1, a2) (b1, b2))
  generalize touch (a1, a2) (b1, b2) = r at *
  try simp only at HE
  go_enter Tryz.func68, Tryz.ntmps68
  go_wp2
  all_goals
    go_ret
    exact ⟨ret_bool (by rw [HE.out, Bool.eq_iff_iff]; first | (simp; done) | (simp; omega) | omega), (by repeat (first | exact bl_refl _ | assumption | refine bl_alloc ?_ _ | refine bl_drewN ?_ _ | refine bl_drew ?_ | refine bl_trans ?_ (by assumption)))⟩
set_option maxRecDepth 100000 in
set_option maxHeartbeats 400000 in
theorem rmay_any (a : Sp) (n : Int) (w : World) : Calls Tryz.prog 38 #[.agg #[.int .i64 a.1, .int .i64 a.2], .int .i64 n] w fun e w' => e = .returned (.bool (mayB a n)) ∧ Below w.heap.size w w' := by
  obtain ⟨a1, a2⟩ := a
  have HE := hide (show mayB (a1, a2) n = decide (0 ≤ a1 ∧ a1 ≤ a2 ∧ a2 ≤ n) from rfl)
  generalize mayB (a1, a2) n = r at *
  try simp only at HE
  go_enter Tryz.func38, Tryz.ntmps38
  go_wp2
  all_goals
    go_ret
    exact ⟨ret_bool (by rw [HE.out, Bool.eq_iff_iff]; first | (simp; done) | (simp; omega) | omega), (by repeat (first | exact bl_refl _ | assumption | refine bl_alloc ?_ _ | refine bl_drewN ?_ _ | refine bl_drew ?_ | refine bl_trans ?_ (by assumption)))⟩
set_option maxRecDepth 100000 in
set_option maxHeartbeats 400000 in
theorem less_any (a b : Sp) (w : World) : Calls Tryz.prog 67 #[.agg #[.int .i64 a.1, .int .i64 a.2], .agg #[.int .i64 b.1, .int .i64 b.2]] w fun e w' => e = .returned (.bool (less a b)) ∧ Below w.heap.size w w' := by
  obtain ⟨a1, a2⟩ := a
  obtain ⟨b1, b2⟩ := b
  have HE := hide (less_d (a1, a2) (b1, b2))
  generalize less (a1, a2) (b1, b2) = r at *
  try simp only at HE
  go_enter Tryz.func67, Tryz.ntmps67
  go_wp2
  all_goals
    go_ret
    exact ⟨ret_bool (by rw [HE.out, Bool.eq_iff_iff]; first | (simp; done) | (simp; omega) | omega), (by repeat (first | exact bl_refl _ | assumption | refine bl_alloc ?_ _ | refine bl_drewN ?_ _ | refine bl_drew ?_ | refine bl_trans ?_ (by assumption)))⟩
end Go.Proofs.YtjcmbnmejkhcjaaGreat
