/- Lines of a nil rope. No condition. -/
import Derived.Test.YtjjbpaaionpjeaaLinG
namespace Go.Proofs.Ytjjbpaaionpjeaa
open Go.ChangeShapes Go.WideShapes Go.ChangeAt Go.RowKit
attribute [local go_sem ↓] Go.wp_at_zero Go.wp_at_succ
attribute [local go_sem] later_cell later_frozen
set_option maxRecDepth 100000
set_option linter.unusedVariables false
theorem nl_c0 (w : World) : (w.alloc (.cells #[.pointer none] 25)).cell? ⟨w.heap.size, 0, none⟩ = some (.pointer none) := cells_lit w _ _ 0 _ rfl
theorem nl_b0 (w : World) : Below w.heap.size w (w.alloc (.cells #[.pointer none] 25)) := bl_alloc (bl_refl w) _
set_option maxHeartbeats 4000000 in
theorem many_n (w : World) : Calls Try.prog 21 #[.agg #[.pointer none]] w fun e w' => e = .returned (.int .i64 0) ∧ Below w.heap.size w w' := by
  go_enter Try.func21, Try.ntmps21
  go_wp2
  go_region_with (first
    | (go_at_call 33; refine (rlen_nil _).mono ?_; rintro e w1 ⟨rfl, rfl⟩)
    | (go_at_call 38; refine (rcount_nil _ _).mono ?_; rintro e w2 ⟨rfl, hb2⟩; obtain ⟨u, rfl⟩ : ∃ u : Later _, w2 = u.now := ⟨⟨w2, hb2⟩, rfl⟩)
    | fail)
  all_goals
    go_wp2
    go_ret
    refine ⟨rfl, ?_⟩
    repeat (first | exact bl_refl _ | refine bl_drew ?_ | refine bl_alloc ?_ _ | refine bl_set ?_ (by first | exact Nat.le_refl _ | (simp; done) | (simp; omega)) _ | refine bl_trans ?_ u.below)
theorem mayLine_n (i : Int) (w : World) : Calls Try.prog 34 #[.agg #[.pointer none], .int .i64 i] w fun e w' => e = .returned (.int .i64 1) ∧ Below w.heap.size w w' := by
  have hb0 := nl_b0 w
  go_enter Try.func34, Try.ntmps34
  go_wp2
  go_ret
  exact ⟨rfl, hb0⟩
theorem mayColumn_n (i : Int) (w : World) : Calls Try.prog 40 #[.agg #[.pointer none], .int .i64 i] w fun e w' => e = .returned (.int .i64 1) ∧ Below w.heap.size w w' := by
  have hb0 := nl_b0 w
  go_enter Try.func40, Try.ntmps40
  go_wp2
  go_ret
  exact ⟨rfl, hb0⟩
theorem start_n (i : Int) (w : World) : Calls Try.prog 13 #[.agg #[.pointer none], .int .i64 i] w fun e w' => e = .returned (.tuple #[.int .i64 0, .int .i64 1]) ∧ Below w.heap.size w w' := by
  have hb0 := nl_b0 w
  go_enter Try.func13, Try.ntmps13
  go_wp2_with fail
  refine (mayLine_n _ _).mono ?_
  rintro e w1 ⟨rfl, hb1⟩
  go_wp2
  go_ret2
  exact ⟨rfl, bl_trans hb0 hb1⟩
theorem end_n (i : Int) (w : World) : Calls Try.prog 15 #[.agg #[.pointer none], .int .i64 i] w fun e w' => e = .returned (.tuple #[.int .i64 0, .int .i64 1]) ∧ Below w.heap.size w w' := by
  have hb0 := nl_b0 w
  go_enter Try.func15, Try.ntmps15
  go_wp2_with fail
  refine (mayLine_n _ _).mono ?_
  rintro e w1 ⟨rfl, hb1⟩
  go_wp2
  go_ret2
  exact ⟨rfl, bl_trans hb0 hb1⟩
theorem at_n (i : Int) (w : World) : Calls Try.prog 19 #[.agg #[.pointer none], .int .i64 i] w fun e w' => e = .returned (.tuple #[.int .i64 0, .int .i64 1]) ∧ Below w.heap.size w w' := by
  have hb0 := nl_b0 w
  go_enter Try.func19, Try.ntmps19
  go_wp2_with fail
  refine (rcount_nil _ _).mono ?_
  rintro e w1 ⟨rfl, hb1⟩
  have hb1 := bl_trans hb0 hb1
  go_wp2
  go_ret2
  exact ⟨rfl, bl_alloc hb1 _⟩
theorem place_n (i j : Int) (w : World) : Calls Try.prog 23 #[.agg #[.pointer none], .int .i64 i, .int .i64 j] w fun e w' => e = .returned (.tuple #[.int .i64 0, .int .i64 0, .int .i64 1]) ∧ Below w.heap.size w w' := by
  have hb0 := nl_b0 w
  go_enter Try.func23, Try.ntmps23
  go_wp2_with fail
  refine (mayColumn_n _ _).mono ?_
  rintro e w1 ⟨rfl, hb1⟩
  go_wp2
  go_ret3
  exact ⟨rfl, bl_trans hb0 hb1⟩
theorem offset_n (i j k : Int) (w : World) : Calls Try.prog 25 #[.agg #[.pointer none], .int .i64 i, .int .i64 j, .int .i64 k] w fun e w' => e = .returned (.tuple #[.int .i64 0, .int .i64 1]) ∧ Below w.heap.size w w' := by
  have hb0 := nl_b0 w
  go_enter Try.func25, Try.ntmps25
  go_wp2_with fail
  refine (mayColumn_n _ _).mono ?_
  rintro e w1 ⟨rfl, hb1⟩
  go_wp2
  go_ret2
  exact ⟨rfl, bl_trans hb0 hb1⟩
theorem indent_n (i : Int) (w : World) : Calls Try.prog 17 #[.agg #[.pointer none], .int .i64 i] w fun e w' => e = .returned (.tuple #[.string ⟨#[]⟩, .int .i64 1]) ∧ Below w.heap.size w w' := by
  have hb0 := nl_b0 w
  go_enter Try.func17, Try.ntmps17
  go_wp2_with fail
  refine (start_n _ _).mono ?_
  rintro e w1 ⟨rfl, hb1⟩
  go_wp2
  go_ret2
  exact ⟨rfl, bl_trans hb0 hb1⟩
end Go.Proofs.Ytjjbpaaionpjeaa
