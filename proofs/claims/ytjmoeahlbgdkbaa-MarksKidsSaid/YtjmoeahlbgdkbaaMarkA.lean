/- Contracts of package marks: a new table, a record found or not at one record. -/
import Derived.Test.YtjmoeahlbgdkbaaMarkN
namespace Go.Proofs.Ytjmoeahlbgdkbaa
open Go.ChangeShapes Go.WideShapes Go.ChangeAt Go.RowKit
attribute [local go_sem ↓] Go.wp_at_zero Go.wp_at_succ
set_option maxRecDepth 100000
theorem mnew_any (w : World) : Calls Try.prog 14 #[] w fun e w' => e = .returned (.pointer (some ⟨w.heap.size, 0, none⟩)) ∧ w.alloc (.cells #[.int .i64 0, .slice none 0 0] 75) = w' := by
  go_enter Try.func14, Try.ntmps14
  go_wp2
  go_ret
  exact ⟨rfl, rfl⟩
def cmpM (x y : Int) : Int := if x < y then -1 else if y < x then 1 else 0
set_option maxHeartbeats 400000 in
theorem cmpm_any (x y r : Int) (w : World) (hr : cmpM x y = r) : Calls Try.prog 64 #[.int .i64 x, .int .i64 y] w fun e w' => e = .returned (.int .i64 r) ∧ w = w' := by
  subst hr
  have HE := hide (show cmpM x y = if x < y then -1 else if y < x then 1 else 0 from rfl)
  generalize cmpM x y = r at *
  have hx : (x == x) = true := by simp
  have hy : (y == y) = true := by simp
  go_enter Try.func64, Try.ntmps64
  go_wp2
  all_goals
    go_ret
    exact ⟨ret_int (by rw [HE.out]; first | (rw [if_pos (by assumption)]; done) | (rw [if_neg (by omega), if_pos (by omega)]; done) | (rw [if_neg (by omega), if_neg (by omega)])), rfl⟩
theorem mcmp_any (id f t p x r : Int) (b c : Bool) (w : World) (hr : cmpM id x = r) : Calls Try.prog 63 #[.agg #[.int .i64 id, .int .i64 f, .int .i64 t, .bool b, .bool c, .int .i64 p], .int .i64 x] w fun e w' => e = .returned (.int .i64 r) ∧ Below w.heap.size w w' := by
  have HR := hide hr
  clear hr
  go_enter Try.func63, Try.ntmps63
  go_wp2_with fail
  refine (cmpm_any id x r _ HR.out).mono ?_
  rintro e w1 ⟨rfl, rfl⟩
  go_wp2
  go_ret
  exact ⟨rfl, bl_alloc (bl_refl w) _⟩
/-- One record in a row: where it is found, or would be. -/
theorem mone_any (g cap : Nat) (id f t p x r : Int) (b c : Bool) (w : World) (hr : cmpM id x = r) (x0 : w.cell? ⟨g, 0, none⟩ = some (.int .i64 id)) (x1 : w.cell? ⟨g, 1, none⟩ = some (.int .i64 f)) (x2 : w.cell? ⟨g, 2, none⟩ = some (.int .i64 t)) (x3 : w.cell? ⟨g, 3, none⟩ = some (.bool b)) (x4 : w.cell? ⟨g, 4, none⟩ = some (.bool c)) (x5 : w.cell? ⟨g, 5, none⟩ = some (.int .i64 p)) :
    Calls Try.prog 62 #[.slice (some ⟨g, 0, none⟩) 1 cap, .int .i64 x, .func (.func 63) #[] #[]] w fun e w' => e = .returned (.tuple #[.int .i64 (if r < 0 then 1 else 0), .bool (decide (r = 0))]) ∧ Below w.heap.size w w' := by
  have HR := hide hr
  have hlt := World.block_lt_of_cell? w _ x0
  clear hr
  rcases Int.lt_trichotomy r 0 with h | h | h
  · have d1 : decide (r < 0) = true := by simp [h]
    have d2 : decide (r = 0) = false := by simp; omega
    rw [if_pos h, d2]
    clear h d2
    go_enter Try.func62, Try.ntmps62
    go_wp2
    refine wp_loop_rounds 3 ?_
    rw [rounds_succ]
    go_wp2_with fail
    refine (mcmp_any id f t p x r b c _ HR.out).mono ?_
    rintro e w1 ⟨rfl, hb1⟩
    go_wp2
    rw [rounds_succ]
    go_wp2
    go_ret2
    exact ⟨rfl, hb1⟩
  · subst h
    rw [if_neg (by decide), show decide ((0 : Int) = 0) = true from rfl]
    go_enter Try.func62, Try.ntmps62
    go_wp2
    refine wp_loop_rounds 3 ?_
    rw [rounds_succ]
    go_wp2_with fail
    refine (mcmp_any id f t p x 0 b c _ HR.out).mono ?_
    rintro e w1 ⟨rfl, hb1⟩
    have x0 := cell_later hb1 x0
    have x1 := cell_later hb1 x1
    have x2 := cell_later hb1 x2
    have x3 := cell_later hb1 x3
    have x4 := cell_later hb1 x4
    have x5 := cell_later hb1 x5
    go_wp2
    rw [rounds_succ]
    go_wp2_with fail
    refine (mcmp_any id f t p x 0 b c _ HR.out).mono ?_
    rintro e w2 ⟨rfl, hb2⟩
    go_wp2
    go_ret2
    exact ⟨rfl, bl_trans hb1 hb2⟩
  · have d1 : decide (r < 0) = false := by simp; omega
    have d2 : decide (r = 0) = false := by simp; omega
    have d3 : (r == 0) = false := beq_eq_false_iff_ne.2 (by omega)
    rw [if_neg (by omega), d2]
    clear h d2
    go_enter Try.func62, Try.ntmps62
    go_wp2
    refine wp_loop_rounds 3 ?_
    rw [rounds_succ]
    go_wp2_with fail
    refine (mcmp_any id f t p x r b c _ HR.out).mono ?_
    rintro e w1 ⟨rfl, hb1⟩
    have x0 := cell_later hb1 x0
    have x1 := cell_later hb1 x1
    have x2 := cell_later hb1 x2
    have x3 := cell_later hb1 x3
    have x4 := cell_later hb1 x4
    have x5 := cell_later hb1 x5
    go_wp2
    rw [rounds_succ]
    go_wp2_with fail
    refine (mcmp_any id f t p x r b c _ HR.out).mono ?_
    rintro e w2 ⟨rfl, hb2⟩
    go_wp2
    go_ret2
    exact ⟨rfl, bl_trans hb1 hb2⟩
end Go.Proofs.Ytjmoeahlbgdkbaa
