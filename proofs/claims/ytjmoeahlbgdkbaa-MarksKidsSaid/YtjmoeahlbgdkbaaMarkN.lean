/- Contracts of package marks: the nil receiver. -/
import Derived.Test.YtjmoeahlbgdkbaaLow
import Derived.Test.YtjmoeahlbgdkbaaOwn
import Derived.Deep.DrawnRows
import Derived.Laws.ResultCell
import Derived.Test.YtjmoeahlbgdkbaaLater
namespace Go.Proofs.Ytjmoeahlbgdkbaa
open Go.ChangeShapes Go.WideShapes Go.ChangeAt Go.RowKit
attribute [local go_sem ↓] Go.wp_at_zero Go.wp_at_succ
set_option maxRecDepth 100000
def zeroR : Value := .agg #[.int .i64 0, .int .i64 0, .bool false, .bool false, .int .i64 0]
theorem find_nil (a : Int) (w : World) : Calls Try.prog 40 #[.pointer none, .int .i64 a] w fun e w' => e = .returned (.tuple #[.int .i64 0, .bool false]) ∧ Below w.heap.size w w' := by
  go_enter Try.func40, Try.ntmps40
  go_wp2
  go_ret2
  exact ⟨rfl, bl_refl w⟩
theorem box5 {W : World} {n : Nat} {a b c d g : Value} {e : TypeId} (h : W.heap[n]? = some (.cells #[a, b, c, d, g] e (0, 0))) : W.cell? ⟨n, 0, none⟩ = some a ∧ W.cell? ⟨n, 1, none⟩ = some b ∧ W.cell? ⟨n, 2, none⟩ = some c ∧ W.cell? ⟨n, 3, none⟩ = some d ∧ W.cell? ⟨n, 4, none⟩ = some g ∧ ∀ k, W.frozen? ⟨n, k, none⟩ = false := by
  refine ⟨?_, ?_, ?_, ?_, ?_, fun k => ?_⟩
  all_goals first | (simp [World.cell?, h]; done) | simp [World.frozen?, h]
theorem get_nil (a : Int) (w : World) : Calls Try.prog 18 #[.pointer none, .int .i64 a] w fun e w' => e = .returned (.tuple #[zeroR, .bool false]) ∧ Below w.heap.size w w' := by
  go_enter Try.func18, Try.ntmps18
  go_wp2_with fail
  refine (find_nil a _).mono ?_
  rintro e w1 ⟨rfl, hb1⟩
  have hf := (hb1.block w.heap.size (by simp)).trans (heap_alloc_new w (.cells #[.int .i64 0, .int .i64 0, .bool false, .bool false, .int .i64 0] 43))
  have hb := bl_trans (bl_alloc (bl_refl w) (.cells #[.int .i64 0, .int .i64 0, .bool false, .bool false, .int .i64 0] 43)) hb1
  obtain ⟨c0, c1, c2, c3, c4, cf⟩ := box5 hf
  have f0 := cf 0
  have f1 := cf 1
  have f2 := cf 2
  have f3 := cf 3
  have f4 := cf 4
  have hlt := (Array.getElem?_eq_some_iff.1 hf).1
  clear hf cf
  go_wp2
  (try simp only [Exit.inBlock, Exit.then])
  refine bodyPost_ret (v := .tuple #[zeroR, .bool false]) ?_ rfl ⟨rfl, ?_⟩
  · rw [results_cell_tmp rfl]
    unfold zeroR
    go_simp
  · repeat (first | exact hb | refine bl_set ?_ (Nat.le_refl _) _)
theorem add_nil (f t p : Int) (b c : Bool) (w : World) : Calls Try.prog 27 #[.pointer none, .agg #[.int .i64 f, .int .i64 t, .bool b, .bool c, .int .i64 p]] w fun e w' => e = .returned (.tuple #[.int .i64 0, .int .i64 1]) ∧ Below w.heap.size w w' := by
  go_enter Try.func27, Try.ntmps27
  go_wp2
  go_ret2
  exact ⟨rfl, bl_alloc (bl_refl w) _⟩
theorem pose_nil (a : Int) (b c : Bool) (w : World) : Calls Try.prog 29 #[.pointer none, .int .i64 a, .bool b, .bool c] w fun e w' => e = .returned (.int .i64 1) ∧ Below w.heap.size w w' := by
  go_enter Try.func29, Try.ntmps29
  go_wp2
  go_ret
  exact ⟨rfl, bl_refl w⟩
theorem drop_nil (a : Int) (w : World) : Calls Try.prog 23 #[.pointer none, .int .i64 a] w fun e w' => e = .returned (.int .i64 1) ∧ Below w.heap.size w w' := by
  go_enter Try.func23, Try.ntmps23
  go_wp2
  go_ret
  exact ⟨rfl, bl_refl w⟩
theorem mids_nil (fv : Value) (w : World) : Calls Try.prog 41 #[.pointer none, fv] w fun e w' => e = .returned (.slice none 0 0) ∧ Below w.heap.size w w' := by
  go_enter Try.func41, Try.ntmps41
  go_wp2
  go_ret
  exact ⟨rfl, bl_refl w⟩
theorem ids_nil (w : World) : Calls Try.prog 19 #[.pointer none] w fun e w' => e = .returned (.slice none 0 0) ∧ Below w.heap.size w w' := by
  go_enter Try.func19, Try.ntmps19
  go_wp2_with fail
  refine (mids_nil _ _).mono ?_
  rintro e w1 ⟨rfl, hb1⟩
  go_wp2
  go_ret
  exact ⟨rfl, hb1⟩
theorem twin_nil (w : World) : Calls Try.prog 25 #[.pointer none] w fun e w' => e = .returned (.pointer none) ∧ Below w.heap.size w w' := by
  go_enter Try.func25, Try.ntmps25
  go_wp2
  go_ret
  exact ⟨rfl, bl_refl w⟩
theorem move_nil (v : Value) (w : World) : Calls Try.prog 28 #[.pointer none, v] w fun e w' => e = .returned (.int .i64 1) ∧ Below w.heap.size w w' := by
  go_enter Try.func28, Try.ntmps28
  go_wp2
  go_ret
  exact ⟨rfl, bl_refl w⟩
theorem kids_nil (a : Int) (w : World) : Calls Try.prog 20 #[.pointer none, .int .i64 a] w fun e w' => e = .returned (.slice none 0 0) ∧ Below w.heap.size w w' := by
  go_enter Try.func20, Try.ntmps20
  go_wp2_with fail
  refine (mids_nil _ _).mono ?_
  rintro e w1 ⟨rfl, hb1⟩
  go_wp2
  go_ret
  exact ⟨rfl, by first | exact hb1 | exact bl_trans (bl_alloc (bl_refl w) _) hb1⟩
theorem mat_nil (a : Int) (w : World) : Calls Try.prog 22 #[.pointer none, .int .i64 a] w fun e w' => e = .returned (.slice none 0 0) ∧ Below w.heap.size w w' := by
  go_enter Try.func22, Try.ntmps22
  go_wp2_with fail
  refine (mids_nil _ _).mono ?_
  rintro e w1 ⟨rfl, hb1⟩
  go_wp2
  go_ret
  exact ⟨rfl, by first | exact hb1 | exact bl_trans (bl_alloc (bl_refl w) _) hb1⟩
end Go.Proofs.Ytjmoeahlbgdkbaa
