/- Contract: a selection that covers two of them. No condition. -/
import Derived.Test.YtjkjgfgblfioeaaSelA
import Derived.Test.YtjkjgfgblfioeaaSpanB
import Derived.Test.YtjkjgfgblfioeaaLater
import Derived.BigQuiet
namespace Go.Proofs.Ytjkjgfgblfioeaa
open Go.ChangeShapes Go.WideShapes Go.ChangeAt Go.RowKit
open SpanM
attribute [local go_sem ↓] Go.wp_at_zero Go.wp_at_succ
attribute [local go_sem] later_cell later_frozen
set_option maxRecDepth 100000
set_option linter.unusedVariables false
theorem span_b (a1 a2 : Int) (k : Sp) (hk : ky (a1, a2) = k) (w : World) : Calls Try.prog 16 #[.agg #[.int .i64 a1, .int .i64 a2]] w fun e w' => e = .returned (.agg #[.int .i64 k.1, .int .i64 k.2]) ∧ Below w.heap.size w w' := by
  subst hk
  refine (span_s a1 a2 _ _ rfl rfl w).mono ?_
  rintro e w' ⟨rfl, rfl⟩
  exact ⟨rfl, bl_alloc (bl_alloc (bl_refl w) _) _⟩
theorem touch_b (a b : Sp) (r : Bool) (h : touch a b = r) (w : World) : Calls Try.prog 30 #[.agg #[.int .i64 a.1, .int .i64 a.2], .agg #[.int .i64 b.1, .int .i64 b.2]] w fun e w' => e = .returned (.bool r) ∧ Below w.heap.size w w' := by subst h; exact touch_any a b w
theorem fld_sp0 (a b : Int) (w : World) : (Instr.field 35 (.agg #[.int .i64 a, .int .i64 b]) 0).run Try.prog w = .ok (.int .i64 a) w := by kernel_rfl
theorem fld_sp1 (a b : Int) (w : World) : (Instr.field 35 (.agg #[.int .i64 a, .int .i64 b]) 1).run Try.prog w = .ok (.int .i64 b) w := by kernel_rfl
attribute [local go_sem] fld_sp0 fld_sp1
/-- From the beginning of one to the end of either, the way that the one goes. -/
def covL (a b : Sp) : Sp := if a.2 < a.1 then (max (ky a).2 (ky b).2, (ky a).1) else ((ky a).1, max (ky a).2 (ky b).2)
set_option maxHeartbeats 4000000 in
theorem cover_s (a b : Sp) (w : World) : Calls Try.prog 31 #[.agg #[.int .i64 a.1, .int .i64 a.2], .agg #[.int .i64 b.1, .int .i64 b.2]] w fun e w' => e = .returned (.agg #[.int .i64 (covL a b).1, .int .i64 (covL a b).2]) ∧ Below w.heap.size w w' := by
  obtain ⟨a1, a2⟩ := a
  obtain ⟨b1, b2⟩ := b
  obtain ⟨⟨k1, k2⟩, hk⟩ : ∃ k, ky (a1, a2) = k := ⟨_, rfl⟩
  obtain ⟨⟨m1, m2⟩, hm⟩ : ∃ m, ky (b1, b2) = m := ⟨_, rfl⟩
  have hA : ∀ W, Calls Try.prog 16 #[.agg #[.int .i64 a1, .int .i64 a2]] W fun e w' => e = .returned (.agg #[.int .i64 k1, .int .i64 k2]) ∧ Below W.heap.size W w' := fun W => span_b a1 a2 (k1, k2) hk W
  have hB : ∀ W, Calls Try.prog 16 #[.agg #[.int .i64 b1, .int .i64 b2]] W fun e w' => e = .returned (.agg #[.int .i64 m1, .int .i64 m2]) ∧ Below W.heap.size W w' := fun W => span_b b1 b2 (m1, m2) hm W
  have HA := hide hA
  have HB := hide hB
  clear hA hB
  have hc : covL (a1, a2) (b1, b2) = if a2 < a1 then (max k2 m2, k1) else (k1, max k2 m2) := by unfold covL; rw [hk, hm]
  rw [hc]
  clear hk hm hc
  rcases Int.lt_trichotomy k2 m2 with hq | hq | hq
  · have e1 : max k2 m2 = m2 := by omega
    rw [e1]
    have o1 : k2 ≤ m2 := by omega
    have o2 : ¬ m2 < k2 := by omega
    have o3 : ¬ m2 ≤ k2 := by omega
    by_cases hd : a2 < a1
    · rw [if_pos hd]
      have gd : decide (a2 < a1) = true := decide_eq_true hd
      clear hd
      have hb0 : Below w.heap.size w (((w.alloc (.cells #[.int .i64 a1, .int .i64 a2] 38)).alloc (.cells #[.int .i64 b1, .int .i64 b2] 38)).alloc (.cells #[.int .i64 0, .int .i64 0] 38)) := bl_alloc (bl_alloc (bl_alloc (bl_refl w) _) _) _
      have h3 : (((w.alloc (.cells #[.int .i64 a1, .int .i64 a2] 38)).alloc (.cells #[.int .i64 b1, .int .i64 b2] 38)).alloc (.cells #[.int .i64 0, .int .i64 0] 38)).heap[w.heap.size + 1 + 1]? = some (.cells #[.int .i64 0, .int .i64 0] 38) := by
        have := heap_alloc_new ((w.alloc (.cells #[.int .i64 a1, .int .i64 a2] 38)).alloc (.cells #[.int .i64 b1, .int .i64 b2] 38)) (.cells #[.int .i64 0, .int .i64 0] 38)
        simpa using this
      go_enter Try.func31, Try.ntmps31
      go_wp2
      have c1 : (((w.alloc (.cells #[.int .i64 a1, .int .i64 a2] 38)).alloc (.cells #[.int .i64 b1, .int .i64 b2] 38)).alloc (.cells #[.int .i64 0, .int .i64 0] 38)).cell? ⟨w.heap.size, 0, none⟩ = some (.int .i64 a1) := by go_simp
      have c2 : (((w.alloc (.cells #[.int .i64 a1, .int .i64 a2] 38)).alloc (.cells #[.int .i64 b1, .int .i64 b2] 38)).alloc (.cells #[.int .i64 0, .int .i64 0] 38)).cell? ⟨w.heap.size, 1, none⟩ = some (.int .i64 a2) := by go_simp
      have c3 : (((w.alloc (.cells #[.int .i64 a1, .int .i64 a2] 38)).alloc (.cells #[.int .i64 b1, .int .i64 b2] 38)).alloc (.cells #[.int .i64 0, .int .i64 0] 38)).cell? ⟨w.heap.size + 1, 0, none⟩ = some (.int .i64 b1) := by go_simp
      have c4 : (((w.alloc (.cells #[.int .i64 a1, .int .i64 a2] 38)).alloc (.cells #[.int .i64 b1, .int .i64 b2] 38)).alloc (.cells #[.int .i64 0, .int .i64 0] 38)).cell? ⟨w.heap.size + 1, 1, none⟩ = some (.int .i64 b2) := by go_simp
      have n1 : w.heap.size < (((w.alloc (.cells #[.int .i64 a1, .int .i64 a2] 38)).alloc (.cells #[.int .i64 b1, .int .i64 b2] 38)).alloc (.cells #[.int .i64 0, .int .i64 0] 38)).heap.size := World.block_lt_of_cell? _ _ c1
      have n2 : w.heap.size + 1 < (((w.alloc (.cells #[.int .i64 a1, .int .i64 a2] 38)).alloc (.cells #[.int .i64 b1, .int .i64 b2] 38)).alloc (.cells #[.int .i64 0, .int .i64 0] 38)).heap.size := World.block_lt_of_cell? _ _ c3
      generalize (((w.alloc (.cells #[.int .i64 a1, .int .i64 a2] 38)).alloc (.cells #[.int .i64 b1, .int .i64 b2] 38)).alloc (.cells #[.int .i64 0, .int .i64 0] 38)) = W3 at *
      refine wp_region_later (by kernel_rfl) (by kernel_rfl) ?_
      repeat (go_big_quiet_step (first
        | (go_at_call_of 16 (Value.agg #[Value.int IntKind.i64 a1, Value.int IntKind.i64 a2]); exact later_call (HA.out _))
        | (go_at_call_of 16 (Value.agg #[Value.int IntKind.i64 b1, Value.int IntKind.i64 b2]); exact later_call (HB.out _))
        | exact rfl))
      refine wpQuiet_nil ?_
      rintro w9 ⟨⟨_, hb9⟩, rfl⟩
      have c1 := cell_later hb9 c1
      have c2 := cell_later hb9 c2
      have h9 : w9.heap[w.heap.size + 1 + 1]? = some (.cells #[.int .i64 0, .int .i64 0] 38) := (hb9.block _ (Array.getElem?_eq_some_iff.1 h3).1).trans h3
      have r1 : w9.cell? ⟨w.heap.size + 1 + 1, 0, none⟩ = some (.int .i64 0) := by rw [Lib.cell_of_heap h9]; rfl
      have r2 : w9.cell? ⟨w.heap.size + 1 + 1, 1, none⟩ = some (.int .i64 0) := by rw [Lib.cell_of_heap h9]; rfl
      have f1 : w9.frozen? ⟨w.heap.size + 1 + 1, 0, none⟩ = false := by simp [World.frozen?, h9]
      have f2 : w9.frozen? ⟨w.heap.size + 1 + 1, 1, none⟩ = false := by simp [World.frozen?, h9]
      have hbf := bl_set (bl_set (bl_trans hb0 hb9) (p := ⟨w.heap.size + 1 + 1, 0, none⟩) (by show w.heap.size ≤ w.heap.size + 1 + 1; omega) (.int .i64 m2)) (p := ⟨w.heap.size + 1 + 1, 1, none⟩) (by show w.heap.size ≤ w.heap.size + 1 + 1; omega) (.int .i64 k1)
      clear n1 n2 c3 c4 h3 hb0
      go_wp2
      refine bodyPost_ret (v := .agg #[.int .i64 m2, .int .i64 k1]) ?_ rfl ⟨rfl, hbf⟩
      rw [selres_cell1 rfl]
      go_simp
    · rw [if_neg hd]
      have gd : decide (a2 < a1) = false := decide_eq_false hd
      clear hd
      have hb0 : Below w.heap.size w (((w.alloc (.cells #[.int .i64 a1, .int .i64 a2] 38)).alloc (.cells #[.int .i64 b1, .int .i64 b2] 38)).alloc (.cells #[.int .i64 0, .int .i64 0] 38)) := bl_alloc (bl_alloc (bl_alloc (bl_refl w) _) _) _
      have h3 : (((w.alloc (.cells #[.int .i64 a1, .int .i64 a2] 38)).alloc (.cells #[.int .i64 b1, .int .i64 b2] 38)).alloc (.cells #[.int .i64 0, .int .i64 0] 38)).heap[w.heap.size + 1 + 1]? = some (.cells #[.int .i64 0, .int .i64 0] 38) := by
        have := heap_alloc_new ((w.alloc (.cells #[.int .i64 a1, .int .i64 a2] 38)).alloc (.cells #[.int .i64 b1, .int .i64 b2] 38)) (.cells #[.int .i64 0, .int .i64 0] 38)
        simpa using this
      go_enter Try.func31, Try.ntmps31
      go_wp2
      have c1 : (((w.alloc (.cells #[.int .i64 a1, .int .i64 a2] 38)).alloc (.cells #[.int .i64 b1, .int .i64 b2] 38)).alloc (.cells #[.int .i64 0, .int .i64 0] 38)).cell? ⟨w.heap.size, 0, none⟩ = some (.int .i64 a1) := by go_simp
      have c2 : (((w.alloc (.cells #[.int .i64 a1, .int .i64 a2] 38)).alloc (.cells #[.int .i64 b1, .int .i64 b2] 38)).alloc (.cells #[.int .i64 0, .int .i64 0] 38)).cell? ⟨w.heap.size, 1, none⟩ = some (.int .i64 a2) := by go_simp
      have c3 : (((w.alloc (.cells #[.int .i64 a1, .int .i64 a2] 38)).alloc (.cells #[.int .i64 b1, .int .i64 b2] 38)).alloc (.cells #[.int .i64 0, .int .i64 0] 38)).cell? ⟨w.heap.size + 1, 0, none⟩ = some (.int .i64 b1) := by go_simp
      have c4 : (((w.alloc (.cells #[.int .i64 a1, .int .i64 a2] 38)).alloc (.cells #[.int .i64 b1, .int .i64 b2] 38)).alloc (.cells #[.int .i64 0, .int .i64 0] 38)).cell? ⟨w.heap.size + 1, 1, none⟩ = some (.int .i64 b2) := by go_simp
      have n1 : w.heap.size < (((w.alloc (.cells #[.int .i64 a1, .int .i64 a2] 38)).alloc (.cells #[.int .i64 b1, .int .i64 b2] 38)).alloc (.cells #[.int .i64 0, .int .i64 0] 38)).heap.size := World.block_lt_of_cell? _ _ c1
      have n2 : w.heap.size + 1 < (((w.alloc (.cells #[.int .i64 a1, .int .i64 a2] 38)).alloc (.cells #[.int .i64 b1, .int .i64 b2] 38)).alloc (.cells #[.int .i64 0, .int .i64 0] 38)).heap.size := World.block_lt_of_cell? _ _ c3
      generalize (((w.alloc (.cells #[.int .i64 a1, .int .i64 a2] 38)).alloc (.cells #[.int .i64 b1, .int .i64 b2] 38)).alloc (.cells #[.int .i64 0, .int .i64 0] 38)) = W3 at *
      refine wp_region_later (by kernel_rfl) (by kernel_rfl) ?_
      repeat (go_big_quiet_step (first
        | (go_at_call_of 16 (Value.agg #[Value.int IntKind.i64 a1, Value.int IntKind.i64 a2]); exact later_call (HA.out _))
        | (go_at_call_of 16 (Value.agg #[Value.int IntKind.i64 b1, Value.int IntKind.i64 b2]); exact later_call (HB.out _))
        | exact rfl))
      refine wpQuiet_nil ?_
      rintro w9 ⟨⟨_, hb9⟩, rfl⟩
      have c1 := cell_later hb9 c1
      have c2 := cell_later hb9 c2
      have h9 : w9.heap[w.heap.size + 1 + 1]? = some (.cells #[.int .i64 0, .int .i64 0] 38) := (hb9.block _ (Array.getElem?_eq_some_iff.1 h3).1).trans h3
      have r1 : w9.cell? ⟨w.heap.size + 1 + 1, 0, none⟩ = some (.int .i64 0) := by rw [Lib.cell_of_heap h9]; rfl
      have r2 : w9.cell? ⟨w.heap.size + 1 + 1, 1, none⟩ = some (.int .i64 0) := by rw [Lib.cell_of_heap h9]; rfl
      have f1 : w9.frozen? ⟨w.heap.size + 1 + 1, 0, none⟩ = false := by simp [World.frozen?, h9]
      have f2 : w9.frozen? ⟨w.heap.size + 1 + 1, 1, none⟩ = false := by simp [World.frozen?, h9]
      have hbf := bl_set (bl_set (bl_trans hb0 hb9) (p := ⟨w.heap.size + 1 + 1, 0, none⟩) (by show w.heap.size ≤ w.heap.size + 1 + 1; omega) (.int .i64 k1)) (p := ⟨w.heap.size + 1 + 1, 1, none⟩) (by show w.heap.size ≤ w.heap.size + 1 + 1; omega) (.int .i64 m2)
      clear n1 n2 c3 c4 h3 hb0
      go_wp2
      refine bodyPost_ret (v := .agg #[.int .i64 k1, .int .i64 m2]) ?_ rfl ⟨rfl, hbf⟩
      rw [selres_cell1 rfl]
      go_simp
  · subst hq
    have e1 : max k2 k2 = k2 := by omega
    rw [e1]
    have o2 : ¬ k2 < k2 := by omega
    by_cases hd : a2 < a1
    · rw [if_pos hd]
      have gd : decide (a2 < a1) = true := decide_eq_true hd
      clear hd
      have hb0 : Below w.heap.size w (((w.alloc (.cells #[.int .i64 a1, .int .i64 a2] 38)).alloc (.cells #[.int .i64 b1, .int .i64 b2] 38)).alloc (.cells #[.int .i64 0, .int .i64 0] 38)) := bl_alloc (bl_alloc (bl_alloc (bl_refl w) _) _) _
      have h3 : (((w.alloc (.cells #[.int .i64 a1, .int .i64 a2] 38)).alloc (.cells #[.int .i64 b1, .int .i64 b2] 38)).alloc (.cells #[.int .i64 0, .int .i64 0] 38)).heap[w.heap.size + 1 + 1]? = some (.cells #[.int .i64 0, .int .i64 0] 38) := by
        have := heap_alloc_new ((w.alloc (.cells #[.int .i64 a1, .int .i64 a2] 38)).alloc (.cells #[.int .i64 b1, .int .i64 b2] 38)) (.cells #[.int .i64 0, .int .i64 0] 38)
        simpa using this
      go_enter Try.func31, Try.ntmps31
      go_wp2
      have c1 : (((w.alloc (.cells #[.int .i64 a1, .int .i64 a2] 38)).alloc (.cells #[.int .i64 b1, .int .i64 b2] 38)).alloc (.cells #[.int .i64 0, .int .i64 0] 38)).cell? ⟨w.heap.size, 0, none⟩ = some (.int .i64 a1) := by go_simp
      have c2 : (((w.alloc (.cells #[.int .i64 a1, .int .i64 a2] 38)).alloc (.cells #[.int .i64 b1, .int .i64 b2] 38)).alloc (.cells #[.int .i64 0, .int .i64 0] 38)).cell? ⟨w.heap.size, 1, none⟩ = some (.int .i64 a2) := by go_simp
      have c3 : (((w.alloc (.cells #[.int .i64 a1, .int .i64 a2] 38)).alloc (.cells #[.int .i64 b1, .int .i64 b2] 38)).alloc (.cells #[.int .i64 0, .int .i64 0] 38)).cell? ⟨w.heap.size + 1, 0, none⟩ = some (.int .i64 b1) := by go_simp
      have c4 : (((w.alloc (.cells #[.int .i64 a1, .int .i64 a2] 38)).alloc (.cells #[.int .i64 b1, .int .i64 b2] 38)).alloc (.cells #[.int .i64 0, .int .i64 0] 38)).cell? ⟨w.heap.size + 1, 1, none⟩ = some (.int .i64 b2) := by go_simp
      have n1 : w.heap.size < (((w.alloc (.cells #[.int .i64 a1, .int .i64 a2] 38)).alloc (.cells #[.int .i64 b1, .int .i64 b2] 38)).alloc (.cells #[.int .i64 0, .int .i64 0] 38)).heap.size := World.block_lt_of_cell? _ _ c1
      have n2 : w.heap.size + 1 < (((w.alloc (.cells #[.int .i64 a1, .int .i64 a2] 38)).alloc (.cells #[.int .i64 b1, .int .i64 b2] 38)).alloc (.cells #[.int .i64 0, .int .i64 0] 38)).heap.size := World.block_lt_of_cell? _ _ c3
      generalize (((w.alloc (.cells #[.int .i64 a1, .int .i64 a2] 38)).alloc (.cells #[.int .i64 b1, .int .i64 b2] 38)).alloc (.cells #[.int .i64 0, .int .i64 0] 38)) = W3 at *
      refine wp_region_later (by kernel_rfl) (by kernel_rfl) ?_
      repeat (go_big_quiet_step (first
        | (go_at_call_of 16 (Value.agg #[Value.int IntKind.i64 a1, Value.int IntKind.i64 a2]); exact later_call (HA.out _))
        | (go_at_call_of 16 (Value.agg #[Value.int IntKind.i64 b1, Value.int IntKind.i64 b2]); exact later_call (HB.out _))
        | exact rfl))
      refine wpQuiet_nil ?_
      rintro w9 ⟨⟨_, hb9⟩, rfl⟩
      have c1 := cell_later hb9 c1
      have c2 := cell_later hb9 c2
      have h9 : w9.heap[w.heap.size + 1 + 1]? = some (.cells #[.int .i64 0, .int .i64 0] 38) := (hb9.block _ (Array.getElem?_eq_some_iff.1 h3).1).trans h3
      have r1 : w9.cell? ⟨w.heap.size + 1 + 1, 0, none⟩ = some (.int .i64 0) := by rw [Lib.cell_of_heap h9]; rfl
      have r2 : w9.cell? ⟨w.heap.size + 1 + 1, 1, none⟩ = some (.int .i64 0) := by rw [Lib.cell_of_heap h9]; rfl
      have f1 : w9.frozen? ⟨w.heap.size + 1 + 1, 0, none⟩ = false := by simp [World.frozen?, h9]
      have f2 : w9.frozen? ⟨w.heap.size + 1 + 1, 1, none⟩ = false := by simp [World.frozen?, h9]
      have hbf := bl_set (bl_set (bl_trans hb0 hb9) (p := ⟨w.heap.size + 1 + 1, 0, none⟩) (by show w.heap.size ≤ w.heap.size + 1 + 1; omega) (.int .i64 k2)) (p := ⟨w.heap.size + 1 + 1, 1, none⟩) (by show w.heap.size ≤ w.heap.size + 1 + 1; omega) (.int .i64 k1)
      clear n1 n2 c3 c4 h3 hb0
      go_wp2
      refine bodyPost_ret (v := .agg #[.int .i64 k2, .int .i64 k1]) ?_ rfl ⟨rfl, hbf⟩
      rw [selres_cell1 rfl]
      go_simp
    · rw [if_neg hd]
      have gd : decide (a2 < a1) = false := decide_eq_false hd
      clear hd
      have hb0 : Below w.heap.size w (((w.alloc (.cells #[.int .i64 a1, .int .i64 a2] 38)).alloc (.cells #[.int .i64 b1, .int .i64 b2] 38)).alloc (.cells #[.int .i64 0, .int .i64 0] 38)) := bl_alloc (bl_alloc (bl_alloc (bl_refl w) _) _) _
      have h3 : (((w.alloc (.cells #[.int .i64 a1, .int .i64 a2] 38)).alloc (.cells #[.int .i64 b1, .int .i64 b2] 38)).alloc (.cells #[.int .i64 0, .int .i64 0] 38)).heap[w.heap.size + 1 + 1]? = some (.cells #[.int .i64 0, .int .i64 0] 38) := by
        have := heap_alloc_new ((w.alloc (.cells #[.int .i64 a1, .int .i64 a2] 38)).alloc (.cells #[.int .i64 b1, .int .i64 b2] 38)) (.cells #[.int .i64 0, .int .i64 0] 38)
        simpa using this
      go_enter Try.func31, Try.ntmps31
      go_wp2
      have c1 : (((w.alloc (.cells #[.int .i64 a1, .int .i64 a2] 38)).alloc (.cells #[.int .i64 b1, .int .i64 b2] 38)).alloc (.cells #[.int .i64 0, .int .i64 0] 38)).cell? ⟨w.heap.size, 0, none⟩ = some (.int .i64 a1) := by go_simp
      have c2 : (((w.alloc (.cells #[.int .i64 a1, .int .i64 a2] 38)).alloc (.cells #[.int .i64 b1, .int .i64 b2] 38)).alloc (.cells #[.int .i64 0, .int .i64 0] 38)).cell? ⟨w.heap.size, 1, none⟩ = some (.int .i64 a2) := by go_simp
      have c3 : (((w.alloc (.cells #[.int .i64 a1, .int .i64 a2] 38)).alloc (.cells #[.int .i64 b1, .int .i64 b2] 38)).alloc (.cells #[.int .i64 0, .int .i64 0] 38)).cell? ⟨w.heap.size + 1, 0, none⟩ = some (.int .i64 b1) := by go_simp
      have c4 : (((w.alloc (.cells #[.int .i64 a1, .int .i64 a2] 38)).alloc (.cells #[.int .i64 b1, .int .i64 b2] 38)).alloc (.cells #[.int .i64 0, .int .i64 0] 38)).cell? ⟨w.heap.size + 1, 1, none⟩ = some (.int .i64 b2) := by go_simp
      have n1 : w.heap.size < (((w.alloc (.cells #[.int .i64 a1, .int .i64 a2] 38)).alloc (.cells #[.int .i64 b1, .int .i64 b2] 38)).alloc (.cells #[.int .i64 0, .int .i64 0] 38)).heap.size := World.block_lt_of_cell? _ _ c1
      have n2 : w.heap.size + 1 < (((w.alloc (.cells #[.int .i64 a1, .int .i64 a2] 38)).alloc (.cells #[.int .i64 b1, .int .i64 b2] 38)).alloc (.cells #[.int .i64 0, .int .i64 0] 38)).heap.size := World.block_lt_of_cell? _ _ c3
      generalize (((w.alloc (.cells #[.int .i64 a1, .int .i64 a2] 38)).alloc (.cells #[.int .i64 b1, .int .i64 b2] 38)).alloc (.cells #[.int .i64 0, .int .i64 0] 38)) = W3 at *
      refine wp_region_later (by kernel_rfl) (by kernel_rfl) ?_
      repeat (go_big_quiet_step (first
        | (go_at_call_of 16 (Value.agg #[Value.int IntKind.i64 a1, Value.int IntKind.i64 a2]); exact later_call (HA.out _))
        | (go_at_call_of 16 (Value.agg #[Value.int IntKind.i64 b1, Value.int IntKind.i64 b2]); exact later_call (HB.out _))
        | exact rfl))
      refine wpQuiet_nil ?_
      rintro w9 ⟨⟨_, hb9⟩, rfl⟩
      have c1 := cell_later hb9 c1
      have c2 := cell_later hb9 c2
      have h9 : w9.heap[w.heap.size + 1 + 1]? = some (.cells #[.int .i64 0, .int .i64 0] 38) := (hb9.block _ (Array.getElem?_eq_some_iff.1 h3).1).trans h3
      have r1 : w9.cell? ⟨w.heap.size + 1 + 1, 0, none⟩ = some (.int .i64 0) := by rw [Lib.cell_of_heap h9]; rfl
      have r2 : w9.cell? ⟨w.heap.size + 1 + 1, 1, none⟩ = some (.int .i64 0) := by rw [Lib.cell_of_heap h9]; rfl
      have f1 : w9.frozen? ⟨w.heap.size + 1 + 1, 0, none⟩ = false := by simp [World.frozen?, h9]
      have f2 : w9.frozen? ⟨w.heap.size + 1 + 1, 1, none⟩ = false := by simp [World.frozen?, h9]
      have hbf := bl_set (bl_set (bl_trans hb0 hb9) (p := ⟨w.heap.size + 1 + 1, 0, none⟩) (by show w.heap.size ≤ w.heap.size + 1 + 1; omega) (.int .i64 k1)) (p := ⟨w.heap.size + 1 + 1, 1, none⟩) (by show w.heap.size ≤ w.heap.size + 1 + 1; omega) (.int .i64 k2)
      clear n1 n2 c3 c4 h3 hb0
      go_wp2
      refine bodyPost_ret (v := .agg #[.int .i64 k1, .int .i64 k2]) ?_ rfl ⟨rfl, hbf⟩
      rw [selres_cell1 rfl]
      go_simp
  · have e1 : max k2 m2 = k2 := by omega
    rw [e1]
    have o1 : m2 ≤ k2 := by omega
    have o2 : ¬ k2 < m2 := by omega
    have o3 : ¬ k2 ≤ m2 := by omega
    by_cases hd : a2 < a1
    · rw [if_pos hd]
      have gd : decide (a2 < a1) = true := decide_eq_true hd
      clear hd
      have hb0 : Below w.heap.size w (((w.alloc (.cells #[.int .i64 a1, .int .i64 a2] 38)).alloc (.cells #[.int .i64 b1, .int .i64 b2] 38)).alloc (.cells #[.int .i64 0, .int .i64 0] 38)) := bl_alloc (bl_alloc (bl_alloc (bl_refl w) _) _) _
      have h3 : (((w.alloc (.cells #[.int .i64 a1, .int .i64 a2] 38)).alloc (.cells #[.int .i64 b1, .int .i64 b2] 38)).alloc (.cells #[.int .i64 0, .int .i64 0] 38)).heap[w.heap.size + 1 + 1]? = some (.cells #[.int .i64 0, .int .i64 0] 38) := by
        have := heap_alloc_new ((w.alloc (.cells #[.int .i64 a1, .int .i64 a2] 38)).alloc (.cells #[.int .i64 b1, .int .i64 b2] 38)) (.cells #[.int .i64 0, .int .i64 0] 38)
        simpa using this
      go_enter Try.func31, Try.ntmps31
      go_wp2
      have c1 : (((w.alloc (.cells #[.int .i64 a1, .int .i64 a2] 38)).alloc (.cells #[.int .i64 b1, .int .i64 b2] 38)).alloc (.cells #[.int .i64 0, .int .i64 0] 38)).cell? ⟨w.heap.size, 0, none⟩ = some (.int .i64 a1) := by go_simp
      have c2 : (((w.alloc (.cells #[.int .i64 a1, .int .i64 a2] 38)).alloc (.cells #[.int .i64 b1, .int .i64 b2] 38)).alloc (.cells #[.int .i64 0, .int .i64 0] 38)).cell? ⟨w.heap.size, 1, none⟩ = some (.int .i64 a2) := by go_simp
      have c3 : (((w.alloc (.cells #[.int .i64 a1, .int .i64 a2] 38)).alloc (.cells #[.int .i64 b1, .int .i64 b2] 38)).alloc (.cells #[.int .i64 0, .int .i64 0] 38)).cell? ⟨w.heap.size + 1, 0, none⟩ = some (.int .i64 b1) := by go_simp
      have c4 : (((w.alloc (.cells #[.int .i64 a1, .int .i64 a2] 38)).alloc (.cells #[.int .i64 b1, .int .i64 b2] 38)).alloc (.cells #[.int .i64 0, .int .i64 0] 38)).cell? ⟨w.heap.size + 1, 1, none⟩ = some (.int .i64 b2) := by go_simp
      have n1 : w.heap.size < (((w.alloc (.cells #[.int .i64 a1, .int .i64 a2] 38)).alloc (.cells #[.int .i64 b1, .int .i64 b2] 38)).alloc (.cells #[.int .i64 0, .int .i64 0] 38)).heap.size := World.block_lt_of_cell? _ _ c1
      have n2 : w.heap.size + 1 < (((w.alloc (.cells #[.int .i64 a1, .int .i64 a2] 38)).alloc (.cells #[.int .i64 b1, .int .i64 b2] 38)).alloc (.cells #[.int .i64 0, .int .i64 0] 38)).heap.size := World.block_lt_of_cell? _ _ c3
      generalize (((w.alloc (.cells #[.int .i64 a1, .int .i64 a2] 38)).alloc (.cells #[.int .i64 b1, .int .i64 b2] 38)).alloc (.cells #[.int .i64 0, .int .i64 0] 38)) = W3 at *
      refine wp_region_later (by kernel_rfl) (by kernel_rfl) ?_
      repeat (go_big_quiet_step (first
        | (go_at_call_of 16 (Value.agg #[Value.int IntKind.i64 a1, Value.int IntKind.i64 a2]); exact later_call (HA.out _))
        | (go_at_call_of 16 (Value.agg #[Value.int IntKind.i64 b1, Value.int IntKind.i64 b2]); exact later_call (HB.out _))
        | exact rfl))
      refine wpQuiet_nil ?_
      rintro w9 ⟨⟨_, hb9⟩, rfl⟩
      have c1 := cell_later hb9 c1
      have c2 := cell_later hb9 c2
      have h9 : w9.heap[w.heap.size + 1 + 1]? = some (.cells #[.int .i64 0, .int .i64 0] 38) := (hb9.block _ (Array.getElem?_eq_some_iff.1 h3).1).trans h3
      have r1 : w9.cell? ⟨w.heap.size + 1 + 1, 0, none⟩ = some (.int .i64 0) := by rw [Lib.cell_of_heap h9]; rfl
      have r2 : w9.cell? ⟨w.heap.size + 1 + 1, 1, none⟩ = some (.int .i64 0) := by rw [Lib.cell_of_heap h9]; rfl
      have f1 : w9.frozen? ⟨w.heap.size + 1 + 1, 0, none⟩ = false := by simp [World.frozen?, h9]
      have f2 : w9.frozen? ⟨w.heap.size + 1 + 1, 1, none⟩ = false := by simp [World.frozen?, h9]
      have hbf := bl_set (bl_set (bl_trans hb0 hb9) (p := ⟨w.heap.size + 1 + 1, 0, none⟩) (by show w.heap.size ≤ w.heap.size + 1 + 1; omega) (.int .i64 k2)) (p := ⟨w.heap.size + 1 + 1, 1, none⟩) (by show w.heap.size ≤ w.heap.size + 1 + 1; omega) (.int .i64 k1)
      clear n1 n2 c3 c4 h3 hb0
      go_wp2
      refine bodyPost_ret (v := .agg #[.int .i64 k2, .int .i64 k1]) ?_ rfl ⟨rfl, hbf⟩
      rw [selres_cell1 rfl]
      go_simp
    · rw [if_neg hd]
      have gd : decide (a2 < a1) = false := decide_eq_false hd
      clear hd
      have hb0 : Below w.heap.size w (((w.alloc (.cells #[.int .i64 a1, .int .i64 a2] 38)).alloc (.cells #[.int .i64 b1, .int .i64 b2] 38)).alloc (.cells #[.int .i64 0, .int .i64 0] 38)) := bl_alloc (bl_alloc (bl_alloc (bl_refl w) _) _) _
      have h3 : (((w.alloc (.cells #[.int .i64 a1, .int .i64 a2] 38)).alloc (.cells #[.int .i64 b1, .int .i64 b2] 38)).alloc (.cells #[.int .i64 0, .int .i64 0] 38)).heap[w.heap.size + 1 + 1]? = some (.cells #[.int .i64 0, .int .i64 0] 38) := by
        have := heap_alloc_new ((w.alloc (.cells #[.int .i64 a1, .int .i64 a2] 38)).alloc (.cells #[.int .i64 b1, .int .i64 b2] 38)) (.cells #[.int .i64 0, .int .i64 0] 38)
        simpa using this
      go_enter Try.func31, Try.ntmps31
      go_wp2
      have c1 : (((w.alloc (.cells #[.int .i64 a1, .int .i64 a2] 38)).alloc (.cells #[.int .i64 b1, .int .i64 b2] 38)).alloc (.cells #[.int .i64 0, .int .i64 0] 38)).cell? ⟨w.heap.size, 0, none⟩ = some (.int .i64 a1) := by go_simp
      have c2 : (((w.alloc (.cells #[.int .i64 a1, .int .i64 a2] 38)).alloc (.cells #[.int .i64 b1, .int .i64 b2] 38)).alloc (.cells #[.int .i64 0, .int .i64 0] 38)).cell? ⟨w.heap.size, 1, none⟩ = some (.int .i64 a2) := by go_simp
      have c3 : (((w.alloc (.cells #[.int .i64 a1, .int .i64 a2] 38)).alloc (.cells #[.int .i64 b1, .int .i64 b2] 38)).alloc (.cells #[.int .i64 0, .int .i64 0] 38)).cell? ⟨w.heap.size + 1, 0, none⟩ = some (.int .i64 b1) := by go_simp
      have c4 : (((w.alloc (.cells #[.int .i64 a1, .int .i64 a2] 38)).alloc (.cells #[.int .i64 b1, .int .i64 b2] 38)).alloc (.cells #[.int .i64 0, .int .i64 0] 38)).cell? ⟨w.heap.size + 1, 1, none⟩ = some (.int .i64 b2) := by go_simp
      have n1 : w.heap.size < (((w.alloc (.cells #[.int .i64 a1, .int .i64 a2] 38)).alloc (.cells #[.int .i64 b1, .int .i64 b2] 38)).alloc (.cells #[.int .i64 0, .int .i64 0] 38)).heap.size := World.block_lt_of_cell? _ _ c1
      have n2 : w.heap.size + 1 < (((w.alloc (.cells #[.int .i64 a1, .int .i64 a2] 38)).alloc (.cells #[.int .i64 b1, .int .i64 b2] 38)).alloc (.cells #[.int .i64 0, .int .i64 0] 38)).heap.size := World.block_lt_of_cell? _ _ c3
      generalize (((w.alloc (.cells #[.int .i64 a1, .int .i64 a2] 38)).alloc (.cells #[.int .i64 b1, .int .i64 b2] 38)).alloc (.cells #[.int .i64 0, .int .i64 0] 38)) = W3 at *
      refine wp_region_later (by kernel_rfl) (by kernel_rfl) ?_
      repeat (go_big_quiet_step (first
        | (go_at_call_of 16 (Value.agg #[Value.int IntKind.i64 a1, Value.int IntKind.i64 a2]); exact later_call (HA.out _))
        | (go_at_call_of 16 (Value.agg #[Value.int IntKind.i64 b1, Value.int IntKind.i64 b2]); exact later_call (HB.out _))
        | exact rfl))
      refine wpQuiet_nil ?_
      rintro w9 ⟨⟨_, hb9⟩, rfl⟩
      have c1 := cell_later hb9 c1
      have c2 := cell_later hb9 c2
      have h9 : w9.heap[w.heap.size + 1 + 1]? = some (.cells #[.int .i64 0, .int .i64 0] 38) := (hb9.block _ (Array.getElem?_eq_some_iff.1 h3).1).trans h3
      have r1 : w9.cell? ⟨w.heap.size + 1 + 1, 0, none⟩ = some (.int .i64 0) := by rw [Lib.cell_of_heap h9]; rfl
      have r2 : w9.cell? ⟨w.heap.size + 1 + 1, 1, none⟩ = some (.int .i64 0) := by rw [Lib.cell_of_heap h9]; rfl
      have f1 : w9.frozen? ⟨w.heap.size + 1 + 1, 0, none⟩ = false := by simp [World.frozen?, h9]
      have f2 : w9.frozen? ⟨w.heap.size + 1 + 1, 1, none⟩ = false := by simp [World.frozen?, h9]
      have hbf := bl_set (bl_set (bl_trans hb0 hb9) (p := ⟨w.heap.size + 1 + 1, 0, none⟩) (by show w.heap.size ≤ w.heap.size + 1 + 1; omega) (.int .i64 k1)) (p := ⟨w.heap.size + 1 + 1, 1, none⟩) (by show w.heap.size ≤ w.heap.size + 1 + 1; omega) (.int .i64 k2)
      clear n1 n2 c3 c4 h3 hb0
      go_wp2
      refine bodyPost_ret (v := .agg #[.int .i64 k1, .int .i64 k2]) ?_ rfl ⟨rfl, hbf⟩
      rw [selres_cell1 rfl]
      go_simp
end Go.Proofs.Ytjkjgfgblfioeaa
