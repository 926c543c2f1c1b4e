/- Of two that are no wrong way round: they Touch if one Has an end of the other, Overlap if they Touch in more than a place; one Within another one has no place that that has not. Conditions: none beyond the form's own. -/
import Derived.Test.YtepmkpjpdidfkaaRows
import Derived.Test.YtepmkpjpdidfkaaArgs
import Derived.Test.YtepmkpjpdidfkaaSpanH
namespace Go.Proofs.Ytepmkpjpdidfkaa.spanAgree
open Go.Proofs.Ytepmkpjpdidfkaa
open Go.ChangeShapes Go.WideShapes Go.ChangeAt Go.RowKit Go.Deep
open Go.ChangeMaps (open_string shut_string)
set_option linter.unusedVariables false

theorem own : ownKnob Try.prog.godebug = none := by kernel_rfl
theorem laidOut : laidOutB Try.prog = true := by kernel_rfl
-- opt:20000000
open SpanM
attribute [local go_sem] later_cell later_frozen
theorem f1 (a b : Sp) (h : a.1 ≤ a.2) (g : b.1 ≤ b.2) : touch a b = (hasB a b.1 || hasB b a.1) := by
  rw [touch_d, Bool.eq_iff_iff]; simp [hasB]; omega
theorem f2 (a b : Sp) : touch b a = touch a b := by rw [touch_d, touch_d, Bool.eq_iff_iff]; simp; omega
theorem f3 (a b : Sp) : overB b a = overB a b := by unfold overB; rw [Bool.eq_iff_iff]; simp; omega
theorem f4 (a b : Sp) (h : overB a b = true) : touch a b = true := by unfold overB at h; rw [touch_d]; simp at *; omega
theorem f5 (a b : Sp) (x : Int) (h : withinB a b = true) (g : hasB a x = true) : hasB b x = true := by unfold withinB at h; unfold hasB at *; simp at *; omega
theorem f6 (a b : Sp) (h : withinB a b = true) (g : a.1 < a.2) : overB a b = true := by unfold withinB at h; unfold overB; simp at *; omega
theorem f7 (a : Sp) : withinB a a = true := by simp [withinB]
set_option maxRecDepth 100000 in
set_option maxHeartbeats 20000000 in
theorem walk (s0 : SpanM.Sp) (s1 : SpanM.Sp) (a2 : Int) (w : World) (b0 : Wf s0) (b1 : Wf s1) (w2 : (Lit.int .i64 a2).wf = true) :
    Calls Try.prog 4 #[.agg #[.int .i64 s0.1, .int .i64 s0.2], .agg #[.int .i64 s1.1, .int .i64 s1.2], .int .i64 a2] w fun e w' => e = .returned (.bool true) ∧ Below w.heap.size w w' := by
  by_cases hbad : s0.2 < s0.1 ∨ s1.2 < s1.1
  · go_enter Try.func4, Try.ntmps4
    go_wp2_with (go_at_call 21; refine (awake5_any _).mono ?_; rintro e w1 ⟨rfl, hb1⟩)
    all_goals
      go_ret
      exact ⟨rfl, bl_trans (bl_alloc (bl_alloc (bl_refl w) _) _) hb1⟩
  · have ha : s0.1 ≤ s0.2 := by omega
    have hb : s1.1 ≤ s1.2 := by omega
    clear hbad
    have g1 := f1 s0 s1 ha hb
    have g4 := f4 s0 s1
    have g5 := f5 s0 s1 a2
    have g6 := f6 s0 s1
    have E2 := hide (f2 s0 s1)
    have E3 := hide (f3 s0 s1)
    obtain ⟨o, ho⟩ : ∃ r, overB s0 s1 = r := ⟨_, rfl⟩
    obtain ⟨t, ht⟩ : ∃ r, touch s0 s1 = r := ⟨_, rfl⟩
    obtain ⟨x1, hx1⟩ : ∃ r, hasB s0 s1.1 = r := ⟨_, rfl⟩
    obtain ⟨x2, hx2⟩ : ∃ r, hasB s1 s0.1 = r := ⟨_, rfl⟩
    obtain ⟨y1, hy1⟩ : ∃ r, hasB s0 a2 = r := ⟨_, rfl⟩
    obtain ⟨y2, hy2⟩ : ∃ r, hasB s1 a2 = r := ⟨_, rfl⟩
    obtain ⟨wi, hwi⟩ : ∃ r, withinB s0 s1 = r := ⟨_, rfl⟩
    have O := hide ho
    have O2 := hide (E3.out.trans ho)
    have T := hide ht
    have T2 := hide (E2.out.trans ht)
    have X1 := hide hx1
    have X2 := hide hx2
    have Y1 := hide hy1
    have Y2 := hide hy2
    have WI := hide hwi
    have WS := hide (f7 s0)
    rw [ht, hx1, hx2] at g1
    rw [ho, ht] at g4
    rw [hwi, hy1, hy2] at g5
    rw [hwi, ho] at g6
    clear ho ht hx1 hx2 hy1 hy2 hwi E2 E3
    have G5 := hide g5
    have G6 := hide g6
    have key : (t, x1, x2, o) = (true, true, x2, o) ∨ (t, x1, x2, o) = (true, false, true, o) ∨ (t, x1, x2, o) = (false, false, false, false) := by
      revert g1 g4; cases t <;> cases x1 <;> cases x2 <;> cases o <;> simp
    clear g1 g4 g5 g6
    rcases key with e | e | e
    · obtain ⟨rfl, rfl⟩ : t = true ∧ x1 = true := by simpa using e
      clear e
      cases o
      all_goals
        go_enter Try.func4, Try.ntmps4
        go_wp2_with fail
        refine (c3 s0 s1.1 _ _ X1.out).mono ?_
        rintro e w1 ⟨rfl, hb1⟩
        have HB1 : Below w.heap.size w w1 := bl_trans (bl_alloc (bl_alloc (bl_refl w) _) _) hb1
        have p1 : w1.cell? ⟨w.heap.size, 0, none⟩ = some (.int .i64 s0.1) := by rw [(bl_cell hb1).1 _ _ (by first | (simp; done) | (simp; omega))]; go_simp
        have p2 : w1.cell? ⟨w.heap.size, 1, none⟩ = some (.int .i64 s0.2) := by rw [(bl_cell hb1).1 _ _ (by first | (simp; done) | (simp; omega))]; go_simp
        have p3 : w1.cell? ⟨w.heap.size + 1, 0, none⟩ = some (.int .i64 s1.1) := by rw [(bl_cell hb1).1 _ _ (by first | (simp; done) | (simp; omega))]; go_simp
        have p4 : w1.cell? ⟨w.heap.size + 1, 1, none⟩ = some (.int .i64 s1.2) := by rw [(bl_cell hb1).1 _ _ (by first | (simp; done) | (simp; omega))]; go_simp
        clear hb1
        have l0 : w.heap.size < w1.heap.size := by have := World.block_lt_of_cell? w1 _ p1; exact this
        have l1 : w.heap.size + 1 < w1.heap.size := by have := World.block_lt_of_cell? w1 _ p3; exact this
        go_wp2_with fail
        refine wp_region_later (by kernel_rfl) (by kernel_rfl) ?_
        repeat (go_big_quiet_step (first
          | (go_at_call 19; exact later_call (c9 _ _ true _ (by first | exact T.out | exact T2.out)))
          | (go_at_call 17; first | exact later_call (c7 _ _ true _ (by first | exact O.out | exact O2.out)) | exact later_call (c7 _ _ false _ (by first | exact O.out | exact O2.out)))
          | exact rfl))
        refine wpQuiet_nil ?_
        rintro w9 ⟨⟨_, hb9⟩, rfl⟩
        have HB9 : Below w.heap.size w w9 := bl_trans HB1 hb9
        have z1 := cell_later hb9 p1
        have z2 := cell_later hb9 p2
        have z3 := cell_later hb9 p3
        have z4 := cell_later hb9 p4
        clear hb9 p1 p2 p3 p4
        cases wi
        · go_wp2_with (first | (go_at_call_of 15 (Value.agg #[.int .i64 s1.1, .int .i64 s1.2]); refine (c5 s0 s1 _ _ WI.out).mono ?_; rintro e w8 ⟨rfl, hb8⟩; have z1 := cell_later hb8 z1; have z2 := cell_later hb8 z2; have z3 := cell_later hb8 z3; have z4 := cell_later hb8 z4; have HB9 := bl_trans HB9 hb8; clear hb8) | (go_at_call 15; refine (c5 s0 s0 _ _ WS.out).mono ?_; rintro e w8 ⟨rfl, hb8⟩; have z1 := cell_later hb8 z1; have z2 := cell_later hb8 z2; have z3 := cell_later hb8 z3; have z4 := cell_later hb8 z4; have HB9 := bl_trans HB9 hb8; clear hb8) | (go_at_call_of 13 (Value.agg #[.int .i64 s1.1, .int .i64 s1.2]); refine (c3 s1 a2 _ _ Y2.out).mono ?_; rintro e w8 ⟨rfl, hb8⟩; have z1 := cell_later hb8 z1; have z2 := cell_later hb8 z2; have z3 := cell_later hb8 z3; have z4 := cell_later hb8 z4; have HB9 := bl_trans HB9 hb8; clear hb8) | (go_at_call 13; refine (c3 s0 a2 _ _ Y1.out).mono ?_; rintro e w8 ⟨rfl, hb8⟩; have z1 := cell_later hb8 z1; have z2 := cell_later hb8 z2; have z3 := cell_later hb8 z3; have z4 := cell_later hb8 z4; have HB9 := bl_trans HB9 hb8; clear hb8) | (go_at_call 17; refine (c7 s0 s1 _ _ O.out).mono ?_; rintro e w8 ⟨rfl, hb8⟩; have z1 := cell_later hb8 z1; have z2 := cell_later hb8 z2; have z3 := cell_later hb8 z3; have z4 := cell_later hb8 z4; have HB9 := bl_trans HB9 hb8; clear hb8) | (go_at_call 21; refine (awake5_any _).mono ?_; rintro e w8 ⟨rfl, hb8⟩; have z1 := cell_later hb8 z1; have z2 := cell_later hb8 z2; have z3 := cell_later hb8 z3; have z4 := cell_later hb8 z4; have HB9 := bl_trans HB9 hb8; clear hb8))
          all_goals first | (go_ret; exact ⟨rfl, HB9⟩) | (exfalso; have g6 := G6.out; simp at g6; omega)
        · cases y1
          · go_wp2_with (first | (go_at_call_of 15 (Value.agg #[.int .i64 s1.1, .int .i64 s1.2]); refine (c5 s0 s1 _ _ WI.out).mono ?_; rintro e w8 ⟨rfl, hb8⟩; have z1 := cell_later hb8 z1; have z2 := cell_later hb8 z2; have z3 := cell_later hb8 z3; have z4 := cell_later hb8 z4; have HB9 := bl_trans HB9 hb8; clear hb8) | (go_at_call 15; refine (c5 s0 s0 _ _ WS.out).mono ?_; rintro e w8 ⟨rfl, hb8⟩; have z1 := cell_later hb8 z1; have z2 := cell_later hb8 z2; have z3 := cell_later hb8 z3; have z4 := cell_later hb8 z4; have HB9 := bl_trans HB9 hb8; clear hb8) | (go_at_call_of 13 (Value.agg #[.int .i64 s1.1, .int .i64 s1.2]); refine (c3 s1 a2 _ _ Y2.out).mono ?_; rintro e w8 ⟨rfl, hb8⟩; have z1 := cell_later hb8 z1; have z2 := cell_later hb8 z2; have z3 := cell_later hb8 z3; have z4 := cell_later hb8 z4; have HB9 := bl_trans HB9 hb8; clear hb8) | (go_at_call 13; refine (c3 s0 a2 _ _ Y1.out).mono ?_; rintro e w8 ⟨rfl, hb8⟩; have z1 := cell_later hb8 z1; have z2 := cell_later hb8 z2; have z3 := cell_later hb8 z3; have z4 := cell_later hb8 z4; have HB9 := bl_trans HB9 hb8; clear hb8) | (go_at_call 17; refine (c7 s0 s1 _ _ O.out).mono ?_; rintro e w8 ⟨rfl, hb8⟩; have z1 := cell_later hb8 z1; have z2 := cell_later hb8 z2; have z3 := cell_later hb8 z3; have z4 := cell_later hb8 z4; have HB9 := bl_trans HB9 hb8; clear hb8) | (go_at_call 21; refine (awake5_any _).mono ?_; rintro e w8 ⟨rfl, hb8⟩; have z1 := cell_later hb8 z1; have z2 := cell_later hb8 z2; have z3 := cell_later hb8 z3; have z4 := cell_later hb8 z4; have HB9 := bl_trans HB9 hb8; clear hb8))
            all_goals first | (go_ret; exact ⟨rfl, HB9⟩) | (exfalso; have g6 := G6.out; simp at g6; omega)
          · obtain rfl : y2 = true := G5.out rfl rfl
            go_wp2_with (first | (go_at_call_of 15 (Value.agg #[.int .i64 s1.1, .int .i64 s1.2]); refine (c5 s0 s1 _ _ WI.out).mono ?_; rintro e w8 ⟨rfl, hb8⟩; have z1 := cell_later hb8 z1; have z2 := cell_later hb8 z2; have z3 := cell_later hb8 z3; have z4 := cell_later hb8 z4; have HB9 := bl_trans HB9 hb8; clear hb8) | (go_at_call 15; refine (c5 s0 s0 _ _ WS.out).mono ?_; rintro e w8 ⟨rfl, hb8⟩; have z1 := cell_later hb8 z1; have z2 := cell_later hb8 z2; have z3 := cell_later hb8 z3; have z4 := cell_later hb8 z4; have HB9 := bl_trans HB9 hb8; clear hb8) | (go_at_call_of 13 (Value.agg #[.int .i64 s1.1, .int .i64 s1.2]); refine (c3 s1 a2 _ _ Y2.out).mono ?_; rintro e w8 ⟨rfl, hb8⟩; have z1 := cell_later hb8 z1; have z2 := cell_later hb8 z2; have z3 := cell_later hb8 z3; have z4 := cell_later hb8 z4; have HB9 := bl_trans HB9 hb8; clear hb8) | (go_at_call 13; refine (c3 s0 a2 _ _ Y1.out).mono ?_; rintro e w8 ⟨rfl, hb8⟩; have z1 := cell_later hb8 z1; have z2 := cell_later hb8 z2; have z3 := cell_later hb8 z3; have z4 := cell_later hb8 z4; have HB9 := bl_trans HB9 hb8; clear hb8) | (go_at_call 17; refine (c7 s0 s1 _ _ O.out).mono ?_; rintro e w8 ⟨rfl, hb8⟩; have z1 := cell_later hb8 z1; have z2 := cell_later hb8 z2; have z3 := cell_later hb8 z3; have z4 := cell_later hb8 z4; have HB9 := bl_trans HB9 hb8; clear hb8) | (go_at_call 21; refine (awake5_any _).mono ?_; rintro e w8 ⟨rfl, hb8⟩; have z1 := cell_later hb8 z1; have z2 := cell_later hb8 z2; have z3 := cell_later hb8 z3; have z4 := cell_later hb8 z4; have HB9 := bl_trans HB9 hb8; clear hb8))
            all_goals first | (go_ret; exact ⟨rfl, HB9⟩) | (exfalso; have g6 := G6.out; simp at g6; omega)
    · obtain ⟨rfl, rfl, rfl⟩ : t = true ∧ x1 = false ∧ x2 = true := by simpa using e
      clear e
      cases o
      all_goals
        go_enter Try.func4, Try.ntmps4
        go_wp2_with fail
        refine (c3 s0 s1.1 _ _ X1.out).mono ?_
        rintro e w1 ⟨rfl, hb1⟩
        have HB1 : Below w.heap.size w w1 := bl_trans (bl_alloc (bl_alloc (bl_refl w) _) _) hb1
        have p1 : w1.cell? ⟨w.heap.size, 0, none⟩ = some (.int .i64 s0.1) := by rw [(bl_cell hb1).1 _ _ (by first | (simp; done) | (simp; omega))]; go_simp
        have p2 : w1.cell? ⟨w.heap.size, 1, none⟩ = some (.int .i64 s0.2) := by rw [(bl_cell hb1).1 _ _ (by first | (simp; done) | (simp; omega))]; go_simp
        have p3 : w1.cell? ⟨w.heap.size + 1, 0, none⟩ = some (.int .i64 s1.1) := by rw [(bl_cell hb1).1 _ _ (by first | (simp; done) | (simp; omega))]; go_simp
        have p4 : w1.cell? ⟨w.heap.size + 1, 1, none⟩ = some (.int .i64 s1.2) := by rw [(bl_cell hb1).1 _ _ (by first | (simp; done) | (simp; omega))]; go_simp
        clear hb1
        go_wp2_with fail
        refine (c3 s1 s0.1 _ _ X2.out).mono ?_
        rintro e w2 ⟨rfl, hb2⟩
        have HB2 : Below w.heap.size w w2 := bl_trans HB1 hb2
        have q1 := cell_later hb2 p1
        have q2 := cell_later hb2 p2
        have q3 := cell_later hb2 p3
        have q4 := cell_later hb2 p4
        clear hb2 p1 p2 p3 p4
        have l0 : w.heap.size < w2.heap.size := by have := World.block_lt_of_cell? w2 _ q1; exact this
        have l1 : w.heap.size + 1 < w2.heap.size := by have := World.block_lt_of_cell? w2 _ q3; exact this
        go_wp2_with fail
        refine wp_region_later (by kernel_rfl) (by kernel_rfl) ?_
        repeat (go_big_quiet_step (first
          | (go_at_call 19; exact later_call (c9 _ _ true _ (by first | exact T.out | exact T2.out)))
          | (go_at_call 17; first | exact later_call (c7 _ _ true _ (by first | exact O.out | exact O2.out)) | exact later_call (c7 _ _ false _ (by first | exact O.out | exact O2.out)))
          | exact rfl))
        refine wpQuiet_nil ?_
        rintro w9 ⟨⟨_, hb9⟩, rfl⟩
        have HB9 : Below w.heap.size w w9 := bl_trans HB2 hb9
        have z1 := cell_later hb9 q1
        have z2 := cell_later hb9 q2
        have z3 := cell_later hb9 q3
        have z4 := cell_later hb9 q4
        clear hb9 q1 q2 q3 q4
        cases wi
        · go_wp2_with (first | (go_at_call_of 15 (Value.agg #[.int .i64 s1.1, .int .i64 s1.2]); refine (c5 s0 s1 _ _ WI.out).mono ?_; rintro e w8 ⟨rfl, hb8⟩; have z1 := cell_later hb8 z1; have z2 := cell_later hb8 z2; have z3 := cell_later hb8 z3; have z4 := cell_later hb8 z4; have HB9 := bl_trans HB9 hb8; clear hb8) | (go_at_call 15; refine (c5 s0 s0 _ _ WS.out).mono ?_; rintro e w8 ⟨rfl, hb8⟩; have z1 := cell_later hb8 z1; have z2 := cell_later hb8 z2; have z3 := cell_later hb8 z3; have z4 := cell_later hb8 z4; have HB9 := bl_trans HB9 hb8; clear hb8) | (go_at_call_of 13 (Value.agg #[.int .i64 s1.1, .int .i64 s1.2]); refine (c3 s1 a2 _ _ Y2.out).mono ?_; rintro e w8 ⟨rfl, hb8⟩; have z1 := cell_later hb8 z1; have z2 := cell_later hb8 z2; have z3 := cell_later hb8 z3; have z4 := cell_later hb8 z4; have HB9 := bl_trans HB9 hb8; clear hb8) | (go_at_call 13; refine (c3 s0 a2 _ _ Y1.out).mono ?_; rintro e w8 ⟨rfl, hb8⟩; have z1 := cell_later hb8 z1; have z2 := cell_later hb8 z2; have z3 := cell_later hb8 z3; have z4 := cell_later hb8 z4; have HB9 := bl_trans HB9 hb8; clear hb8) | (go_at_call 17; refine (c7 s0 s1 _ _ O.out).mono ?_; rintro e w8 ⟨rfl, hb8⟩; have z1 := cell_later hb8 z1; have z2 := cell_later hb8 z2; have z3 := cell_later hb8 z3; have z4 := cell_later hb8 z4; have HB9 := bl_trans HB9 hb8; clear hb8) | (go_at_call 21; refine (awake5_any _).mono ?_; rintro e w8 ⟨rfl, hb8⟩; have z1 := cell_later hb8 z1; have z2 := cell_later hb8 z2; have z3 := cell_later hb8 z3; have z4 := cell_later hb8 z4; have HB9 := bl_trans HB9 hb8; clear hb8))
          all_goals first | (go_ret; exact ⟨rfl, HB9⟩) | (exfalso; have g6 := G6.out; simp at g6; omega)
        · cases y1
          · go_wp2_with (first | (go_at_call_of 15 (Value.agg #[.int .i64 s1.1, .int .i64 s1.2]); refine (c5 s0 s1 _ _ WI.out).mono ?_; rintro e w8 ⟨rfl, hb8⟩; have z1 := cell_later hb8 z1; have z2 := cell_later hb8 z2; have z3 := cell_later hb8 z3; have z4 := cell_later hb8 z4; have HB9 := bl_trans HB9 hb8; clear hb8) | (go_at_call 15; refine (c5 s0 s0 _ _ WS.out).mono ?_; rintro e w8 ⟨rfl, hb8⟩; have z1 := cell_later hb8 z1; have z2 := cell_later hb8 z2; have z3 := cell_later hb8 z3; have z4 := cell_later hb8 z4; have HB9 := bl_trans HB9 hb8; clear hb8) | (go_at_call_of 13 (Value.agg #[.int .i64 s1.1, .int .i64 s1.2]); refine (c3 s1 a2 _ _ Y2.out).mono ?_; rintro e w8 ⟨rfl, hb8⟩; have z1 := cell_later hb8 z1; have z2 := cell_later hb8 z2; have z3 := cell_later hb8 z3; have z4 := cell_later hb8 z4; have HB9 := bl_trans HB9 hb8; clear hb8) | (go_at_call 13; refine (c3 s0 a2 _ _ Y1.out).mono ?_; rintro e w8 ⟨rfl, hb8⟩; have z1 := cell_later hb8 z1; have z2 := cell_later hb8 z2; have z3 := cell_later hb8 z3; have z4 := cell_later hb8 z4; have HB9 := bl_trans HB9 hb8; clear hb8) | (go_at_call 17; refine (c7 s0 s1 _ _ O.out).mono ?_; rintro e w8 ⟨rfl, hb8⟩; have z1 := cell_later hb8 z1; have z2 := cell_later hb8 z2; have z3 := cell_later hb8 z3; have z4 := cell_later hb8 z4; have HB9 := bl_trans HB9 hb8; clear hb8) | (go_at_call 21; refine (awake5_any _).mono ?_; rintro e w8 ⟨rfl, hb8⟩; have z1 := cell_later hb8 z1; have z2 := cell_later hb8 z2; have z3 := cell_later hb8 z3; have z4 := cell_later hb8 z4; have HB9 := bl_trans HB9 hb8; clear hb8))
            all_goals first | (go_ret; exact ⟨rfl, HB9⟩) | (exfalso; have g6 := G6.out; simp at g6; omega)
          · obtain rfl : y2 = true := G5.out rfl rfl
            go_wp2_with (first | (go_at_call_of 15 (Value.agg #[.int .i64 s1.1, .int .i64 s1.2]); refine (c5 s0 s1 _ _ WI.out).mono ?_; rintro e w8 ⟨rfl, hb8⟩; have z1 := cell_later hb8 z1; have z2 := cell_later hb8 z2; have z3 := cell_later hb8 z3; have z4 := cell_later hb8 z4; have HB9 := bl_trans HB9 hb8; clear hb8) | (go_at_call 15; refine (c5 s0 s0 _ _ WS.out).mono ?_; rintro e w8 ⟨rfl, hb8⟩; have z1 := cell_later hb8 z1; have z2 := cell_later hb8 z2; have z3 := cell_later hb8 z3; have z4 := cell_later hb8 z4; have HB9 := bl_trans HB9 hb8; clear hb8) | (go_at_call_of 13 (Value.agg #[.int .i64 s1.1, .int .i64 s1.2]); refine (c3 s1 a2 _ _ Y2.out).mono ?_; rintro e w8 ⟨rfl, hb8⟩; have z1 := cell_later hb8 z1; have z2 := cell_later hb8 z2; have z3 := cell_later hb8 z3; have z4 := cell_later hb8 z4; have HB9 := bl_trans HB9 hb8; clear hb8) | (go_at_call 13; refine (c3 s0 a2 _ _ Y1.out).mono ?_; rintro e w8 ⟨rfl, hb8⟩; have z1 := cell_later hb8 z1; have z2 := cell_later hb8 z2; have z3 := cell_later hb8 z3; have z4 := cell_later hb8 z4; have HB9 := bl_trans HB9 hb8; clear hb8) | (go_at_call 17; refine (c7 s0 s1 _ _ O.out).mono ?_; rintro e w8 ⟨rfl, hb8⟩; have z1 := cell_later hb8 z1; have z2 := cell_later hb8 z2; have z3 := cell_later hb8 z3; have z4 := cell_later hb8 z4; have HB9 := bl_trans HB9 hb8; clear hb8) | (go_at_call 21; refine (awake5_any _).mono ?_; rintro e w8 ⟨rfl, hb8⟩; have z1 := cell_later hb8 z1; have z2 := cell_later hb8 z2; have z3 := cell_later hb8 z3; have z4 := cell_later hb8 z4; have HB9 := bl_trans HB9 hb8; clear hb8))
            all_goals first | (go_ret; exact ⟨rfl, HB9⟩) | (exfalso; have g6 := G6.out; simp at g6; omega)
    · obtain ⟨rfl, rfl, rfl, rfl⟩ : t = false ∧ x1 = false ∧ x2 = false ∧ o = false := by simpa using e
      clear e
      go_enter Try.func4, Try.ntmps4
      go_wp2_with fail
      refine (c3 s0 s1.1 _ _ X1.out).mono ?_
      rintro e w1 ⟨rfl, hb1⟩
      have HB1 : Below w.heap.size w w1 := bl_trans (bl_alloc (bl_alloc (bl_refl w) _) _) hb1
      have p1 : w1.cell? ⟨w.heap.size, 0, none⟩ = some (.int .i64 s0.1) := by rw [(bl_cell hb1).1 _ _ (by first | (simp; done) | (simp; omega))]; go_simp
      have p2 : w1.cell? ⟨w.heap.size, 1, none⟩ = some (.int .i64 s0.2) := by rw [(bl_cell hb1).1 _ _ (by first | (simp; done) | (simp; omega))]; go_simp
      have p3 : w1.cell? ⟨w.heap.size + 1, 0, none⟩ = some (.int .i64 s1.1) := by rw [(bl_cell hb1).1 _ _ (by first | (simp; done) | (simp; omega))]; go_simp
      have p4 : w1.cell? ⟨w.heap.size + 1, 1, none⟩ = some (.int .i64 s1.2) := by rw [(bl_cell hb1).1 _ _ (by first | (simp; done) | (simp; omega))]; go_simp
      clear hb1
      go_wp2_with fail
      refine (c3 s1 s0.1 _ _ X2.out).mono ?_
      rintro e w2 ⟨rfl, hb2⟩
      have HB2 : Below w.heap.size w w2 := bl_trans HB1 hb2
      have q1 := cell_later hb2 p1
      have q2 := cell_later hb2 p2
      have q3 := cell_later hb2 p3
      have q4 := cell_later hb2 p4
      clear hb2 p1 p2 p3 p4
      have l0 : w.heap.size < w2.heap.size := by have := World.block_lt_of_cell? w2 _ q1; exact this
      have l1 : w.heap.size + 1 < w2.heap.size := by have := World.block_lt_of_cell? w2 _ q3; exact this
      go_wp2_with fail
      refine wp_region_later (by kernel_rfl) (by kernel_rfl) ?_
      repeat (go_big_quiet_step (first
        | (go_at_call 19; exact later_call (c9 _ _ false _ (by first | exact T.out | exact T2.out)))
        | (go_at_call 17; exact later_call (c7 _ _ false _ (by first | exact O.out | exact O2.out)))
        | exact rfl))
      refine wpQuiet_nil ?_
      rintro w9 ⟨⟨_, hb9⟩, rfl⟩
      have HB9 : Below w.heap.size w w9 := bl_trans HB2 hb9
      have z1 := cell_later hb9 q1
      have z2 := cell_later hb9 q2
      have z3 := cell_later hb9 q3
      have z4 := cell_later hb9 q4
      clear hb9 q1 q2 q3 q4
      cases wi
      · go_wp2_with (first | (go_at_call_of 15 (Value.agg #[.int .i64 s1.1, .int .i64 s1.2]); refine (c5 s0 s1 _ _ WI.out).mono ?_; rintro e w8 ⟨rfl, hb8⟩; have z1 := cell_later hb8 z1; have z2 := cell_later hb8 z2; have z3 := cell_later hb8 z3; have z4 := cell_later hb8 z4; have HB9 := bl_trans HB9 hb8; clear hb8) | (go_at_call 15; refine (c5 s0 s0 _ _ WS.out).mono ?_; rintro e w8 ⟨rfl, hb8⟩; have z1 := cell_later hb8 z1; have z2 := cell_later hb8 z2; have z3 := cell_later hb8 z3; have z4 := cell_later hb8 z4; have HB9 := bl_trans HB9 hb8; clear hb8) | (go_at_call_of 13 (Value.agg #[.int .i64 s1.1, .int .i64 s1.2]); refine (c3 s1 a2 _ _ Y2.out).mono ?_; rintro e w8 ⟨rfl, hb8⟩; have z1 := cell_later hb8 z1; have z2 := cell_later hb8 z2; have z3 := cell_later hb8 z3; have z4 := cell_later hb8 z4; have HB9 := bl_trans HB9 hb8; clear hb8) | (go_at_call 13; refine (c3 s0 a2 _ _ Y1.out).mono ?_; rintro e w8 ⟨rfl, hb8⟩; have z1 := cell_later hb8 z1; have z2 := cell_later hb8 z2; have z3 := cell_later hb8 z3; have z4 := cell_later hb8 z4; have HB9 := bl_trans HB9 hb8; clear hb8) | (go_at_call 17; refine (c7 s0 s1 _ _ O.out).mono ?_; rintro e w8 ⟨rfl, hb8⟩; have z1 := cell_later hb8 z1; have z2 := cell_later hb8 z2; have z3 := cell_later hb8 z3; have z4 := cell_later hb8 z4; have HB9 := bl_trans HB9 hb8; clear hb8) | (go_at_call 21; refine (awake5_any _).mono ?_; rintro e w8 ⟨rfl, hb8⟩; have z1 := cell_later hb8 z1; have z2 := cell_later hb8 z2; have z3 := cell_later hb8 z3; have z4 := cell_later hb8 z4; have HB9 := bl_trans HB9 hb8; clear hb8))
        all_goals first | (go_ret; exact ⟨rfl, HB9⟩) | (exfalso; have g6 := G6.out; simp at g6; omega)
      · cases y1
        · go_wp2_with (first | (go_at_call_of 15 (Value.agg #[.int .i64 s1.1, .int .i64 s1.2]); refine (c5 s0 s1 _ _ WI.out).mono ?_; rintro e w8 ⟨rfl, hb8⟩; have z1 := cell_later hb8 z1; have z2 := cell_later hb8 z2; have z3 := cell_later hb8 z3; have z4 := cell_later hb8 z4; have HB9 := bl_trans HB9 hb8; clear hb8) | (go_at_call 15; refine (c5 s0 s0 _ _ WS.out).mono ?_; rintro e w8 ⟨rfl, hb8⟩; have z1 := cell_later hb8 z1; have z2 := cell_later hb8 z2; have z3 := cell_later hb8 z3; have z4 := cell_later hb8 z4; have HB9 := bl_trans HB9 hb8; clear hb8) | (go_at_call_of 13 (Value.agg #[.int .i64 s1.1, .int .i64 s1.2]); refine (c3 s1 a2 _ _ Y2.out).mono ?_; rintro e w8 ⟨rfl, hb8⟩; have z1 := cell_later hb8 z1; have z2 := cell_later hb8 z2; have z3 := cell_later hb8 z3; have z4 := cell_later hb8 z4; have HB9 := bl_trans HB9 hb8; clear hb8) | (go_at_call 13; refine (c3 s0 a2 _ _ Y1.out).mono ?_; rintro e w8 ⟨rfl, hb8⟩; have z1 := cell_later hb8 z1; have z2 := cell_later hb8 z2; have z3 := cell_later hb8 z3; have z4 := cell_later hb8 z4; have HB9 := bl_trans HB9 hb8; clear hb8) | (go_at_call 17; refine (c7 s0 s1 _ _ O.out).mono ?_; rintro e w8 ⟨rfl, hb8⟩; have z1 := cell_later hb8 z1; have z2 := cell_later hb8 z2; have z3 := cell_later hb8 z3; have z4 := cell_later hb8 z4; have HB9 := bl_trans HB9 hb8; clear hb8) | (go_at_call 21; refine (awake5_any _).mono ?_; rintro e w8 ⟨rfl, hb8⟩; have z1 := cell_later hb8 z1; have z2 := cell_later hb8 z2; have z3 := cell_later hb8 z3; have z4 := cell_later hb8 z4; have HB9 := bl_trans HB9 hb8; clear hb8))
          all_goals first | (go_ret; exact ⟨rfl, HB9⟩) | (exfalso; have g6 := G6.out; simp at g6; omega)
        · obtain rfl : y2 = true := G5.out rfl rfl
          go_wp2_with (first | (go_at_call_of 15 (Value.agg #[.int .i64 s1.1, .int .i64 s1.2]); refine (c5 s0 s1 _ _ WI.out).mono ?_; rintro e w8 ⟨rfl, hb8⟩; have z1 := cell_later hb8 z1; have z2 := cell_later hb8 z2; have z3 := cell_later hb8 z3; have z4 := cell_later hb8 z4; have HB9 := bl_trans HB9 hb8; clear hb8) | (go_at_call 15; refine (c5 s0 s0 _ _ WS.out).mono ?_; rintro e w8 ⟨rfl, hb8⟩; have z1 := cell_later hb8 z1; have z2 := cell_later hb8 z2; have z3 := cell_later hb8 z3; have z4 := cell_later hb8 z4; have HB9 := bl_trans HB9 hb8; clear hb8) | (go_at_call_of 13 (Value.agg #[.int .i64 s1.1, .int .i64 s1.2]); refine (c3 s1 a2 _ _ Y2.out).mono ?_; rintro e w8 ⟨rfl, hb8⟩; have z1 := cell_later hb8 z1; have z2 := cell_later hb8 z2; have z3 := cell_later hb8 z3; have z4 := cell_later hb8 z4; have HB9 := bl_trans HB9 hb8; clear hb8) | (go_at_call 13; refine (c3 s0 a2 _ _ Y1.out).mono ?_; rintro e w8 ⟨rfl, hb8⟩; have z1 := cell_later hb8 z1; have z2 := cell_later hb8 z2; have z3 := cell_later hb8 z3; have z4 := cell_later hb8 z4; have HB9 := bl_trans HB9 hb8; clear hb8) | (go_at_call 17; refine (c7 s0 s1 _ _ O.out).mono ?_; rintro e w8 ⟨rfl, hb8⟩; have z1 := cell_later hb8 z1; have z2 := cell_later hb8 z2; have z3 := cell_later hb8 z3; have z4 := cell_later hb8 z4; have HB9 := bl_trans HB9 hb8; clear hb8) | (go_at_call 21; refine (awake5_any _).mono ?_; rintro e w8 ⟨rfl, hb8⟩; have z1 := cell_later hb8 z1; have z2 := cell_later hb8 z2; have z3 := cell_later hb8 z3; have z4 := cell_later hb8 z4; have HB9 := bl_trans HB9 hb8; clear hb8))
          all_goals first | (go_ret; exact ⟨rfl, HB9⟩) | (exfalso; have g6 := G6.out; simp at g6; omega)

set_option maxRecDepth 100000 in
theorem lifted (os : Os) (started : os.Started) (H : Type) (enc : TypeId × Value → H) :
    ReturnsInHanded {} Try.checked os 4 .any (Rows.spanAgreeSpec.pre6 enc Try.prog Try.f4 Rows.spanAgreeRow.domain false) (Rows.spanAgreeSpec.post enc Try.prog Try.f4 false true false false) := by
  refine returnsInHanded_of_change (C := Try.checked) own started (by kernel_rfl) Try.func4
    (ChangeSpec.witness6 (enc := enc) (C := Try.checked) false ⟨#[], #[.agg #[.int .i64 0, .int .i64 0], .agg #[.int .i64 0, .int .i64 0], .int .i64 0], []⟩ 8 (by kernel_rfl) (by kernel_rfl) (by kernel_rfl) (by kernel_rfl)) ?_
  intro W base args ds gs before hval0 hW hcnd _
  have hval : ∀ (j : Nat) t v, Try.f4.params[j]? = some t → args[j]? = some v → Value.okWide Try.prog W .any base t v := hval0
  have hW' := hW
  obtain ⟨p, q, hA0, hV, rfl, hfz, hnd⟩ := hW
  have hA : DataW.TrodAll enc Try.prog W 0 (fun _ => true) true Try.f4.params.toList args.toList ds p := hA0
  rw [Try.params4] at hA hval
  obtain ⟨v0, vs0, d0, ds0, p0, q0, hargs, rfl, rfl, h0, r0⟩ := trodAll_cons hA
  obtain ⟨v1, vs1, d1, ds1, p1, q1, rfl, rfl, rfl, h1, r1⟩ := trodAll_cons r0
  obtain ⟨v2, vs2, d2, ds2, p2, q2, rfl, rfl, rfl, h2, r2⟩ := trodAll_cons r1
  obtain ⟨rfl, rfl, rfl⟩ := trodAll_nil r2
  obtain rfl : args = #[v0, v1, v2] := by cases args; simp_all
  obtain ⟨rfl, rfl⟩ := trodVars_none hV
  have k0 := h0
  have lt0 : ∀ x ∈ p0, x.block < W.heap.size := by obtain ⟨m, hm⟩ := k0; exact DataW.trod_lt m _ _ _ hm
  obtain ⟨s0, rfl, b0⟩ := open_span (hval 0 23 v0 rfl rfl) h0
  have k1 := h1
  have lt1 : ∀ x ∈ p1, x.block < W.heap.size := by obtain ⟨m, hm⟩ := k1; exact DataW.trod_lt m _ _ _ hm
  obtain ⟨s1, rfl, b1⟩ := open_span (hval 1 23 v1 rfl rfl) h1
  have k2 := h2
  have lt2 : ∀ x ∈ p2, x.block < W.heap.size := by obtain ⟨m, hm⟩ := k2; exact DataW.trod_lt m _ _ _ hm
  obtain ⟨a2, rfl, hd2, hp2, w2⟩ := open_int Try.underlying3 (hval 2 3 v2 rfl rfl) h2
  clear hA0 hval0
  refine (walk s0 s1 a2 W b0 b1 w2).mono fun e W' ⟨he, bel⟩ => ?_
  subst he
  exact ⟨_, rfl, _, _, _, [], _, [], hW', trodAll_mk1 (shut_bool Try.underlying4 _), (trodAll_cons_mk (Below.trod laidOut (by kernel_rfl) (of_decide_eq_true (by kernel_rfl)) k0 bel lt0) (trodAll_cons_mk (Below.trod laidOut (by kernel_rfl) (of_decide_eq_true (by kernel_rfl)) k1 bel lt1) (trodAll_cons_mk (Below.trod laidOut (by kernel_rfl) (of_decide_eq_true (by kernel_rfl)) k2 bel lt2) trodAll_mk0))), rfl, bel.frame _, fun h => by cases h⟩

theorem over : Rows.spanAgreeRow.holds Try.pinned (OpenSpec.ofChange Rows.spanAgreeSpec) :=
  OpenClaim.holds_of_wide 4 Try.f4 rfl rfl rfl rfl rfl rfl rfl ⟨rfl, rfl, rfl, rfl, rfl⟩ rfl rfl rfl rfl rfl (by kernel_rfl) Try.func4 (by kernel_rfl)
    (of_decide_eq_true (by kernel_rfl)) (by unfold Func.isWrapper; first | (rw [if_pos (by decide +kernel)]; kernel_rfl) | (rw [if_neg (by decide +kernel)]; exact ⟨rfl, rfl⟩))
    (fun os started H enc _ => lifted os started H enc)

theorem proved : Rows.SpanAgreeSaid := over
end Go.Proofs.Ytepmkpjpdidfkaa.spanAgree
