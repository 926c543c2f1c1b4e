/- From any offset of any text, any way, a caret goes where the document tells. Conditions: none beyond the form's own. -/
import Derived.Test.YtjcmbnmejkhcjaaRows
import Derived.Test.YtjcmbnmejkhcjaaArgs
import Derived.Test.YtjcmbnmejkhcjaaMotEnd
namespace Go.Proofs.Ytjcmbnmejkhcjaa.stepTells
open Go.Proofs.Ytjcmbnmejkhcjaa
open Go.ChangeShapes Go.WideShapes Go.ChangeAt Go.RowKit Go.Deep
open Go.ChangeMaps (open_string shut_string)
set_option linter.unusedVariables false

theorem own : ownKnob Try.prog.godebug = none := by kernel_rfl
theorem laidOut : laidOutB Try.prog = true := by kernel_rfl
-- opt:16000000
attribute [local go_sem ↓] Go.wp_at_zero Go.wp_at_succ
set_option maxRecDepth 100000 in
set_option maxHeartbeats 16000000 in
theorem walk (a0 : ByteArray) (a1 : Int) (a2 : Int) (w : World) (w0 : a0.size ≤ maxLen) (w1 : (Lit.int .i64 a1).wf = true) (w2 : (Lit.int .i64 a2).wf = true) :
    Calls Try.prog 3 #[.string a0, .int .i64 a1, .int .i64 a2] w fun e w' => e = .returned (.bool true) ∧ Below w.heap.size w w' := by
  by_cases h0 : a0.size ≤ 200
  · have g0 : decide (200 < (a0.size : Int)) = false := decide_eq_false (by omega)
    have hxl : a0.data.toList.length = a0.size := rfl
    have hlt_p := lowN_lt a1 (a0.size + 1) (by omega)
    have hlw_p : ∀ W, Calls Try.prog 14 #[.int .i64 a1, .int .i64 ((a0.size : Int) + 1)] W fun e w' => e = .returned (.int .i64 (lowN a1 (a0.size + 1) : Nat)) ∧ W = w' := fun W => low_any a1 (a0.size + 1) W (by omega) (by omega)
    have HLW_p := hide hlw_p
    clear hlw_p
    generalize lowN a1 (a0.size + 1) = p at *
    have hlt_q := lowN_lt a2 (10) (by omega)
    have hlw_q : ∀ W, Calls Try.prog 14 #[.int .i64 a2, .int .i64 (10)] W fun e w' => e = .returned (.int .i64 (lowN a2 (10) : Nat)) ∧ W = w' := fun W => low_any a2 (10) W (by omega) (by omega)
    have HLW_q := hide hlw_q
    clear hlw_q
    generalize lowN a2 (10) = q at *
    have hw1 : IntKind.i64.wrap (1 + (q : Int)) = 1 + (q : Int) := IntWalk.i64_in _ (by omega)
    have HS1 := hide (fun (W : World) (r : Nat) (h : LnAt W r a0) => Step_m h (by omega) a1 a2)
    have HR1 := hide (fun W => rStep_m a0 a1 a2 W (by omega))
    have HS2 := hide (fun (W : World) (r : Nat) (h : LnAt W r a0) => Step_m h (by omega) p (1 + q))
    have HR2 := hide (fun W => rStep_m a0 p (1 + q) W (by omega))
    generalize stA a0.data.toList a1 a2 = x1 at *
    generalize stE a0.data.toList a1 a2 = x2 at *
    generalize stA a0.data.toList p (1 + q) = x3 at *
    generalize stE a0.data.toList p (1 + q) = x4 at *
    clear hxl
    go_enter Try.func3, Try.ntmps3
    go_wp2_with fail
    refine (of9_b a0 _ (by omega)).mono ?_
    rintro e w1 ⟨r, rfl, hL, hb1, _⟩
    have c0 := ln_c0 w1 r
    have HB := hide (bl_trans hb1 (ln_b0 w1 r))
    have HL := hide (hL.bl (ln_b0 w1 r))
    clear hL hb1
    go_wp2_with fail
    (with_reducible refine (HS1.out _ _ HL.out).mono ?_)
    rintro e v1 ⟨rfl, hb⟩
    have c0 := cell_later hb c0
    have HB := hide (bl_trans HB.out hb)
    have HL := hide (HL.out.bl hb)
    clear hb
    go_wp2_with fail
    (with_reducible refine (HR1.out _).mono ?_)
    rintro e v2 ⟨rfl, hb⟩
    have c0 := cell_later hb c0
    have HB := hide (bl_trans HB.out hb)
    have HL := hide (HL.out.bl hb)
    clear hb
    go_wp2_with fail
    (with_reducible refine (HLW_p.out _).mono ?_)
    rintro e u3 ⟨rfl, hw3⟩
    subst hw3
    go_wp2_with fail
    (with_reducible refine (HLW_q.out _).mono ?_)
    rintro e u4 ⟨rfl, hw4⟩
    subst hw4
    go_wp2_with fail
    (with_reducible refine (HS2.out _ _ HL.out).mono ?_)
    rintro e v5 ⟨rfl, hb⟩
    have c0 := cell_later hb c0
    have HB := hide (bl_trans HB.out hb)
    have HL := hide (HL.out.bl hb)
    clear hb
    go_wp2_with fail
    (with_reducible refine (HR2.out _).mono ?_)
    rintro e v6 ⟨rfl, hb⟩
    have c0 := cell_later hb c0
    have HB := hide (bl_trans HB.out hb)
    have HL := hide (HL.out.bl hb)
    clear hb
    go_wp2_with fail
    refine (awake9_any _).mono ?_
    rintro e w9 ⟨rfl, hb⟩
    have HB := hide (bl_trans HB.out hb)
    go_wp2
    go_ret
    exact ⟨rfl, HB.out⟩
  · have g0 : decide (200 < (a0.size : Int)) = true := decide_eq_true (by omega)
    go_enter Try.func3, Try.ntmps3
    go_wp2_with fail
    refine (awake9_any _).mono ?_
    rintro e w9 ⟨rfl, hb⟩
    go_wp2
    go_ret
    exact ⟨rfl, hb⟩

set_option maxRecDepth 100000 in
theorem lifted (os : Os) (started : os.Started) (H : Type) (enc : TypeId × Value → H) :
    ReturnsInHanded {} Try.checked os 3 .any (Rows.stepTellsSpec.pre6 enc Try.prog Try.f3 Rows.stepTellsRow.domain false) (Rows.stepTellsSpec.post enc Try.prog Try.f3 false true false false) := by
  refine returnsInHanded_of_change (C := Try.checked) own started (by kernel_rfl) Try.func3
    (ChangeSpec.witness6 (enc := enc) (C := Try.checked) false ⟨#[], #[.string ByteArray.empty, .int .i64 0, .int .i64 0], []⟩ 8 (by kernel_rfl) (by kernel_rfl) (by kernel_rfl) (by kernel_rfl)) ?_
  intro W base args ds gs before hval0 hW hcnd _
  have hval : ∀ (j : Nat) t v, Try.f3.params[j]? = some t → args[j]? = some v → Value.okWide Try.prog W .any base t v := hval0
  have hW' := hW
  obtain ⟨p, q, hA0, hV, rfl, hfz, hnd⟩ := hW
  have hA : DataW.TrodAll enc Try.prog W 0 (fun _ => true) true Try.f3.params.toList args.toList ds p := hA0
  rw [Try.params3] at hA hval
  obtain ⟨v0, vs0, d0, ds0, p0, q0, hargs, rfl, rfl, h0, r0⟩ := trodAll_cons hA
  obtain ⟨v1, vs1, d1, ds1, p1, q1, rfl, rfl, rfl, h1, r1⟩ := trodAll_cons r0
  obtain ⟨v2, vs2, d2, ds2, p2, q2, rfl, rfl, rfl, h2, r2⟩ := trodAll_cons r1
  obtain ⟨rfl, rfl, rfl⟩ := trodAll_nil r2
  obtain rfl : args = #[v0, v1, v2] := by cases args; simp_all
  obtain ⟨rfl, rfl⟩ := trodVars_none hV
  have k0 := h0
  have lt0 : ∀ x ∈ p0, x.block < W.heap.size := by obtain ⟨m, hm⟩ := k0; exact DataW.trod_lt m _ _ _ hm
  obtain ⟨a0, rfl, hd0, hp0, w0⟩ := open_string Try.underlying9 (hval 0 9 v0 rfl rfl) h0
  have k1 := h1
  have lt1 : ∀ x ∈ p1, x.block < W.heap.size := by obtain ⟨m, hm⟩ := k1; exact DataW.trod_lt m _ _ _ hm
  obtain ⟨a1, rfl, hd1, hp1, w1⟩ := open_int Try.underlying3 (hval 1 3 v1 rfl rfl) h1
  have k2 := h2
  have lt2 : ∀ x ∈ p2, x.block < W.heap.size := by obtain ⟨m, hm⟩ := k2; exact DataW.trod_lt m _ _ _ hm
  obtain ⟨a2, rfl, hd2, hp2, w2⟩ := open_int Try.underlying3 (hval 2 3 v2 rfl rfl) h2
  clear hA0 hval0
  refine (walk a0 a1 a2 W w0 w1 w2).mono fun e W' ⟨he, bel⟩ => ?_
  subst he
  exact ⟨_, rfl, _, _, _, [], _, [], hW', trodAll_mk1 (shut_bool Try.underlying4 _), (trodAll_cons_mk (Below.trod laidOut (by kernel_rfl) (of_decide_eq_true (by kernel_rfl)) k0 bel lt0) (trodAll_cons_mk (Below.trod laidOut (by kernel_rfl) (of_decide_eq_true (by kernel_rfl)) k1 bel lt1) (trodAll_cons_mk (Below.trod laidOut (by kernel_rfl) (of_decide_eq_true (by kernel_rfl)) k2 bel lt2) trodAll_mk0))), rfl, bel.frame _, fun h => by cases h⟩

theorem over : Rows.stepTellsRow.holds Try.pinned (OpenSpec.ofChange Rows.stepTellsSpec) :=
  OpenClaim.holds_of_wide 3 Try.f3 rfl rfl rfl rfl rfl rfl rfl ⟨rfl, rfl, rfl, rfl, rfl⟩ rfl rfl rfl rfl rfl (by kernel_rfl) Try.func3 (by kernel_rfl)
    (of_decide_eq_true (by kernel_rfl)) (by unfold Func.isWrapper; first | (rw [if_pos (by decide +kernel)]; kernel_rfl) | (rw [if_neg (by decide +kernel)]; exact ⟨rfl, rfl⟩))
    (fun os started H enc _ => lifted os started H enc)

theorem proved : Rows.StepTellsSaid := over
end Go.Proofs.Ytjcmbnmejkhcjaa.stepTells
