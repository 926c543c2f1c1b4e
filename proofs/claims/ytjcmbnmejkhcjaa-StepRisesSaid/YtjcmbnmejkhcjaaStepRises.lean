/- Of two offsets the one that is no later goes no later, any way. Conditions: none beyond the form's own. -/
import Derived.Test.YtjcmbnmejkhcjaaRows
import Derived.Test.YtjcmbnmejkhcjaaArgs
import Derived.Test.YtjcmbnmejkhcjaaMotEnd
namespace Go.Proofs.Ytjcmbnmejkhcjaa.stepRises
open Go.Proofs.Ytjcmbnmejkhcjaa
open Go.ChangeShapes Go.WideShapes Go.ChangeAt Go.RowKit Go.Deep
open Go.ChangeMaps (open_string shut_string)
set_option linter.unusedVariables false

theorem own : ownKnob Try.prog.godebug = none := by kernel_rfl
theorem laidOut : laidOutB Try.prog = true := by kernel_rfl
-- opt:16000000
attribute [local go_sem ↓] Go.wp_at_zero Go.wp_at_succ
set_option maxRecDepth 100000 in
set_option maxHeartbeats 16000000 in
theorem walk (a0 : ByteArray) (a1 : Int) (a2 : Int) (a3 : Int) (w : World) (w0 : a0.size ≤ maxLen) (w1 : (Lit.int .i64 a1).wf = true) (w2 : (Lit.int .i64 a2).wf = true) (w3 : (Lit.int .i64 a3).wf = true) :
    Calls Try.prog 4 #[.string a0, .int .i64 a1, .int .i64 a2, .int .i64 a3] w fun e w' => e = .returned (.bool true) ∧ Below w.heap.size w w' := by
  by_cases h0 : a0.size ≤ 200
  · have g0 : decide (200 < (a0.size : Int)) = false := decide_eq_false (by omega)
    have hxl : a0.data.toList.length = a0.size := rfl
    have hlt_p := lowN_lt a1 (a0.size + 1) (by omega)
    have hlw_p : ∀ W, Calls Try.prog 14 #[.int .i64 a1, .int .i64 ((a0.size : Int) + 1)] W fun e w' => e = .returned (.int .i64 (lowN a1 (a0.size + 1) : Nat)) ∧ W = w' := fun W => low_any a1 (a0.size + 1) W (by omega) (by omega)
    have HLW_p := hide hlw_p
    clear hlw_p
    generalize lowN a1 (a0.size + 1) = p at *
    have hlt_q := lowN_lt a2 (a0.size + 1) (by omega)
    have hlw_q : ∀ W, Calls Try.prog 14 #[.int .i64 a2, .int .i64 ((a0.size : Int) + 1)] W fun e w' => e = .returned (.int .i64 (lowN a2 (a0.size + 1) : Nat)) ∧ W = w' := fun W => low_any a2 (a0.size + 1) W (by omega) (by omega)
    have HLW_q := hide hlw_q
    clear hlw_q
    generalize lowN a2 (a0.size + 1) = q at *
    have hlt_z := lowN_lt a3 (10) (by omega)
    have hlw_z : ∀ W, Calls Try.prog 14 #[.int .i64 a3, .int .i64 (10)] W fun e w' => e = .returned (.int .i64 (lowN a3 (10) : Nat)) ∧ W = w' := fun W => low_any a3 (10) W (by omega) (by omega)
    have HLW_z := hide hlw_z
    clear hlw_z
    generalize lowN a3 (10) = z at *
    have hw1 : IntKind.i64.wrap (1 + (z : Int)) = 1 + (z : Int) := IntWalk.i64_in _ (by omega)
    rcases Nat.lt_trichotomy p q with hpq | hpq | hpq
    · have hmono := stepM_mono a0.data.toList p q (1 + z) (by omega) (by omega)
      have hle := stepM_le a0.data.toList q (1 + z) (by omega)
      rw [hxl] at hle
      have HS1 := hide (fun (W : World) (r : Nat) (h : LnAt W r a0) => Step_k h (by omega) p (by omega) (1 + z) (by omega) (by omega) _ rfl)
      have HS2 := hide (fun (W : World) (r : Nat) (h : LnAt W r a0) => Step_k h (by omega) q (by omega) (1 + z) (by omega) (by omega) _ rfl)
      generalize stepM a0.data.toList p (1 + z) = c at *
      generalize stepM a0.data.toList q (1 + z) = d at *
      have dmi : decide ((c : Int) ≤ (d : Int)) = true := decide_eq_true (by omega)
      have dmn : decide (c ≤ d) = true := decide_eq_true (by omega)
      have dli : decide ((d : Int) ≤ (a0.size : Int)) = true := decide_eq_true (by omega)
      have dln : decide (d ≤ a0.size) = true := decide_eq_true (by omega)
      have o1 : (p : Int) ≤ (q : Int) := by omega
      have o2 : ¬ (q : Int) < (p : Int) := by omega
      have o3 : ¬ (q : Int) ≤ (p : Int) := by omega
      have o4 : p ≤ q := by omega
      have o7 : min (p : Int) (q : Int) = (p : Int) := by omega
      have o8 : max (p : Int) (q : Int) = (q : Int) := by omega
      have o5 : ¬ q < p := by omega
      have o6 : ¬ q ≤ p := by omega
      clear hmono hle hpq hxl
      go_enter Try.func4, Try.ntmps4
      go_wp2_with fail
      refine (of9_b a0 _ (by omega)).mono ?_
      rintro e w1 ⟨r, rfl, hL, hb1, _⟩
      have c0 := ln_c0 w1 r
      have HB := hide (bl_trans hb1 (ln_b0 w1 r))
      have HL := hide (hL.bl (ln_b0 w1 r))
      clear hL hb1
      go_wp2_with fail
      (with_reducible refine (HLW_p.out _).mono ?_)
      rintro e u7 ⟨rfl, hw7⟩
      subst hw7
      go_wp2_with fail
      (with_reducible refine (HLW_q.out _).mono ?_)
      rintro e u8 ⟨rfl, hw8⟩
      subst hw8
      go_wp2_with fail
      (with_reducible refine (HLW_z.out _).mono ?_)
      rintro e u9 ⟨rfl, hw9⟩
      subst hw9
      go_wp2_with fail
      (with_reducible refine (HS1.out _ _ HL.out).mono ?_)
      rintro e v10 ⟨rfl, hb⟩
      have c0 := cell_later hb c0
      have HB := hide (bl_trans HB.out hb)
      have HL := hide (HL.out.bl hb)
      clear hb
      go_wp2_with fail
      (with_reducible refine (HS2.out _ _ HL.out).mono ?_)
      rintro e v11 ⟨rfl, hb⟩
      have c0 := cell_later hb c0
      have HB := hide (bl_trans HB.out hb)
      have HL := hide (HL.out.bl hb)
      clear hb
      go_wp2_with fail
      refine (awake9_any _).mono ?_
      rintro e w9 ⟨rfl, hb⟩
      have HB := hide (bl_trans HB.out hb)
      go_wp2
      go_ret
      exact ⟨rfl, HB.out⟩
    · subst hpq
      have hmono := stepM_mono a0.data.toList p p (1 + z) (by omega) (by omega)
      have hle := stepM_le a0.data.toList p (1 + z) (by omega)
      rw [hxl] at hle
      have HS1 := hide (fun (W : World) (r : Nat) (h : LnAt W r a0) => Step_k h (by omega) p (by omega) (1 + z) (by omega) (by omega) _ rfl)
      have HS2 := hide (fun (W : World) (r : Nat) (h : LnAt W r a0) => Step_k h (by omega) p (by omega) (1 + z) (by omega) (by omega) _ rfl)
      generalize stepM a0.data.toList p (1 + z) = c at *
      have d1 : decide ((c : Int) ≤ (c : Int)) = true := decide_eq_true (by omega)
      have dli : decide ((c : Int) ≤ (a0.size : Int)) = true := decide_eq_true (by omega)
      have dln : decide (c ≤ a0.size) = true := decide_eq_true (by omega)
      clear hmono hle hxl
      go_enter Try.func4, Try.ntmps4
      go_wp2_with fail
      refine (of9_b a0 _ (by omega)).mono ?_
      rintro e w1 ⟨r, rfl, hL, hb1, _⟩
      have c0 := ln_c0 w1 r
      have HB := hide (bl_trans hb1 (ln_b0 w1 r))
      have HL := hide (hL.bl (ln_b0 w1 r))
      clear hL hb1
      go_wp2_with fail
      (with_reducible refine (HLW_p.out _).mono ?_)
      rintro e u12 ⟨rfl, hw12⟩
      subst hw12
      go_wp2_with fail
      (with_reducible refine (HLW_q.out _).mono ?_)
      rintro e u13 ⟨rfl, hw13⟩
      subst hw13
      go_wp2_with fail
      (with_reducible refine (HLW_z.out _).mono ?_)
      rintro e u14 ⟨rfl, hw14⟩
      subst hw14
      go_wp2_with fail
      (with_reducible refine (HS1.out _ _ HL.out).mono ?_)
      rintro e v15 ⟨rfl, hb⟩
      have c0 := cell_later hb c0
      have HB := hide (bl_trans HB.out hb)
      have HL := hide (HL.out.bl hb)
      clear hb
      go_wp2_with fail
      (with_reducible refine (HS2.out _ _ HL.out).mono ?_)
      rintro e v16 ⟨rfl, hb⟩
      have c0 := cell_later hb c0
      have HB := hide (bl_trans HB.out hb)
      have HL := hide (HL.out.bl hb)
      clear hb
      go_wp2_with fail
      refine (awake9_any _).mono ?_
      rintro e w9 ⟨rfl, hb⟩
      have HB := hide (bl_trans HB.out hb)
      go_wp2
      go_ret
      exact ⟨rfl, HB.out⟩
    · have hmono := stepM_mono a0.data.toList q p (1 + z) (by omega) (by omega)
      have hle := stepM_le a0.data.toList p (1 + z) (by omega)
      rw [hxl] at hle
      have HS1 := hide (fun (W : World) (r : Nat) (h : LnAt W r a0) => Step_k h (by omega) q (by omega) (1 + z) (by omega) (by omega) _ rfl)
      have HS2 := hide (fun (W : World) (r : Nat) (h : LnAt W r a0) => Step_k h (by omega) p (by omega) (1 + z) (by omega) (by omega) _ rfl)
      generalize stepM a0.data.toList q (1 + z) = c at *
      generalize stepM a0.data.toList p (1 + z) = d at *
      have dmi : decide ((c : Int) ≤ (d : Int)) = true := decide_eq_true (by omega)
      have dmn : decide (c ≤ d) = true := decide_eq_true (by omega)
      have dli : decide ((d : Int) ≤ (a0.size : Int)) = true := decide_eq_true (by omega)
      have dln : decide (d ≤ a0.size) = true := decide_eq_true (by omega)
      have o1 : (q : Int) ≤ (p : Int) := by omega
      have o2 : ¬ (p : Int) < (q : Int) := by omega
      have o3 : ¬ (p : Int) ≤ (q : Int) := by omega
      have o4 : q ≤ p := by omega
      have o7 : min (p : Int) (q : Int) = (q : Int) := by omega
      have o8 : max (p : Int) (q : Int) = (p : Int) := by omega
      have o5 : ¬ p < q := by omega
      have o6 : ¬ p ≤ q := by omega
      clear hmono hle hpq hxl
      go_enter Try.func4, Try.ntmps4
      go_wp2_with fail
      refine (of9_b a0 _ (by omega)).mono ?_
      rintro e w1 ⟨r, rfl, hL, hb1, _⟩
      have c0 := ln_c0 w1 r
      have HB := hide (bl_trans hb1 (ln_b0 w1 r))
      have HL := hide (hL.bl (ln_b0 w1 r))
      clear hL hb1
      go_wp2_with fail
      (with_reducible refine (HLW_p.out _).mono ?_)
      rintro e u17 ⟨rfl, hw17⟩
      subst hw17
      go_wp2_with fail
      (with_reducible refine (HLW_q.out _).mono ?_)
      rintro e u18 ⟨rfl, hw18⟩
      subst hw18
      go_wp2_with fail
      (with_reducible refine (HLW_z.out _).mono ?_)
      rintro e u19 ⟨rfl, hw19⟩
      subst hw19
      go_wp2_with fail
      (with_reducible refine (HS1.out _ _ HL.out).mono ?_)
      rintro e v20 ⟨rfl, hb⟩
      have c0 := cell_later hb c0
      have HB := hide (bl_trans HB.out hb)
      have HL := hide (HL.out.bl hb)
      clear hb
      go_wp2_with fail
      (with_reducible refine (HS2.out _ _ HL.out).mono ?_)
      rintro e v21 ⟨rfl, hb⟩
      have c0 := cell_later hb c0
      have HB := hide (bl_trans HB.out hb)
      have HL := hide (HL.out.bl hb)
      clear hb
      go_wp2_with fail
      refine (awake9_any _).mono ?_
      rintro e w9 ⟨rfl, hb⟩
      have HB := hide (bl_trans HB.out hb)
      go_wp2
      go_ret
      exact ⟨rfl, HB.out⟩
  · have g0 : decide (200 < (a0.size : Int)) = true := decide_eq_true (by omega)
    go_enter Try.func4, Try.ntmps4
    go_wp2_with fail
    refine (awake9_any _).mono ?_
    rintro e w9 ⟨rfl, hb⟩
    go_wp2
    go_ret
    exact ⟨rfl, hb⟩

set_option maxRecDepth 100000 in
theorem lifted (os : Os) (started : os.Started) (H : Type) (enc : TypeId × Value → H) :
    ReturnsInHanded {} Try.checked os 4 .any (Rows.stepRisesSpec.pre6 enc Try.prog Try.f4 Rows.stepRisesRow.domain false) (Rows.stepRisesSpec.post enc Try.prog Try.f4 false true false false) := by
  refine returnsInHanded_of_change (C := Try.checked) own started (by kernel_rfl) Try.func4
    (ChangeSpec.witness6 (enc := enc) (C := Try.checked) false ⟨#[], #[.string ByteArray.empty, .int .i64 0, .int .i64 0, .int .i64 0], []⟩ 8 (by kernel_rfl) (by kernel_rfl) (by kernel_rfl) (by kernel_rfl)) ?_
  intro W base args ds gs before hval0 hW hcnd _
  have hval : ∀ (j : Nat) t v, Try.f4.params[j]? = some t → args[j]? = some v → Value.okWide Try.prog W .any base t v := hval0
  have hW' := hW
  obtain ⟨p, q, hA0, hV, rfl, hfz, hnd⟩ := hW
  have hA : DataW.TrodAll enc Try.prog W 0 (fun _ => true) true Try.f4.params.toList args.toList ds p := hA0
  rw [Try.params4] at hA hval
  obtain ⟨v0, vs0, d0, ds0, p0, q0, hargs, rfl, rfl, h0, r0⟩ := trodAll_cons hA
  obtain ⟨v1, vs1, d1, ds1, p1, q1, rfl, rfl, rfl, h1, r1⟩ := trodAll_cons r0
  obtain ⟨v2, vs2, d2, ds2, p2, q2, rfl, rfl, rfl, h2, r2⟩ := trodAll_cons r1
  obtain ⟨v3, vs3, d3, ds3, p3, q3, rfl, rfl, rfl, h3, r3⟩ := trodAll_cons r2
  obtain ⟨rfl, rfl, rfl⟩ := trodAll_nil r3
  obtain rfl : args = #[v0, v1, v2, v3] := by cases args; simp_all
  obtain ⟨rfl, rfl⟩ := trodVars_none hV
  have k0 := h0
  have lt0 : ∀ x ∈ p0, x.block < W.heap.size := by obtain ⟨m, hm⟩ := k0; exact DataW.trod_lt m _ _ _ hm
  obtain ⟨a0, rfl, hd0, hp0, w0⟩ := open_string Try.underlying9 (hval 0 9 v0 rfl rfl) h0
  have k1 := h1
  have lt1 : ∀ x ∈ p1, x.block < W.heap.size := by obtain ⟨m, hm⟩ := k1; exact DataW.trod_lt m _ _ _ hm
  obtain ⟨a1, rfl, hd1, hp1, w1⟩ := open_int Try.underlying3 (hval 1 3 v1 rfl rfl) h1
  have k2 := h2
  have lt2 : ∀ x ∈ p2, x.block < W.heap.size := by obtain ⟨m, hm⟩ := k2; exact DataW.trod_lt m _ _ _ hm
  obtain ⟨a2, rfl, hd2, hp2, w2⟩ := open_int Try.underlying3 (hval 2 3 v2 rfl rfl) h2
  have k3 := h3
  have lt3 : ∀ x ∈ p3, x.block < W.heap.size := by obtain ⟨m, hm⟩ := k3; exact DataW.trod_lt m _ _ _ hm
  obtain ⟨a3, rfl, hd3, hp3, w3⟩ := open_int Try.underlying3 (hval 3 3 v3 rfl rfl) h3
  clear hA0 hval0
  refine (walk a0 a1 a2 a3 W w0 w1 w2 w3).mono fun e W' ⟨he, bel⟩ => ?_
  subst he
  exact ⟨_, rfl, _, _, _, [], _, [], hW', trodAll_mk1 (shut_bool Try.underlying4 _), (trodAll_cons_mk (Below.trod laidOut (by kernel_rfl) (of_decide_eq_true (by kernel_rfl)) k0 bel lt0) (trodAll_cons_mk (Below.trod laidOut (by kernel_rfl) (of_decide_eq_true (by kernel_rfl)) k1 bel lt1) (trodAll_cons_mk (Below.trod laidOut (by kernel_rfl) (of_decide_eq_true (by kernel_rfl)) k2 bel lt2) (trodAll_cons_mk (Below.trod laidOut (by kernel_rfl) (of_decide_eq_true (by kernel_rfl)) k3 bel lt3) trodAll_mk0)))), rfl, bel.frame _, fun h => by cases h⟩

theorem over : Rows.stepRisesRow.holds Try.pinned (OpenSpec.ofChange Rows.stepRisesSpec) :=
  OpenClaim.holds_of_wide 4 Try.f4 rfl rfl rfl rfl rfl rfl rfl ⟨rfl, rfl, rfl, rfl, rfl⟩ rfl rfl rfl rfl rfl (by kernel_rfl) Try.func4 (by kernel_rfl)
    (of_decide_eq_true (by kernel_rfl)) (by unfold Func.isWrapper; first | (rw [if_pos (by decide +kernel)]; kernel_rfl) | (rw [if_neg (by decide +kernel)]; exact ⟨rfl, rfl⟩))
    (fun os started H enc _ => lifted os started H enc)

theorem proved : Rows.StepRisesSaid := over
end Go.Proofs.Ytjcmbnmejkhcjaa.stepRises
