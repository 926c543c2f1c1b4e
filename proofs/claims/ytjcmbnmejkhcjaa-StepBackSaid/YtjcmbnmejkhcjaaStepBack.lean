/- From where a character begins, right and then left leads back, and left and then right, but at the ends; between there is no other such place. Conditions: none beyond the form's own. -/
import Derived.Test.YtjcmbnmejkhcjaaRows
import Derived.Test.YtjcmbnmejkhcjaaArgs
import Derived.Test.YtjcmbnmejkhcjaaMotEnd
namespace Go.Proofs.Ytjcmbnmejkhcjaa.stepBack
open Go.Proofs.Ytjcmbnmejkhcjaa
open Go.ChangeShapes Go.WideShapes Go.ChangeAt Go.RowKit Go.Deep
open Go.ChangeMaps (open_string shut_string)
set_option linter.unusedVariables false

theorem own : ownKnob Try.prog.godebug = none := by kernel_rfl
theorem laidOut : laidOutB Try.prog = true := by kernel_rfl
-- opt:16000000
attribute [local go_sem ↓] Go.wp_at_zero Go.wp_at_succ
set_option maxRecDepth 100000 in
set_option maxHeartbeats 16000000 in
theorem walk (a0 : ByteArray) (a1 : Int) (w : World) (w0 : a0.size ≤ maxLen) (w1 : (Lit.int .i64 a1).wf = true) :
    Calls Try.prog 5 #[.string a0, .int .i64 a1] w fun e w' => e = .returned (.bool true) ∧ Below w.heap.size w w' := by
  by_cases h0 : a0.size ≤ 200
  · have g0 : decide (200 < (a0.size : Int)) = false := decide_eq_false (by omega)
    have hxl : a0.data.toList.length = a0.size := rfl
    have hlt_p := lowN_lt a1 (a0.size + 1) (by omega)
    have hlw_p : ∀ W, Calls Try.prog 14 #[.int .i64 a1, .int .i64 ((a0.size : Int) + 1)] W fun e w' => e = .returned (.int .i64 (lowN a1 (a0.size + 1) : Nat)) ∧ W = w' := fun W => low_any a1 (a0.size + 1) W (by omega) (by omega)
    have HLW_p := hide hlw_p
    clear hlw_p
    generalize lowN a1 (a0.size + 1) = p at *
    have hps : p ≤ a0.size := by omega
    clear hlt_p
    by_cases hlt : p < a0.size
    · by_cases hk1 : a0[p].toNat < 128
      · have hc8 : (a0[p].toNat : Int) < 256 := by have := a0[p].toNat_lt; omega
        have y1 : decide ((128 : Int) ≤ (a0[p].toNat : Int)) = false := decide_eq_false (by omega)
        have y2 : decide (128 ≤ a0[p].toNat) = false := decide_eq_false (by omega)
        have y5 : decide ((a0[p].toNat : Int) < 192) = true := decide_eq_true (by omega)
        have hld2 : ldP a0.data.toList p = true := by rw [ldP_in a0.data.toList p hlt]; exact decide_eq_true (by first | exact Or.inl hk1 | exact Or.inr hk1)
        clear hk1
        rcases Nat.eq_zero_or_pos p with hp0 | hp0
        · have hcs : ldP a0.data.toList p = true ∨ p = 0 := .inl hld2
          clear hld2
          have r0 : stepM a0.data.toList p 2 = rtM a0.data.toList p := rfl
          obtain ⟨r1, r2, r3, r4⟩ := rt_at a0.data.toList p hlt
          have r5 := back_rt a0.data.toList p hlt hcs
          have q4 := dnP_le (ldP a0.data.toList) p
          have r6 := dnP_le (ldP a0.data.toList) (rtM a0.data.toList p)
          have HS1 := hide (fun (W : World) (r : Nat) (h : LnAt W r a0) => Step_k h (by omega) p (by omega) 2 (by decide) (by decide) _ r0)
          have HS2 := hide (fun (W : World) (r : Nat) (h : LnAt W r a0) => Step_k h (by omega) (rtM a0.data.toList p) r2 1 (by decide) (by decide) (dnP (ldP a0.data.toList) (rtM a0.data.toList p)) rfl)
          have HS3 := hide (fun (W : World) (r : Nat) (h : LnAt W r a0) => Step_k h (by omega) p (by omega) 1 (by decide) (by decide) (dnP (ldP a0.data.toList) p) rfl)
          have HS4 := hide (fun (W : World) (r : Nat) (h : LnAt W r a0) => Step_k h (by omega) (dnP (ldP a0.data.toList) p) (by omega) 2 (by decide) (by decide) (rtM a0.data.toList (dnP (ldP a0.data.toList) p)) rfl)
          rw [r5] at HS2
          clear r5 r4 r6
          clear r0
          have R3 := hide r3
          clear r3
          generalize rtM a0.data.toList p = a at *
          generalize dnP (ldP a0.data.toList) p = c at *
          generalize rtM a0.data.toList c = d at *
          have dpi : decide ((p : Int) < (a0.size : Int)) = true := decide_eq_true (by omega)
          have dpn : decide (p < a0.size) = true := decide_eq_true (by omega)
          have dzi : decide ((0 : Int) < (p : Int)) = false := decide_eq_false (by omega)
          have dzn : decide (0 < p) = false := decide_eq_false (by omega)
          have dai : decide ((p : Int) < (a : Int)) = true := decide_eq_true (by omega)
          have dan : decide (p < a) = true := decide_eq_true (by omega)
          have dci : decide ((c : Int) < (p : Int)) = false := decide_eq_false (by omega)
          have dcn : decide (c < p) = false := decide_eq_false (by omega)
          have df : ((p : Int) == 0) = true := by simp; omega
          have df2 : (p == 0) = true := by simp; omega
          have hal : a ≤ a0.size := r2
          have hmax : p + 1 ≤ max a (p + 1) := by omega
          have hlp := hlt
          clear r2 hxl
          clear r1
          clear hp0
          clear hcs
          go_enter Try.func5, Try.ntmps5
          go_wp2_with fail
          (with_reducible refine (HLW_p.out _).mono ?_)
          rintro e u26 ⟨rfl, hw26⟩
          subst hw26
          go_wp2_with fail
          refine (of9_b a0 _ (by omega)).mono ?_
          rintro e w1 ⟨r, rfl, hL, hb1, _⟩
          have c0 := ln_c0 w1 r
          have HB := hide (bl_trans hb1 (ln_b0 w1 r))
          have HL := hide (hL.bl (ln_b0 w1 r))
          clear hL hb1
          go_wp2_with fail
          (with_reducible refine (HS1.out _ _ HL.out).mono ?_)
          rintro e v22 ⟨rfl, hb⟩
          have c0 := cell_later hb c0
          have HB := hide (bl_trans HB.out hb)
          have HL := hide (HL.out.bl hb)
          clear hb
          go_wp2_with fail
          (with_reducible refine (HS2.out _ _ HL.out).mono ?_)
          rintro e v23 ⟨rfl, hb⟩
          have c0 := cell_later hb c0
          have HB := hide (bl_trans HB.out hb)
          have HL := hide (HL.out.bl hb)
          clear hb
          go_wp2_with fail
          (with_reducible refine (HS3.out _ _ HL.out).mono ?_)
          rintro e v24 ⟨rfl, hb⟩
          have c0 := cell_later hb c0
          have HB := hide (bl_trans HB.out hb)
          have HL := hide (HL.out.bl hb)
          clear hb
          go_wp2_with fail
          (with_reducible refine (HS4.out _ _ HL.out).mono ?_)
          rintro e v25 ⟨rfl, hb⟩
          have c0 := cell_later hb c0
          have HB := hide (bl_trans HB.out hb)
          have HL := hide (HL.out.bl hb)
          clear hb
          have HB9 := HB
          have HL9 := HL
          clear HB HL
          go_wp2
          go_loopw [16] (fun v wr => ∃ k : Nat, v = .int .i64 k ∧ p + 1 ≤ k ∧ v25 = wr) (fun v _ => a - (intOf v).toNat)
          case atStart => exact ⟨p + 1, by go_num, Nat.le_refl _, rfl⟩
          case round =>
            obtain ⟨k, rfl, hk, rfl⟩ := hrel
            by_cases hka : k < a
            · have hkx : k < a0.size := by omega
              have hn := R3.out k (by omega) hka
              rw [ld_s a0 k hkx] at hn
              have hn2 : ¬ (a0[k].toNat < 128 ∨ 191 < a0[k].toNat) := by simpa using hn
              have hc8 : (a0[k].toNat : Int) < 256 := by have := a0[k].toNat_lt; omega
              have gl : decide ((k : Int) < (a : Int)) = true := decide_eq_true (by omega)
              have gl2 : decide (k < a) = true := decide_eq_true (by omega)
              have gb : decide ((a0[k].toNat : Int) < 128) = false := decide_eq_false (by omega)
              have gc : decide ((191 : Int) < (a0[k].toNat : Int)) = false := decide_eq_false (by omega)
              have gb2 : decide (a0[k].toNat < 128) = false := decide_eq_false (by omega)
              have gc2 : decide (191 < a0[k].toNat) = false := decide_eq_false (by omega)
              clear hn hn2
              go_wp2
              refine ⟨?_, by first | (simp [intOf]; done) | (simp [intOf]; omega)⟩
              first
                | exact ⟨k + 1, by go_num, by omega, by first | rfl | trivial⟩
                | ((repeat apply Exists.intro); exact ⟨⟨k + 1, by go_num, by omega, by first | rfl | trivial⟩, rfl⟩)
            · have gl : decide ((k : Int) < (a : Int)) = false := decide_eq_false (by omega)
              have gl2 : decide (k < a) = false := decide_eq_false (by omega)
              have HB := HB9
              go_wp2_with fail
              refine (awake9_any _).mono ?_
              rintro e w9 ⟨rfl, hb⟩
              have HB := hide (bl_trans HB.out hb)
              go_wp2
              go_ret
              exact ⟨rfl, HB.out⟩
        · have hcs : ldP a0.data.toList p = true ∨ p = 0 := .inl hld2
          have hld : p < a0.data.toList.length → ldP a0.data.toList p = true := fun _ => hld2
          clear hld2
          have r0 : stepM a0.data.toList p 2 = rtM a0.data.toList p := rfl
          obtain ⟨r1, r2, r3, r4⟩ := rt_at a0.data.toList p hlt
          have r5 := back_rt a0.data.toList p hlt hcs
          obtain ⟨q1, q2⟩ := lf_at a0.data.toList p hp0
          have q3 := rt_lf a0.data.toList p hp0 (by omega) hld
          have q4 := dnP_le (ldP a0.data.toList) p
          have r6 := dnP_le (ldP a0.data.toList) (rtM a0.data.toList p)
          have HS1 := hide (fun (W : World) (r : Nat) (h : LnAt W r a0) => Step_k h (by omega) p (by omega) 2 (by decide) (by decide) _ r0)
          have HS2 := hide (fun (W : World) (r : Nat) (h : LnAt W r a0) => Step_k h (by omega) (rtM a0.data.toList p) r2 1 (by decide) (by decide) (dnP (ldP a0.data.toList) (rtM a0.data.toList p)) rfl)
          have HS3 := hide (fun (W : World) (r : Nat) (h : LnAt W r a0) => Step_k h (by omega) p (by omega) 1 (by decide) (by decide) (dnP (ldP a0.data.toList) p) rfl)
          have HS4 := hide (fun (W : World) (r : Nat) (h : LnAt W r a0) => Step_k h (by omega) (dnP (ldP a0.data.toList) p) (by omega) 2 (by decide) (by decide) (rtM a0.data.toList (dnP (ldP a0.data.toList) p)) rfl)
          rw [r5] at HS2
          clear r5 r4 r6
          rw [q3] at HS4
          clear q3 q2
          clear r0
          have R3 := hide r3
          clear r3
          generalize rtM a0.data.toList p = a at *
          generalize dnP (ldP a0.data.toList) p = c at *
          have dpi : decide ((p : Int) < (a0.size : Int)) = true := decide_eq_true (by omega)
          have dpn : decide (p < a0.size) = true := decide_eq_true (by omega)
          have dzi : decide ((0 : Int) < (p : Int)) = true := decide_eq_true (by omega)
          have dzn : decide (0 < p) = true := decide_eq_true (by omega)
          have dai : decide ((p : Int) < (a : Int)) = true := decide_eq_true (by omega)
          have dan : decide (p < a) = true := decide_eq_true (by omega)
          have dci : decide ((c : Int) < (p : Int)) = true := decide_eq_true (by omega)
          have dcn : decide (c < p) = true := decide_eq_true (by omega)
          have hal : a ≤ a0.size := r2
          have hmax : p + 1 ≤ max a (p + 1) := by omega
          have hlp := hlt
          clear r2 hxl
          clear r1
          clear hld hp0 q1
          clear hcs
          go_enter Try.func5, Try.ntmps5
          go_wp2_with fail
          (with_reducible refine (HLW_p.out _).mono ?_)
          rintro e u31 ⟨rfl, hw31⟩
          subst hw31
          go_wp2_with fail
          refine (of9_b a0 _ (by omega)).mono ?_
          rintro e w1 ⟨r, rfl, hL, hb1, _⟩
          have c0 := ln_c0 w1 r
          have HB := hide (bl_trans hb1 (ln_b0 w1 r))
          have HL := hide (hL.bl (ln_b0 w1 r))
          clear hL hb1
          go_wp2_with fail
          (with_reducible refine (HS1.out _ _ HL.out).mono ?_)
          rintro e v27 ⟨rfl, hb⟩
          have c0 := cell_later hb c0
          have HB := hide (bl_trans HB.out hb)
          have HL := hide (HL.out.bl hb)
          clear hb
          go_wp2_with fail
          (with_reducible refine (HS2.out _ _ HL.out).mono ?_)
          rintro e v28 ⟨rfl, hb⟩
          have c0 := cell_later hb c0
          have HB := hide (bl_trans HB.out hb)
          have HL := hide (HL.out.bl hb)
          clear hb
          go_wp2_with fail
          (with_reducible refine (HS3.out _ _ HL.out).mono ?_)
          rintro e v29 ⟨rfl, hb⟩
          have c0 := cell_later hb c0
          have HB := hide (bl_trans HB.out hb)
          have HL := hide (HL.out.bl hb)
          clear hb
          go_wp2_with fail
          (with_reducible refine (HS4.out _ _ HL.out).mono ?_)
          rintro e v30 ⟨rfl, hb⟩
          have c0 := cell_later hb c0
          have HB := hide (bl_trans HB.out hb)
          have HL := hide (HL.out.bl hb)
          clear hb
          have HB9 := HB
          have HL9 := HL
          clear HB HL
          go_wp2
          go_loopw [16] (fun v wr => ∃ k : Nat, v = .int .i64 k ∧ p + 1 ≤ k ∧ v30 = wr) (fun v _ => a - (intOf v).toNat)
          case atStart => exact ⟨p + 1, by go_num, Nat.le_refl _, rfl⟩
          case round =>
            obtain ⟨k, rfl, hk, rfl⟩ := hrel
            by_cases hka : k < a
            · have hkx : k < a0.size := by omega
              have hn := R3.out k (by omega) hka
              rw [ld_s a0 k hkx] at hn
              have hn2 : ¬ (a0[k].toNat < 128 ∨ 191 < a0[k].toNat) := by simpa using hn
              have hc8 : (a0[k].toNat : Int) < 256 := by have := a0[k].toNat_lt; omega
              have gl : decide ((k : Int) < (a : Int)) = true := decide_eq_true (by omega)
              have gl2 : decide (k < a) = true := decide_eq_true (by omega)
              have gb : decide ((a0[k].toNat : Int) < 128) = false := decide_eq_false (by omega)
              have gc : decide ((191 : Int) < (a0[k].toNat : Int)) = false := decide_eq_false (by omega)
              have gb2 : decide (a0[k].toNat < 128) = false := decide_eq_false (by omega)
              have gc2 : decide (191 < a0[k].toNat) = false := decide_eq_false (by omega)
              clear hn hn2
              go_wp2
              refine ⟨?_, by first | (simp [intOf]; done) | (simp [intOf]; omega)⟩
              first
                | exact ⟨k + 1, by go_num, by omega, by first | rfl | trivial⟩
                | ((repeat apply Exists.intro); exact ⟨⟨k + 1, by go_num, by omega, by first | rfl | trivial⟩, rfl⟩)
            · have gl : decide ((k : Int) < (a : Int)) = false := decide_eq_false (by omega)
              have gl2 : decide (k < a) = false := decide_eq_false (by omega)
              have HB := HB9
              go_wp2_with fail
              refine (awake9_any _).mono ?_
              rintro e w9 ⟨rfl, hb⟩
              have HB := hide (bl_trans HB.out hb)
              go_wp2
              go_ret
              exact ⟨rfl, HB.out⟩
      · by_cases hk2 : 191 < a0[p].toNat
        · have hc8 : (a0[p].toNat : Int) < 256 := by have := a0[p].toNat_lt; omega
          have y1 : decide ((128 : Int) ≤ (a0[p].toNat : Int)) = true := decide_eq_true (by omega)
          have y2 : decide (128 ≤ a0[p].toNat) = true := decide_eq_true (by omega)
          have y3 : decide ((a0[p].toNat : Int) < 192) = false := decide_eq_false (by omega)
          have y4 : decide (a0[p].toNat < 192) = false := decide_eq_false (by omega)
          have hld2 : ldP a0.data.toList p = true := by rw [ldP_in a0.data.toList p hlt]; exact decide_eq_true (by first | exact Or.inl hk2 | exact Or.inr hk2)
          clear hk1 hk2
          rcases Nat.eq_zero_or_pos p with hp0 | hp0
          · have hcs : ldP a0.data.toList p = true ∨ p = 0 := .inl hld2
            clear hld2
            have r0 : stepM a0.data.toList p 2 = rtM a0.data.toList p := rfl
            obtain ⟨r1, r2, r3, r4⟩ := rt_at a0.data.toList p hlt
            have r5 := back_rt a0.data.toList p hlt hcs
            have q4 := dnP_le (ldP a0.data.toList) p
            have r6 := dnP_le (ldP a0.data.toList) (rtM a0.data.toList p)
            have HS1 := hide (fun (W : World) (r : Nat) (h : LnAt W r a0) => Step_k h (by omega) p (by omega) 2 (by decide) (by decide) _ r0)
            have HS2 := hide (fun (W : World) (r : Nat) (h : LnAt W r a0) => Step_k h (by omega) (rtM a0.data.toList p) r2 1 (by decide) (by decide) (dnP (ldP a0.data.toList) (rtM a0.data.toList p)) rfl)
            have HS3 := hide (fun (W : World) (r : Nat) (h : LnAt W r a0) => Step_k h (by omega) p (by omega) 1 (by decide) (by decide) (dnP (ldP a0.data.toList) p) rfl)
            have HS4 := hide (fun (W : World) (r : Nat) (h : LnAt W r a0) => Step_k h (by omega) (dnP (ldP a0.data.toList) p) (by omega) 2 (by decide) (by decide) (rtM a0.data.toList (dnP (ldP a0.data.toList) p)) rfl)
            rw [r5] at HS2
            clear r5 r4 r6
            clear r0
            have R3 := hide r3
            clear r3
            generalize rtM a0.data.toList p = a at *
            generalize dnP (ldP a0.data.toList) p = c at *
            generalize rtM a0.data.toList c = d at *
            have dpi : decide ((p : Int) < (a0.size : Int)) = true := decide_eq_true (by omega)
            have dpn : decide (p < a0.size) = true := decide_eq_true (by omega)
            have dzi : decide ((0 : Int) < (p : Int)) = false := decide_eq_false (by omega)
            have dzn : decide (0 < p) = false := decide_eq_false (by omega)
            have dai : decide ((p : Int) < (a : Int)) = true := decide_eq_true (by omega)
            have dan : decide (p < a) = true := decide_eq_true (by omega)
            have dci : decide ((c : Int) < (p : Int)) = false := decide_eq_false (by omega)
            have dcn : decide (c < p) = false := decide_eq_false (by omega)
            have df : ((p : Int) == 0) = true := by simp; omega
            have df2 : (p == 0) = true := by simp; omega
            have hal : a ≤ a0.size := r2
            have hmax : p + 1 ≤ max a (p + 1) := by omega
            have hlp := hlt
            clear r2 hxl
            clear r1
            clear hp0
            clear hcs
            go_enter Try.func5, Try.ntmps5
            go_wp2_with fail
            (with_reducible refine (HLW_p.out _).mono ?_)
            rintro e u36 ⟨rfl, hw36⟩
            subst hw36
            go_wp2_with fail
            refine (of9_b a0 _ (by omega)).mono ?_
            rintro e w1 ⟨r, rfl, hL, hb1, _⟩
            have c0 := ln_c0 w1 r
            have HB := hide (bl_trans hb1 (ln_b0 w1 r))
            have HL := hide (hL.bl (ln_b0 w1 r))
            clear hL hb1
            go_wp2_with fail
            (with_reducible refine (HS1.out _ _ HL.out).mono ?_)
            rintro e v32 ⟨rfl, hb⟩
            have c0 := cell_later hb c0
            have HB := hide (bl_trans HB.out hb)
            have HL := hide (HL.out.bl hb)
            clear hb
            go_wp2_with fail
            (with_reducible refine (HS2.out _ _ HL.out).mono ?_)
            rintro e v33 ⟨rfl, hb⟩
            have c0 := cell_later hb c0
            have HB := hide (bl_trans HB.out hb)
            have HL := hide (HL.out.bl hb)
            clear hb
            go_wp2_with fail
            (with_reducible refine (HS3.out _ _ HL.out).mono ?_)
            rintro e v34 ⟨rfl, hb⟩
            have c0 := cell_later hb c0
            have HB := hide (bl_trans HB.out hb)
            have HL := hide (HL.out.bl hb)
            clear hb
            go_wp2_with fail
            (with_reducible refine (HS4.out _ _ HL.out).mono ?_)
            rintro e v35 ⟨rfl, hb⟩
            have c0 := cell_later hb c0
            have HB := hide (bl_trans HB.out hb)
            have HL := hide (HL.out.bl hb)
            clear hb
            have HB9 := HB
            have HL9 := HL
            clear HB HL
            go_wp2
            go_loopw [16] (fun v wr => ∃ k : Nat, v = .int .i64 k ∧ p + 1 ≤ k ∧ v35 = wr) (fun v _ => a - (intOf v).toNat)
            case atStart => exact ⟨p + 1, by go_num, Nat.le_refl _, rfl⟩
            case round =>
              obtain ⟨k, rfl, hk, rfl⟩ := hrel
              by_cases hka : k < a
              · have hkx : k < a0.size := by omega
                have hn := R3.out k (by omega) hka
                rw [ld_s a0 k hkx] at hn
                have hn2 : ¬ (a0[k].toNat < 128 ∨ 191 < a0[k].toNat) := by simpa using hn
                have hc8 : (a0[k].toNat : Int) < 256 := by have := a0[k].toNat_lt; omega
                have gl : decide ((k : Int) < (a : Int)) = true := decide_eq_true (by omega)
                have gl2 : decide (k < a) = true := decide_eq_true (by omega)
                have gb : decide ((a0[k].toNat : Int) < 128) = false := decide_eq_false (by omega)
                have gc : decide ((191 : Int) < (a0[k].toNat : Int)) = false := decide_eq_false (by omega)
                have gb2 : decide (a0[k].toNat < 128) = false := decide_eq_false (by omega)
                have gc2 : decide (191 < a0[k].toNat) = false := decide_eq_false (by omega)
                clear hn hn2
                go_wp2
                refine ⟨?_, by first | (simp [intOf]; done) | (simp [intOf]; omega)⟩
                first
                  | exact ⟨k + 1, by go_num, by omega, by first | rfl | trivial⟩
                  | ((repeat apply Exists.intro); exact ⟨⟨k + 1, by go_num, by omega, by first | rfl | trivial⟩, rfl⟩)
              · have gl : decide ((k : Int) < (a : Int)) = false := decide_eq_false (by omega)
                have gl2 : decide (k < a) = false := decide_eq_false (by omega)
                have HB := HB9
                go_wp2_with fail
                refine (awake9_any _).mono ?_
                rintro e w9 ⟨rfl, hb⟩
                have HB := hide (bl_trans HB.out hb)
                go_wp2
                go_ret
                exact ⟨rfl, HB.out⟩
          · have hcs : ldP a0.data.toList p = true ∨ p = 0 := .inl hld2
            have hld : p < a0.data.toList.length → ldP a0.data.toList p = true := fun _ => hld2
            clear hld2
            have r0 : stepM a0.data.toList p 2 = rtM a0.data.toList p := rfl
            obtain ⟨r1, r2, r3, r4⟩ := rt_at a0.data.toList p hlt
            have r5 := back_rt a0.data.toList p hlt hcs
            obtain ⟨q1, q2⟩ := lf_at a0.data.toList p hp0
            have q3 := rt_lf a0.data.toList p hp0 (by omega) hld
            have q4 := dnP_le (ldP a0.data.toList) p
            have r6 := dnP_le (ldP a0.data.toList) (rtM a0.data.toList p)
            have HS1 := hide (fun (W : World) (r : Nat) (h : LnAt W r a0) => Step_k h (by omega) p (by omega) 2 (by decide) (by decide) _ r0)
            have HS2 := hide (fun (W : World) (r : Nat) (h : LnAt W r a0) => Step_k h (by omega) (rtM a0.data.toList p) r2 1 (by decide) (by decide) (dnP (ldP a0.data.toList) (rtM a0.data.toList p)) rfl)
            have HS3 := hide (fun (W : World) (r : Nat) (h : LnAt W r a0) => Step_k h (by omega) p (by omega) 1 (by decide) (by decide) (dnP (ldP a0.data.toList) p) rfl)
            have HS4 := hide (fun (W : World) (r : Nat) (h : LnAt W r a0) => Step_k h (by omega) (dnP (ldP a0.data.toList) p) (by omega) 2 (by decide) (by decide) (rtM a0.data.toList (dnP (ldP a0.data.toList) p)) rfl)
            rw [r5] at HS2
            clear r5 r4 r6
            rw [q3] at HS4
            clear q3 q2
            clear r0
            have R3 := hide r3
            clear r3
            generalize rtM a0.data.toList p = a at *
            generalize dnP (ldP a0.data.toList) p = c at *
            have dpi : decide ((p : Int) < (a0.size : Int)) = true := decide_eq_true (by omega)
            have dpn : decide (p < a0.size) = true := decide_eq_true (by omega)
            have dzi : decide ((0 : Int) < (p : Int)) = true := decide_eq_true (by omega)
            have dzn : decide (0 < p) = true := decide_eq_true (by omega)
            have dai : decide ((p : Int) < (a : Int)) = true := decide_eq_true (by omega)
            have dan : decide (p < a) = true := decide_eq_true (by omega)
            have dci : decide ((c : Int) < (p : Int)) = true := decide_eq_true (by omega)
            have dcn : decide (c < p) = true := decide_eq_true (by omega)
            have hal : a ≤ a0.size := r2
            have hmax : p + 1 ≤ max a (p + 1) := by omega
            have hlp := hlt
            clear r2 hxl
            clear r1
            clear hld hp0 q1
            clear hcs
            go_enter Try.func5, Try.ntmps5
            go_wp2_with fail
            (with_reducible refine (HLW_p.out _).mono ?_)
            rintro e u41 ⟨rfl, hw41⟩
            subst hw41
            go_wp2_with fail
            refine (of9_b a0 _ (by omega)).mono ?_
            rintro e w1 ⟨r, rfl, hL, hb1, _⟩
            have c0 := ln_c0 w1 r
            have HB := hide (bl_trans hb1 (ln_b0 w1 r))
            have HL := hide (hL.bl (ln_b0 w1 r))
            clear hL hb1
            go_wp2_with fail
            (with_reducible refine (HS1.out _ _ HL.out).mono ?_)
            rintro e v37 ⟨rfl, hb⟩
            have c0 := cell_later hb c0
            have HB := hide (bl_trans HB.out hb)
            have HL := hide (HL.out.bl hb)
            clear hb
            go_wp2_with fail
            (with_reducible refine (HS2.out _ _ HL.out).mono ?_)
            rintro e v38 ⟨rfl, hb⟩
            have c0 := cell_later hb c0
            have HB := hide (bl_trans HB.out hb)
            have HL := hide (HL.out.bl hb)
            clear hb
            go_wp2_with fail
            (with_reducible refine (HS3.out _ _ HL.out).mono ?_)
            rintro e v39 ⟨rfl, hb⟩
            have c0 := cell_later hb c0
            have HB := hide (bl_trans HB.out hb)
            have HL := hide (HL.out.bl hb)
            clear hb
            go_wp2_with fail
            (with_reducible refine (HS4.out _ _ HL.out).mono ?_)
            rintro e v40 ⟨rfl, hb⟩
            have c0 := cell_later hb c0
            have HB := hide (bl_trans HB.out hb)
            have HL := hide (HL.out.bl hb)
            clear hb
            have HB9 := HB
            have HL9 := HL
            clear HB HL
            go_wp2
            go_loopw [16] (fun v wr => ∃ k : Nat, v = .int .i64 k ∧ p + 1 ≤ k ∧ v40 = wr) (fun v _ => a - (intOf v).toNat)
            case atStart => exact ⟨p + 1, by go_num, Nat.le_refl _, rfl⟩
            case round =>
              obtain ⟨k, rfl, hk, rfl⟩ := hrel
              by_cases hka : k < a
              · have hkx : k < a0.size := by omega
                have hn := R3.out k (by omega) hka
                rw [ld_s a0 k hkx] at hn
                have hn2 : ¬ (a0[k].toNat < 128 ∨ 191 < a0[k].toNat) := by simpa using hn
                have hc8 : (a0[k].toNat : Int) < 256 := by have := a0[k].toNat_lt; omega
                have gl : decide ((k : Int) < (a : Int)) = true := decide_eq_true (by omega)
                have gl2 : decide (k < a) = true := decide_eq_true (by omega)
                have gb : decide ((a0[k].toNat : Int) < 128) = false := decide_eq_false (by omega)
                have gc : decide ((191 : Int) < (a0[k].toNat : Int)) = false := decide_eq_false (by omega)
                have gb2 : decide (a0[k].toNat < 128) = false := decide_eq_false (by omega)
                have gc2 : decide (191 < a0[k].toNat) = false := decide_eq_false (by omega)
                clear hn hn2
                go_wp2
                refine ⟨?_, by first | (simp [intOf]; done) | (simp [intOf]; omega)⟩
                first
                  | exact ⟨k + 1, by go_num, by omega, by first | rfl | trivial⟩
                  | ((repeat apply Exists.intro); exact ⟨⟨k + 1, by go_num, by omega, by first | rfl | trivial⟩, rfl⟩)
              · have gl : decide ((k : Int) < (a : Int)) = false := decide_eq_false (by omega)
                have gl2 : decide (k < a) = false := decide_eq_false (by omega)
                have HB := HB9
                go_wp2_with fail
                refine (awake9_any _).mono ?_
                rintro e w9 ⟨rfl, hb⟩
                have HB := hide (bl_trans HB.out hb)
                go_wp2
                go_ret
                exact ⟨rfl, HB.out⟩
        · have hc8 : (a0[p].toNat : Int) < 256 := by have := a0[p].toNat_lt; omega
          have y1 : decide ((128 : Int) ≤ (a0[p].toNat : Int)) = true := decide_eq_true (by omega)
          have y2 : decide (128 ≤ a0[p].toNat) = true := decide_eq_true (by omega)
          have y3 : decide ((a0[p].toNat : Int) < 192) = true := decide_eq_true (by omega)
          have y4 : decide (a0[p].toNat < 192) = true := decide_eq_true (by omega)
          rcases Nat.eq_zero_or_pos p with hp0 | hp0
          · have hcs : ldP a0.data.toList p = true ∨ p = 0 := .inr hp0
            clear hk1 hk2
            have r0 : stepM a0.data.toList p 2 = rtM a0.data.toList p := rfl
            obtain ⟨r1, r2, r3, r4⟩ := rt_at a0.data.toList p hlt
            have r5 := back_rt a0.data.toList p hlt hcs
            have q4 := dnP_le (ldP a0.data.toList) p
            have r6 := dnP_le (ldP a0.data.toList) (rtM a0.data.toList p)
            have HS1 := hide (fun (W : World) (r : Nat) (h : LnAt W r a0) => Step_k h (by omega) p (by omega) 2 (by decide) (by decide) _ r0)
            have HS2 := hide (fun (W : World) (r : Nat) (h : LnAt W r a0) => Step_k h (by omega) (rtM a0.data.toList p) r2 1 (by decide) (by decide) (dnP (ldP a0.data.toList) (rtM a0.data.toList p)) rfl)
            have HS3 := hide (fun (W : World) (r : Nat) (h : LnAt W r a0) => Step_k h (by omega) p (by omega) 1 (by decide) (by decide) (dnP (ldP a0.data.toList) p) rfl)
            have HS4 := hide (fun (W : World) (r : Nat) (h : LnAt W r a0) => Step_k h (by omega) (dnP (ldP a0.data.toList) p) (by omega) 2 (by decide) (by decide) (rtM a0.data.toList (dnP (ldP a0.data.toList) p)) rfl)
            rw [r5] at HS2
            clear r5 r4 r6
            clear r0
            have R3 := hide r3
            clear r3
            generalize rtM a0.data.toList p = a at *
            generalize dnP (ldP a0.data.toList) p = c at *
            generalize rtM a0.data.toList c = d at *
            have dpi : decide ((p : Int) < (a0.size : Int)) = true := decide_eq_true (by omega)
            have dpn : decide (p < a0.size) = true := decide_eq_true (by omega)
            have dzi : decide ((0 : Int) < (p : Int)) = false := decide_eq_false (by omega)
            have dzn : decide (0 < p) = false := decide_eq_false (by omega)
            have dai : decide ((p : Int) < (a : Int)) = true := decide_eq_true (by omega)
            have dan : decide (p < a) = true := decide_eq_true (by omega)
            have dci : decide ((c : Int) < (p : Int)) = false := decide_eq_false (by omega)
            have dcn : decide (c < p) = false := decide_eq_false (by omega)
            have df : ((p : Int) == 0) = true := by simp; omega
            have df2 : (p == 0) = true := by simp; omega
            have hal : a ≤ a0.size := r2
            have hmax : p + 1 ≤ max a (p + 1) := by omega
            have hlp := hlt
            clear r2 hxl
            clear r1
            clear hp0
            clear hcs
            go_enter Try.func5, Try.ntmps5
            go_wp2_with fail
            (with_reducible refine (HLW_p.out _).mono ?_)
            rintro e u46 ⟨rfl, hw46⟩
            subst hw46
            go_wp2_with fail
            refine (of9_b a0 _ (by omega)).mono ?_
            rintro e w1 ⟨r, rfl, hL, hb1, _⟩
            have c0 := ln_c0 w1 r
            have HB := hide (bl_trans hb1 (ln_b0 w1 r))
            have HL := hide (hL.bl (ln_b0 w1 r))
            clear hL hb1
            go_wp2_with fail
            (with_reducible refine (HS1.out _ _ HL.out).mono ?_)
            rintro e v42 ⟨rfl, hb⟩
            have c0 := cell_later hb c0
            have HB := hide (bl_trans HB.out hb)
            have HL := hide (HL.out.bl hb)
            clear hb
            go_wp2_with fail
            (with_reducible refine (HS2.out _ _ HL.out).mono ?_)
            rintro e v43 ⟨rfl, hb⟩
            have c0 := cell_later hb c0
            have HB := hide (bl_trans HB.out hb)
            have HL := hide (HL.out.bl hb)
            clear hb
            go_wp2_with fail
            (with_reducible refine (HS3.out _ _ HL.out).mono ?_)
            rintro e v44 ⟨rfl, hb⟩
            have c0 := cell_later hb c0
            have HB := hide (bl_trans HB.out hb)
            have HL := hide (HL.out.bl hb)
            clear hb
            go_wp2_with fail
            (with_reducible refine (HS4.out _ _ HL.out).mono ?_)
            rintro e v45 ⟨rfl, hb⟩
            have c0 := cell_later hb c0
            have HB := hide (bl_trans HB.out hb)
            have HL := hide (HL.out.bl hb)
            clear hb
            have HB9 := HB
            have HL9 := HL
            clear HB HL
            go_wp2
            go_loopw [16] (fun v wr => ∃ k : Nat, v = .int .i64 k ∧ p + 1 ≤ k ∧ v45 = wr) (fun v _ => a - (intOf v).toNat)
            case atStart => exact ⟨p + 1, by go_num, Nat.le_refl _, rfl⟩
            case round =>
              obtain ⟨k, rfl, hk, rfl⟩ := hrel
              by_cases hka : k < a
              · have hkx : k < a0.size := by omega
                have hn := R3.out k (by omega) hka
                rw [ld_s a0 k hkx] at hn
                have hn2 : ¬ (a0[k].toNat < 128 ∨ 191 < a0[k].toNat) := by simpa using hn
                have hc8 : (a0[k].toNat : Int) < 256 := by have := a0[k].toNat_lt; omega
                have gl : decide ((k : Int) < (a : Int)) = true := decide_eq_true (by omega)
                have gl2 : decide (k < a) = true := decide_eq_true (by omega)
                have gb : decide ((a0[k].toNat : Int) < 128) = false := decide_eq_false (by omega)
                have gc : decide ((191 : Int) < (a0[k].toNat : Int)) = false := decide_eq_false (by omega)
                have gb2 : decide (a0[k].toNat < 128) = false := decide_eq_false (by omega)
                have gc2 : decide (191 < a0[k].toNat) = false := decide_eq_false (by omega)
                clear hn hn2
                go_wp2
                refine ⟨?_, by first | (simp [intOf]; done) | (simp [intOf]; omega)⟩
                first
                  | exact ⟨k + 1, by go_num, by omega, by first | rfl | trivial⟩
                  | ((repeat apply Exists.intro); exact ⟨⟨k + 1, by go_num, by omega, by first | rfl | trivial⟩, rfl⟩)
              · have gl : decide ((k : Int) < (a : Int)) = false := decide_eq_false (by omega)
                have gl2 : decide (k < a) = false := decide_eq_false (by omega)
                have HB := HB9
                go_wp2_with fail
                refine (awake9_any _).mono ?_
                rintro e w9 ⟨rfl, hb⟩
                have HB := hide (bl_trans HB.out hb)
                go_wp2
                go_ret
                exact ⟨rfl, HB.out⟩
          · have dpi : decide ((p : Int) < (a0.size : Int)) = true := decide_eq_true (by omega)
            have dpn : decide (p < a0.size) = true := decide_eq_true (by omega)
            have dzi : decide ((0 : Int) < (p : Int)) = true := decide_eq_true (by omega)
            have dzn : decide (0 < p) = true := decide_eq_true (by omega)
            clear hk1 hk2 hxl
            go_enter Try.func5, Try.ntmps5
            go_wp2_with fail
            (with_reducible refine (HLW_p.out _).mono ?_)
            rintro e u47 ⟨rfl, hw47⟩
            subst hw47
            go_wp2_with fail
            refine (awake9_any _).mono ?_
            rintro e w9 ⟨rfl, hb⟩
            go_wp2
            go_ret
            exact ⟨rfl, hb⟩
    · have hpe : p = a0.size := by omega
      clear hlt
      rcases Nat.eq_zero_or_pos p with hp0 | hp0
      · have r0 : stepM a0.data.toList p 2 = rtM a0.data.toList p := rfl
        have r1 : rtM a0.data.toList p = p := by rw [hpe, ← hxl]; exact rt_end a0.data.toList
        have r2 : rtM a0.data.toList p ≤ a0.data.toList.length := by rw [r1]; omega
        have q4 := dnP_le (ldP a0.data.toList) p
        have r6 := dnP_le (ldP a0.data.toList) (rtM a0.data.toList p)
        have HS1 := hide (fun (W : World) (r : Nat) (h : LnAt W r a0) => Step_k h (by omega) p (by omega) 2 (by decide) (by decide) _ r0)
        have HS2 := hide (fun (W : World) (r : Nat) (h : LnAt W r a0) => Step_k h (by omega) (rtM a0.data.toList p) r2 1 (by decide) (by decide) (dnP (ldP a0.data.toList) (rtM a0.data.toList p)) rfl)
        have HS3 := hide (fun (W : World) (r : Nat) (h : LnAt W r a0) => Step_k h (by omega) p (by omega) 1 (by decide) (by decide) (dnP (ldP a0.data.toList) p) rfl)
        have HS4 := hide (fun (W : World) (r : Nat) (h : LnAt W r a0) => Step_k h (by omega) (dnP (ldP a0.data.toList) p) (by omega) 2 (by decide) (by decide) (rtM a0.data.toList (dnP (ldP a0.data.toList) p)) rfl)
        clear r0
        generalize rtM a0.data.toList p = a at *
        generalize dnP (ldP a0.data.toList) a = b at *
        generalize dnP (ldP a0.data.toList) p = c at *
        generalize rtM a0.data.toList c = d at *
        have dpi : decide ((p : Int) < (a0.size : Int)) = false := decide_eq_false (by omega)
        have dpn : decide (p < a0.size) = false := decide_eq_false (by omega)
        have dzi : decide ((0 : Int) < (p : Int)) = false := decide_eq_false (by omega)
        have dzn : decide (0 < p) = false := decide_eq_false (by omega)
        have dai : decide ((p : Int) < (a : Int)) = false := decide_eq_false (by omega)
        have dan : decide (p < a) = false := decide_eq_false (by omega)
        have de : ((p : Int) == (a0.size : Int)) = true := by simp; omega
        have de2 : (p == a0.size) = true := by simp; omega
        have dci : decide ((c : Int) < (p : Int)) = false := decide_eq_false (by omega)
        have dcn : decide (c < p) = false := decide_eq_false (by omega)
        have df : ((p : Int) == 0) = true := by simp; omega
        have df2 : (p == 0) = true := by simp; omega
        have hal : a ≤ a0.size := r2
        have hmax : p + 1 ≤ max a (p + 1) := by omega
        clear r2 hxl
        have hap : a ≤ p := by omega
        clear r1 hpe
        clear hp0
        go_enter Try.func5, Try.ntmps5
        go_wp2_with fail
        (with_reducible refine (HLW_p.out _).mono ?_)
        rintro e u52 ⟨rfl, hw52⟩
        subst hw52
        go_wp2_with fail
        refine (of9_b a0 _ (by omega)).mono ?_
        rintro e w1 ⟨r, rfl, hL, hb1, _⟩
        have c0 := ln_c0 w1 r
        have HB := hide (bl_trans hb1 (ln_b0 w1 r))
        have HL := hide (hL.bl (ln_b0 w1 r))
        clear hL hb1
        go_wp2_with fail
        (with_reducible refine (HS1.out _ _ HL.out).mono ?_)
        rintro e v48 ⟨rfl, hb⟩
        have c0 := cell_later hb c0
        have HB := hide (bl_trans HB.out hb)
        have HL := hide (HL.out.bl hb)
        clear hb
        go_wp2_with fail
        (with_reducible refine (HS2.out _ _ HL.out).mono ?_)
        rintro e v49 ⟨rfl, hb⟩
        have c0 := cell_later hb c0
        have HB := hide (bl_trans HB.out hb)
        have HL := hide (HL.out.bl hb)
        clear hb
        go_wp2_with fail
        (with_reducible refine (HS3.out _ _ HL.out).mono ?_)
        rintro e v50 ⟨rfl, hb⟩
        have c0 := cell_later hb c0
        have HB := hide (bl_trans HB.out hb)
        have HL := hide (HL.out.bl hb)
        clear hb
        go_wp2_with fail
        (with_reducible refine (HS4.out _ _ HL.out).mono ?_)
        rintro e v51 ⟨rfl, hb⟩
        have c0 := cell_later hb c0
        have HB := hide (bl_trans HB.out hb)
        have HL := hide (HL.out.bl hb)
        clear hb
        have HB9 := HB
        have HL9 := HL
        clear HB HL
        go_wp2
        go_loopw [16] (fun v wr => ∃ k : Nat, v = .int .i64 k ∧ p + 1 ≤ k ∧ v51 = wr) (fun v _ => a - (intOf v).toNat)
        case atStart => exact ⟨p + 1, by go_num, Nat.le_refl _, rfl⟩
        case round =>
          obtain ⟨k, rfl, hk, rfl⟩ := hrel
          have gl : decide ((k : Int) < (a : Int)) = false := decide_eq_false (by omega)
          have gl2 : decide (k < a) = false := decide_eq_false (by omega)
          have HB := HB9
          go_wp2_with fail
          refine (awake9_any _).mono ?_
          rintro e w9 ⟨rfl, hb⟩
          have HB := hide (bl_trans HB.out hb)
          go_wp2
          go_ret
          exact ⟨rfl, HB.out⟩
      · have hld : p < a0.data.toList.length → ldP a0.data.toList p = true := fun hc => absurd hc (by omega)
        have r0 : stepM a0.data.toList p 2 = rtM a0.data.toList p := rfl
        have r1 : rtM a0.data.toList p = p := by rw [hpe, ← hxl]; exact rt_end a0.data.toList
        have r2 : rtM a0.data.toList p ≤ a0.data.toList.length := by rw [r1]; omega
        obtain ⟨q1, q2⟩ := lf_at a0.data.toList p hp0
        have q3 := rt_lf a0.data.toList p hp0 (by omega) hld
        have q4 := dnP_le (ldP a0.data.toList) p
        have r6 := dnP_le (ldP a0.data.toList) (rtM a0.data.toList p)
        have HS1 := hide (fun (W : World) (r : Nat) (h : LnAt W r a0) => Step_k h (by omega) p (by omega) 2 (by decide) (by decide) _ r0)
        have HS2 := hide (fun (W : World) (r : Nat) (h : LnAt W r a0) => Step_k h (by omega) (rtM a0.data.toList p) r2 1 (by decide) (by decide) (dnP (ldP a0.data.toList) (rtM a0.data.toList p)) rfl)
        have HS3 := hide (fun (W : World) (r : Nat) (h : LnAt W r a0) => Step_k h (by omega) p (by omega) 1 (by decide) (by decide) (dnP (ldP a0.data.toList) p) rfl)
        have HS4 := hide (fun (W : World) (r : Nat) (h : LnAt W r a0) => Step_k h (by omega) (dnP (ldP a0.data.toList) p) (by omega) 2 (by decide) (by decide) (rtM a0.data.toList (dnP (ldP a0.data.toList) p)) rfl)
        rw [q3] at HS4
        clear q3 q2
        clear r0
        generalize rtM a0.data.toList p = a at *
        generalize dnP (ldP a0.data.toList) a = b at *
        generalize dnP (ldP a0.data.toList) p = c at *
        have dpi : decide ((p : Int) < (a0.size : Int)) = false := decide_eq_false (by omega)
        have dpn : decide (p < a0.size) = false := decide_eq_false (by omega)
        have dzi : decide ((0 : Int) < (p : Int)) = true := decide_eq_true (by omega)
        have dzn : decide (0 < p) = true := decide_eq_true (by omega)
        have dai : decide ((p : Int) < (a : Int)) = false := decide_eq_false (by omega)
        have dan : decide (p < a) = false := decide_eq_false (by omega)
        have de : ((p : Int) == (a0.size : Int)) = true := by simp; omega
        have de2 : (p == a0.size) = true := by simp; omega
        have dci : decide ((c : Int) < (p : Int)) = true := decide_eq_true (by omega)
        have dcn : decide (c < p) = true := decide_eq_true (by omega)
        have hal : a ≤ a0.size := r2
        have hmax : p + 1 ≤ max a (p + 1) := by omega
        clear r2 hxl
        have hap : a ≤ p := by omega
        clear r1 hpe
        clear hld hp0 q1
        go_enter Try.func5, Try.ntmps5
        go_wp2_with fail
        (with_reducible refine (HLW_p.out _).mono ?_)
        rintro e u57 ⟨rfl, hw57⟩
        subst hw57
        go_wp2_with fail
        refine (of9_b a0 _ (by omega)).mono ?_
        rintro e w1 ⟨r, rfl, hL, hb1, _⟩
        have c0 := ln_c0 w1 r
        have HB := hide (bl_trans hb1 (ln_b0 w1 r))
        have HL := hide (hL.bl (ln_b0 w1 r))
        clear hL hb1
        go_wp2_with fail
        (with_reducible refine (HS1.out _ _ HL.out).mono ?_)
        rintro e v53 ⟨rfl, hb⟩
        have c0 := cell_later hb c0
        have HB := hide (bl_trans HB.out hb)
        have HL := hide (HL.out.bl hb)
        clear hb
        go_wp2_with fail
        (with_reducible refine (HS2.out _ _ HL.out).mono ?_)
        rintro e v54 ⟨rfl, hb⟩
        have c0 := cell_later hb c0
        have HB := hide (bl_trans HB.out hb)
        have HL := hide (HL.out.bl hb)
        clear hb
        go_wp2_with fail
        (with_reducible refine (HS3.out _ _ HL.out).mono ?_)
        rintro e v55 ⟨rfl, hb⟩
        have c0 := cell_later hb c0
        have HB := hide (bl_trans HB.out hb)
        have HL := hide (HL.out.bl hb)
        clear hb
        go_wp2_with fail
        (with_reducible refine (HS4.out _ _ HL.out).mono ?_)
        rintro e v56 ⟨rfl, hb⟩
        have c0 := cell_later hb c0
        have HB := hide (bl_trans HB.out hb)
        have HL := hide (HL.out.bl hb)
        clear hb
        have HB9 := HB
        have HL9 := HL
        clear HB HL
        go_wp2
        go_loopw [16] (fun v wr => ∃ k : Nat, v = .int .i64 k ∧ p + 1 ≤ k ∧ v56 = wr) (fun v _ => a - (intOf v).toNat)
        case atStart => exact ⟨p + 1, by go_num, Nat.le_refl _, rfl⟩
        case round =>
          obtain ⟨k, rfl, hk, rfl⟩ := hrel
          have gl : decide ((k : Int) < (a : Int)) = false := decide_eq_false (by omega)
          have gl2 : decide (k < a) = false := decide_eq_false (by omega)
          have HB := HB9
          go_wp2_with fail
          refine (awake9_any _).mono ?_
          rintro e w9 ⟨rfl, hb⟩
          have HB := hide (bl_trans HB.out hb)
          go_wp2
          go_ret
          exact ⟨rfl, HB.out⟩
  · have g0 : decide (200 < (a0.size : Int)) = true := decide_eq_true (by omega)
    go_enter Try.func5, Try.ntmps5
    go_wp2_with fail
    refine (awake9_any _).mono ?_
    rintro e w9 ⟨rfl, hb⟩
    go_wp2
    go_ret
    exact ⟨rfl, hb⟩

set_option maxRecDepth 100000 in
theorem lifted (os : Os) (started : os.Started) (H : Type) (enc : TypeId × Value → H) :
    ReturnsInHanded {} Try.checked os 5 .any (Rows.stepBackSpec.pre6 enc Try.prog Try.f5 Rows.stepBackRow.domain false) (Rows.stepBackSpec.post enc Try.prog Try.f5 false true false false) := by
  refine returnsInHanded_of_change (C := Try.checked) own started (by kernel_rfl) Try.func5
    (ChangeSpec.witness6 (enc := enc) (C := Try.checked) false ⟨#[], #[.string ByteArray.empty, .int .i64 0], []⟩ 8 (by kernel_rfl) (by kernel_rfl) (by kernel_rfl) (by kernel_rfl)) ?_
  intro W base args ds gs before hval0 hW hcnd _
  have hval : ∀ (j : Nat) t v, Try.f5.params[j]? = some t → args[j]? = some v → Value.okWide Try.prog W .any base t v := hval0
  have hW' := hW
  obtain ⟨p, q, hA0, hV, rfl, hfz, hnd⟩ := hW
  have hA : DataW.TrodAll enc Try.prog W 0 (fun _ => true) true Try.f5.params.toList args.toList ds p := hA0
  rw [Try.params5] at hA hval
  obtain ⟨v0, vs0, d0, ds0, p0, q0, hargs, rfl, rfl, h0, r0⟩ := trodAll_cons hA
  obtain ⟨v1, vs1, d1, ds1, p1, q1, rfl, rfl, rfl, h1, r1⟩ := trodAll_cons r0
  obtain ⟨rfl, rfl, rfl⟩ := trodAll_nil r1
  obtain rfl : args = #[v0, v1] := by cases args; simp_all
  obtain ⟨rfl, rfl⟩ := trodVars_none hV
  have k0 := h0
  have lt0 : ∀ x ∈ p0, x.block < W.heap.size := by obtain ⟨m, hm⟩ := k0; exact DataW.trod_lt m _ _ _ hm
  obtain ⟨a0, rfl, hd0, hp0, w0⟩ := open_string Try.underlying9 (hval 0 9 v0 rfl rfl) h0
  have k1 := h1
  have lt1 : ∀ x ∈ p1, x.block < W.heap.size := by obtain ⟨m, hm⟩ := k1; exact DataW.trod_lt m _ _ _ hm
  obtain ⟨a1, rfl, hd1, hp1, w1⟩ := open_int Try.underlying3 (hval 1 3 v1 rfl rfl) h1
  clear hA0 hval0
  refine (walk a0 a1 W w0 w1).mono fun e W' ⟨he, bel⟩ => ?_
  subst he
  exact ⟨_, rfl, _, _, _, [], _, [], hW', trodAll_mk1 (shut_bool Try.underlying4 _), (trodAll_cons_mk (Below.trod laidOut (by kernel_rfl) (of_decide_eq_true (by kernel_rfl)) k0 bel lt0) (trodAll_cons_mk (Below.trod laidOut (by kernel_rfl) (of_decide_eq_true (by kernel_rfl)) k1 bel lt1) trodAll_mk0)), rfl, bel.frame _, fun h => by cases h⟩

theorem over : Rows.stepBackRow.holds Try.pinned (OpenSpec.ofChange Rows.stepBackSpec) :=
  OpenClaim.holds_of_wide 5 Try.f5 rfl rfl rfl rfl rfl rfl rfl ⟨rfl, rfl, rfl, rfl, rfl⟩ rfl rfl rfl rfl rfl (by kernel_rfl) Try.func5 (by kernel_rfl)
    (of_decide_eq_true (by kernel_rfl)) (by unfold Func.isWrapper; first | (rw [if_pos (by decide +kernel)]; kernel_rfl) | (rw [if_neg (by decide +kernel)]; exact ⟨rfl, rfl⟩))
    (fun os started H enc _ => lifted os started H enc)

theorem proved : Rows.StepBackSaid := over
end Go.Proofs.Ytjcmbnmejkhcjaa.stepBack
