/- GoWordR goes over bytes that are in no word and then over a whole run of those that are, and no further; GoWordL likewise back. Conditions: none beyond the form's own. -/
import Derived.Test.YtjcmbnmejkhcjaaRows
import Derived.Test.YtjcmbnmejkhcjaaArgs
import Derived.Test.YtjcmbnmejkhcjaaMotEnd
namespace Go.Proofs.Ytjcmbnmejkhcjaa.stepWords
open Go.Proofs.Ytjcmbnmejkhcjaa
open Go.ChangeShapes Go.WideShapes Go.ChangeAt Go.RowKit Go.Deep
open Go.ChangeMaps (open_string shut_string)
set_option linter.unusedVariables false

theorem own : ownKnob Try.prog.godebug = none := by kernel_rfl
theorem laidOut : laidOutB Try.prog = true := by kernel_rfl
-- opt:16000000
attribute [local go_sem ↓] Go.wp_at_zero Go.wp_at_succ
set_option maxRecDepth 100000 in
set_option maxHeartbeats 16000000 in
theorem walk (a0 : ByteArray) (a1 : Int) (w : World) (w0 : a0.size ≤ maxLen) (w1 : (Lit.int .i64 a1).wf = true) :
    Calls Try.prog 9 #[.string a0, .int .i64 a1] w fun e w' => e = .returned (.bool true) ∧ Below w.heap.size w w' := by
  by_cases h0 : a0.size ≤ 200
  · have g0 : decide (200 < (a0.size : Int)) = false := decide_eq_false (by omega)
    have hxl : a0.data.toList.length = a0.size := rfl
    have hlt_p := lowN_lt a1 (a0.size + 1) (by omega)
    have hlw_p : ∀ W, Calls Try.prog 14 #[.int .i64 a1, .int .i64 ((a0.size : Int) + 1)] W fun e w' => e = .returned (.int .i64 (lowN a1 (a0.size + 1) : Nat)) ∧ W = w' := fun W => low_any a1 (a0.size + 1) W (by omega) (by omega)
    have HLW_p := hide hlw_p
    clear hlw_p
    generalize lowN a1 (a0.size + 1) = p at *
    have hps : p ≤ a0.size := by omega
    obtain ⟨a1', a2, a3, a4, a5⟩ := wr_at a0.data.toList p hps
    obtain ⟨e1, e2, e3⟩ := wl_at a0.data.toList p hps
    have a1 := a1'
    clear a1'
    have A4 := hide a4
    have E3 := hide e3
    clear a4 e3
    rw [hxl] at a2 a3 a5
    have HS1 := hide (fun (W : World) (rr : Nat) (h : LnAt W rr a0) => Step_k h (by omega) p hps 10 (by decide) (by decide) (wrM a0.data.toList p) rfl)
    have HS2 := hide (fun (W : World) (rr : Nat) (h : LnAt W rr a0) => Step_k h (by omega) p hps 9 (by decide) (by decide) (wlM a0.data.toList p) rfl)
    generalize wrM a0.data.toList p = r at *
    generalize wlM a0.data.toList p = q at *
    clear hlt_p
    by_cases hrl : r < a0.size
    · by_cases hqp : 0 < q
      · obtain ⟨b1, b2, b3⟩ := a3 hrl
        obtain ⟨r1, rfl⟩ : ∃ r1, r = r1 + 1 := ⟨r - 1, by omega⟩
        rw [Nat.add_sub_cancel] at b3
        obtain ⟨d1, d2, d3⟩ := e2 hqp
        obtain ⟨q1, rfl⟩ : ∃ q1, q = q1 + 1 := ⟨q - 1, by omega⟩
        rw [Nat.add_sub_cancel] at d1
        have hr0 : r1 + 1 < a0.size := hrl
        have hr1 : r1 < a0.size := by omega
        have HW1 := hide (fun W => rword_m a0[r1 + 1] false (by rw [← wd_s a0 (r1 + 1) hr0]; exact b1) W)
        have HW2 := hide (fun W => rword_m a0[r1] true (by rw [← wd_s a0 r1 hr1]; exact b3) W)
        have hq0 : q1 + 1 < a0.size := by omega
        have hq1 : q1 < a0.size := by omega
        have HW3 := hide (fun W => rword_m a0[q1] false (by rw [← wd_s a0 q1 hq1]; exact d1) W)
        have HW4 := hide (fun W => rword_m a0[q1 + 1] true (by rw [← wd_s a0 (q1 + 1) hq0]; exact d3) W)
        have g1i : decide (((r1 : Int) + 1) < (p : Int)) = false := decide_eq_false (by omega)
        have g1n : decide ((r1 + 1) < p) = false := decide_eq_false (by omega)
        have g2i : decide ((a0.size : Int) < ((r1 : Int) + 1)) = false := decide_eq_false (by omega)
        have g2n : decide (a0.size < (r1 + 1)) = false := decide_eq_false (by omega)
        have g3i : decide ((p : Int) < ((q1 : Int) + 1)) = false := decide_eq_false (by omega)
        have g3n : decide (p < (q1 + 1)) = false := decide_eq_false (by omega)
        have g4i : decide (((q1 : Int) + 1) < 0) = false := decide_eq_false (by omega)
        have g4n : decide ((q1 + 1) < 0) = false := decide_eq_false (by omega)
        have g5i : decide (((r1 : Int) + 1) < (a0.size : Int)) = true := decide_eq_true (by omega)
        have g5n : decide ((r1 + 1) < a0.size) = true := decide_eq_true (by omega)
        have g6i : decide ((0 : Int) < ((q1 : Int) + 1)) = true := decide_eq_true (by omega)
        have g6n : decide (0 < (q1 + 1)) = true := decide_eq_true (by omega)
        have g7 : (((r1 : Int) + 1) == (p : Int)) = false := by simp; omega
        have g8 : ((r1 + 1) == p) = false := by simp; omega
        have g9 : (((q1 : Int) + 1) == (p : Int)) = false := by simp; omega
        have g10 : ((q1 + 1) == p) = false := by simp; omega
        have hrs : (r1 + 1) ≤ a0.size := by omega
        have hpr : p ≤ (r1 + 1) := by omega
        have hqp2 : (q1 + 1) ≤ p := by omega
        clear a1 a2 a3 a5 e1 e2 hxl b1 b2 b3 hrl d1 d2 d3 hqp
        go_enter Try.func9, Try.ntmps9
        go_wp2_with fail
        refine (of9_b a0 _ (by omega)).mono ?_
        rintro e w1 ⟨rr, rfl, hL, hb1, _⟩
        have c0 := ln_c0 w1 rr
        have HB := hide (bl_trans hb1 (ln_b0 w1 rr))
        have HL := hide (hL.bl (ln_b0 w1 rr))
        clear hL hb1
        go_wp2_with fail
        (with_reducible refine (HLW_p.out _).mono ?_)
        rintro e u61 ⟨rfl, hw61⟩
        subst hw61
        go_wp2_with fail
        (with_reducible refine (HS1.out _ _ HL.out).mono ?_)
        rintro e v62 ⟨rfl, hb⟩
        have c0 := cell_later hb c0
        have HB := hide (bl_trans HB.out hb)
        have HL := hide (HL.out.bl hb)
        clear hb
        go_wp2_with fail
        (with_reducible refine (HS2.out _ _ HL.out).mono ?_)
        rintro e v63 ⟨rfl, hb⟩
        have c0 := cell_later hb c0
        have HB := hide (bl_trans HB.out hb)
        have HL := hide (HL.out.bl hb)
        clear hb
        have HB9 := HB
        clear HB HL c0
        go_wp2_with (first | fail | (go_at_call 19; (with_reducible refine (HW1.out _).mono ?_); rintro e w8 ⟨rfl, rfl⟩) | (go_at_call 19; (with_reducible refine (HW2.out _).mono ?_); rintro e w8 ⟨rfl, rfl⟩) | (go_at_call 19; (with_reducible refine (HW3.out _).mono ?_); rintro e w8 ⟨rfl, rfl⟩) | (go_at_call 19; (with_reducible refine (HW4.out _).mono ?_); rintro e w8 ⟨rfl, rfl⟩) )
        clear g1i g1n g2i g2n g3i g3n g4i g4n
        go_loopw [12] (fun v wr => ∃ k : Nat, v = .int .i64 k ∧ p ≤ k ∧ k ≤ a0.size ∧ v63 = wr) (fun v _ => a0.size - (intOf v).toNat)
        case atStart => exact ⟨p, by first | rfl | go_num, Nat.le_refl _, by omega, rfl⟩
        case round =>
          obtain ⟨k, rfl, hk, hks, rfl⟩ := hrel
          have hw1 : IntKind.i64.wrap ((k : Int) + 1) = (k : Int) + 1 := IntWalk.i64_in _ (by omega)
          by_cases hlt : k + 1 < (r1 + 1)
          · have hk0 : k < a0.size := by omega
            have hk1 : k + 1 < a0.size := by omega
            have hf := A4.out k hk hlt
            have HX1 := hide (fun W => rword_m a0[k] _ (wd_s a0 k hk0).symm W)
            have HX2 := hide (fun W => rword_m a0[k + 1] _ (wd_s a0 (k + 1) hk1).symm W)
            have gli : decide ((k : Int) + 1 < ((r1 : Int) + 1)) = true := decide_eq_true (by omega)
            have gln : decide (k + 1 < (r1 + 1)) = true := decide_eq_true (by omega)
            have gmi : decide ((k : Int) < (r1 : Int)) = true := decide_eq_true (by omega)
            have gmn : decide (k < r1) = true := decide_eq_true (by omega)
            rcases hb : wdP a0.data.toList k with _ | _
            · rw [hb] at HX1 hf
              generalize wdP a0.data.toList (k + 1) = bb at *
              clear hf hb
              go_wp2_with (first | fail | (go_at_call 19; (with_reducible refine (HX1.out _).mono ?_); rintro e w8 ⟨rfl, rfl⟩) | (go_at_call 19; (with_reducible refine (HX2.out _).mono ?_); rintro e w8 ⟨rfl, rfl⟩) )
              refine ⟨?_, by first | (simp [intOf]; done) | (simp [intOf]; omega)⟩
              first
                | exact ⟨k + 1, by go_num, by omega, by omega, by first | rfl | trivial⟩
                | ((repeat apply Exists.intro); exact ⟨⟨k + 1, by go_num, by omega, by omega, by first | rfl | trivial⟩, rfl⟩)
            · rw [hb] at HX1 hf
              have hf2 := hf rfl
              rw [hf2] at HX2
              clear hf hf2 hb
              go_wp2_with (first | fail | (go_at_call 19; (with_reducible refine (HX1.out _).mono ?_); rintro e w8 ⟨rfl, rfl⟩) | (go_at_call 19; (with_reducible refine (HX2.out _).mono ?_); rintro e w8 ⟨rfl, rfl⟩) )
              refine ⟨?_, by first | (simp [intOf]; done) | (simp [intOf]; omega)⟩
              first
                | exact ⟨k + 1, by go_num, by omega, by omega, by first | rfl | trivial⟩
                | ((repeat apply Exists.intro); exact ⟨⟨k + 1, by go_num, by omega, by omega, by first | rfl | trivial⟩, rfl⟩)
          · have gli : decide ((k : Int) + 1 < ((r1 : Int) + 1)) = false := decide_eq_false (by omega)
            have gln : decide (k + 1 < (r1 + 1)) = false := decide_eq_false (by omega)
            have gmi : decide ((k : Int) < (r1 : Int)) = false := decide_eq_false (by omega)
            have gmn : decide (k < r1) = false := decide_eq_false (by omega)
            go_wp2
            clear gli gln hw1 hlt
            go_loopw [13] (fun v wr => ∃ k : Nat, v = .int .i64 k ∧ (q1 + 1) ≤ k ∧ k ≤ a0.size ∧ v63 = wr) (fun v _ => a0.size - (intOf v).toNat)
            case atStart => exact ⟨(q1 + 1), by first | rfl | go_num, Nat.le_refl _, by omega, rfl⟩
            case round =>
              obtain ⟨k, rfl, hk, hks, rfl⟩ := hrel
              have hw1 : IntKind.i64.wrap ((k : Int) + 1) = (k : Int) + 1 := IntWalk.i64_in _ (by omega)
              by_cases hlt : k + 1 < p
              · have hk0 : k < a0.size := by omega
                have hk1 : k + 1 < a0.size := by omega
                have hf := E3.out k hk hlt
                have HX1 := hide (fun W => rword_m a0[k] _ (wd_s a0 k hk0).symm W)
                have HX2 := hide (fun W => rword_m a0[k + 1] _ (wd_s a0 (k + 1) hk1).symm W)
                have gli : decide ((k : Int) + 1 < (p : Int)) = true := decide_eq_true (by omega)
                have gln : decide (k + 1 < p) = true := decide_eq_true (by omega)
                rcases hb : wdP a0.data.toList k with _ | _
                · rw [hb] at HX1 hf
                  have hf2 := hf rfl
                  rw [hf2] at HX2
                  clear hf hf2 hb
                  go_wp2_with (first | fail | (go_at_call 19; (with_reducible refine (HX1.out _).mono ?_); rintro e w8 ⟨rfl, rfl⟩) | (go_at_call 19; (with_reducible refine (HX2.out _).mono ?_); rintro e w8 ⟨rfl, rfl⟩) )
                  refine ⟨?_, by first | (simp [intOf]; done) | (simp [intOf]; omega)⟩
                  first
                    | exact ⟨k + 1, by go_num, by omega, by omega, by first | rfl | trivial⟩
                    | ((repeat apply Exists.intro); exact ⟨⟨k + 1, by go_num, by omega, by omega, by first | rfl | trivial⟩, rfl⟩)
                · rw [hb] at HX1 hf
                  generalize wdP a0.data.toList (k + 1) = bb at *
                  clear hf hb
                  go_wp2_with (first | fail | (go_at_call 19; (with_reducible refine (HX1.out _).mono ?_); rintro e w8 ⟨rfl, rfl⟩) | (go_at_call 19; (with_reducible refine (HX2.out _).mono ?_); rintro e w8 ⟨rfl, rfl⟩) )
                  refine ⟨?_, by first | (simp [intOf]; done) | (simp [intOf]; omega)⟩
                  first
                    | exact ⟨k + 1, by go_num, by omega, by omega, by first | rfl | trivial⟩
                    | ((repeat apply Exists.intro); exact ⟨⟨k + 1, by go_num, by omega, by omega, by first | rfl | trivial⟩, rfl⟩)
              · have gli : decide ((k : Int) + 1 < (p : Int)) = false := decide_eq_false (by omega)
                have gln : decide (k + 1 < p) = false := decide_eq_false (by omega)
                have HB := HB9
                go_wp2_with fail
                refine (awake9_any _).mono ?_
                rintro e w9 ⟨rfl, hb⟩
                have HB := hide (bl_trans HB.out hb)
                go_wp2
                go_ret
                exact ⟨rfl, HB.out⟩
      · obtain ⟨b1, b2, b3⟩ := a3 hrl
        obtain ⟨r1, rfl⟩ : ∃ r1, r = r1 + 1 := ⟨r - 1, by omega⟩
        rw [Nat.add_sub_cancel] at b3
        have hr0 : r1 + 1 < a0.size := hrl
        have hr1 : r1 < a0.size := by omega
        have HW1 := hide (fun W => rword_m a0[r1 + 1] false (by rw [← wd_s a0 (r1 + 1) hr0]; exact b1) W)
        have HW2 := hide (fun W => rword_m a0[r1] true (by rw [← wd_s a0 r1 hr1]; exact b3) W)
        have g1i : decide (((r1 : Int) + 1) < (p : Int)) = false := decide_eq_false (by omega)
        have g1n : decide ((r1 + 1) < p) = false := decide_eq_false (by omega)
        have g2i : decide ((a0.size : Int) < ((r1 : Int) + 1)) = false := decide_eq_false (by omega)
        have g2n : decide (a0.size < (r1 + 1)) = false := decide_eq_false (by omega)
        have g3i : decide ((p : Int) < (q : Int)) = false := decide_eq_false (by omega)
        have g3n : decide (p < q) = false := decide_eq_false (by omega)
        have g4i : decide ((q : Int) < 0) = false := decide_eq_false (by omega)
        have g4n : decide (q < 0) = false := decide_eq_false (by omega)
        have g5i : decide (((r1 : Int) + 1) < (a0.size : Int)) = true := decide_eq_true (by omega)
        have g5n : decide ((r1 + 1) < a0.size) = true := decide_eq_true (by omega)
        have g6i : decide ((0 : Int) < (q : Int)) = false := decide_eq_false (by omega)
        have g6n : decide (0 < q) = false := decide_eq_false (by omega)
        have g7 : (((r1 : Int) + 1) == (p : Int)) = false := by simp; omega
        have g8 : ((r1 + 1) == p) = false := by simp; omega
        have hrs : (r1 + 1) ≤ a0.size := by omega
        have hpr : p ≤ (r1 + 1) := by omega
        have hqp2 : q ≤ p := by omega
        clear a1 a2 a3 a5 e1 e2 hxl b1 b2 b3 hrl hqp
        go_enter Try.func9, Try.ntmps9
        go_wp2_with fail
        refine (of9_b a0 _ (by omega)).mono ?_
        rintro e w1 ⟨rr, rfl, hL, hb1, _⟩
        have c0 := ln_c0 w1 rr
        have HB := hide (bl_trans hb1 (ln_b0 w1 rr))
        have HL := hide (hL.bl (ln_b0 w1 rr))
        clear hL hb1
        go_wp2_with fail
        (with_reducible refine (HLW_p.out _).mono ?_)
        rintro e u65 ⟨rfl, hw65⟩
        subst hw65
        go_wp2_with fail
        (with_reducible refine (HS1.out _ _ HL.out).mono ?_)
        rintro e v66 ⟨rfl, hb⟩
        have c0 := cell_later hb c0
        have HB := hide (bl_trans HB.out hb)
        have HL := hide (HL.out.bl hb)
        clear hb
        go_wp2_with fail
        (with_reducible refine (HS2.out _ _ HL.out).mono ?_)
        rintro e v67 ⟨rfl, hb⟩
        have c0 := cell_later hb c0
        have HB := hide (bl_trans HB.out hb)
        have HL := hide (HL.out.bl hb)
        clear hb
        have HB9 := HB
        clear HB HL c0
        go_wp2_with (first | fail | (go_at_call 19; (with_reducible refine (HW1.out _).mono ?_); rintro e w8 ⟨rfl, rfl⟩) | (go_at_call 19; (with_reducible refine (HW2.out _).mono ?_); rintro e w8 ⟨rfl, rfl⟩) )
        clear g1i g1n g2i g2n g3i g3n g4i g4n
        go_loopw [12] (fun v wr => ∃ k : Nat, v = .int .i64 k ∧ p ≤ k ∧ k ≤ a0.size ∧ v67 = wr) (fun v _ => a0.size - (intOf v).toNat)
        case atStart => exact ⟨p, by first | rfl | go_num, Nat.le_refl _, by omega, rfl⟩
        case round =>
          obtain ⟨k, rfl, hk, hks, rfl⟩ := hrel
          have hw1 : IntKind.i64.wrap ((k : Int) + 1) = (k : Int) + 1 := IntWalk.i64_in _ (by omega)
          by_cases hlt : k + 1 < (r1 + 1)
          · have hk0 : k < a0.size := by omega
            have hk1 : k + 1 < a0.size := by omega
            have hf := A4.out k hk hlt
            have HX1 := hide (fun W => rword_m a0[k] _ (wd_s a0 k hk0).symm W)
            have HX2 := hide (fun W => rword_m a0[k + 1] _ (wd_s a0 (k + 1) hk1).symm W)
            have gli : decide ((k : Int) + 1 < ((r1 : Int) + 1)) = true := decide_eq_true (by omega)
            have gln : decide (k + 1 < (r1 + 1)) = true := decide_eq_true (by omega)
            have gmi : decide ((k : Int) < (r1 : Int)) = true := decide_eq_true (by omega)
            have gmn : decide (k < r1) = true := decide_eq_true (by omega)
            rcases hb : wdP a0.data.toList k with _ | _
            · rw [hb] at HX1 hf
              generalize wdP a0.data.toList (k + 1) = bb at *
              clear hf hb
              go_wp2_with (first | fail | (go_at_call 19; (with_reducible refine (HX1.out _).mono ?_); rintro e w8 ⟨rfl, rfl⟩) | (go_at_call 19; (with_reducible refine (HX2.out _).mono ?_); rintro e w8 ⟨rfl, rfl⟩) )
              refine ⟨?_, by first | (simp [intOf]; done) | (simp [intOf]; omega)⟩
              first
                | exact ⟨k + 1, by go_num, by omega, by omega, by first | rfl | trivial⟩
                | ((repeat apply Exists.intro); exact ⟨⟨k + 1, by go_num, by omega, by omega, by first | rfl | trivial⟩, rfl⟩)
            · rw [hb] at HX1 hf
              have hf2 := hf rfl
              rw [hf2] at HX2
              clear hf hf2 hb
              go_wp2_with (first | fail | (go_at_call 19; (with_reducible refine (HX1.out _).mono ?_); rintro e w8 ⟨rfl, rfl⟩) | (go_at_call 19; (with_reducible refine (HX2.out _).mono ?_); rintro e w8 ⟨rfl, rfl⟩) )
              refine ⟨?_, by first | (simp [intOf]; done) | (simp [intOf]; omega)⟩
              first
                | exact ⟨k + 1, by go_num, by omega, by omega, by first | rfl | trivial⟩
                | ((repeat apply Exists.intro); exact ⟨⟨k + 1, by go_num, by omega, by omega, by first | rfl | trivial⟩, rfl⟩)
          · have gli : decide ((k : Int) + 1 < ((r1 : Int) + 1)) = false := decide_eq_false (by omega)
            have gln : decide (k + 1 < (r1 + 1)) = false := decide_eq_false (by omega)
            have gmi : decide ((k : Int) < (r1 : Int)) = false := decide_eq_false (by omega)
            have gmn : decide (k < r1) = false := decide_eq_false (by omega)
            go_wp2
            clear gli gln hw1 hlt
            go_loopw [13] (fun v wr => ∃ k : Nat, v = .int .i64 k ∧ q ≤ k ∧ k ≤ a0.size ∧ v67 = wr) (fun v _ => a0.size - (intOf v).toNat)
            case atStart => exact ⟨q, by first | rfl | go_num, Nat.le_refl _, by omega, rfl⟩
            case round =>
              obtain ⟨k, rfl, hk, hks, rfl⟩ := hrel
              have hw1 : IntKind.i64.wrap ((k : Int) + 1) = (k : Int) + 1 := IntWalk.i64_in _ (by omega)
              by_cases hlt : k + 1 < p
              · have hk0 : k < a0.size := by omega
                have hk1 : k + 1 < a0.size := by omega
                have hf := E3.out k hk hlt
                have HX1 := hide (fun W => rword_m a0[k] _ (wd_s a0 k hk0).symm W)
                have HX2 := hide (fun W => rword_m a0[k + 1] _ (wd_s a0 (k + 1) hk1).symm W)
                have gli : decide ((k : Int) + 1 < (p : Int)) = true := decide_eq_true (by omega)
                have gln : decide (k + 1 < p) = true := decide_eq_true (by omega)
                rcases hb : wdP a0.data.toList k with _ | _
                · rw [hb] at HX1 hf
                  have hf2 := hf rfl
                  rw [hf2] at HX2
                  clear hf hf2 hb
                  go_wp2_with (first | fail | (go_at_call 19; (with_reducible refine (HX1.out _).mono ?_); rintro e w8 ⟨rfl, rfl⟩) | (go_at_call 19; (with_reducible refine (HX2.out _).mono ?_); rintro e w8 ⟨rfl, rfl⟩) )
                  refine ⟨?_, by first | (simp [intOf]; done) | (simp [intOf]; omega)⟩
                  first
                    | exact ⟨k + 1, by go_num, by omega, by omega, by first | rfl | trivial⟩
                    | ((repeat apply Exists.intro); exact ⟨⟨k + 1, by go_num, by omega, by omega, by first | rfl | trivial⟩, rfl⟩)
                · rw [hb] at HX1 hf
                  generalize wdP a0.data.toList (k + 1) = bb at *
                  clear hf hb
                  go_wp2_with (first | fail | (go_at_call 19; (with_reducible refine (HX1.out _).mono ?_); rintro e w8 ⟨rfl, rfl⟩) | (go_at_call 19; (with_reducible refine (HX2.out _).mono ?_); rintro e w8 ⟨rfl, rfl⟩) )
                  refine ⟨?_, by first | (simp [intOf]; done) | (simp [intOf]; omega)⟩
                  first
                    | exact ⟨k + 1, by go_num, by omega, by omega, by first | rfl | trivial⟩
                    | ((repeat apply Exists.intro); exact ⟨⟨k + 1, by go_num, by omega, by omega, by first | rfl | trivial⟩, rfl⟩)
              · have gli : decide ((k : Int) + 1 < (p : Int)) = false := decide_eq_false (by omega)
                have gln : decide (k + 1 < p) = false := decide_eq_false (by omega)
                have HB := HB9
                go_wp2_with fail
                refine (awake9_any _).mono ?_
                rintro e w9 ⟨rfl, hb⟩
                have HB := hide (bl_trans HB.out hb)
                go_wp2
                go_ret
                exact ⟨rfl, HB.out⟩
    · by_cases hqp : 0 < q
      · obtain ⟨d1, d2, d3⟩ := e2 hqp
        obtain ⟨q1, rfl⟩ : ∃ q1, q = q1 + 1 := ⟨q - 1, by omega⟩
        rw [Nat.add_sub_cancel] at d1
        have hq0 : q1 + 1 < a0.size := by omega
        have hq1 : q1 < a0.size := by omega
        have HW3 := hide (fun W => rword_m a0[q1] false (by rw [← wd_s a0 q1 hq1]; exact d1) W)
        have HW4 := hide (fun W => rword_m a0[q1 + 1] true (by rw [← wd_s a0 (q1 + 1) hq0]; exact d3) W)
        have g1i : decide ((r : Int) < (p : Int)) = false := decide_eq_false (by omega)
        have g1n : decide (r < p) = false := decide_eq_false (by omega)
        have g2i : decide ((a0.size : Int) < (r : Int)) = false := decide_eq_false (by omega)
        have g2n : decide (a0.size < r) = false := decide_eq_false (by omega)
        have g3i : decide ((p : Int) < ((q1 : Int) + 1)) = false := decide_eq_false (by omega)
        have g3n : decide (p < (q1 + 1)) = false := decide_eq_false (by omega)
        have g4i : decide (((q1 : Int) + 1) < 0) = false := decide_eq_false (by omega)
        have g4n : decide ((q1 + 1) < 0) = false := decide_eq_false (by omega)
        have g5i : decide ((r : Int) < (a0.size : Int)) = false := decide_eq_false (by omega)
        have g5n : decide (r < a0.size) = false := decide_eq_false (by omega)
        have g6i : decide ((0 : Int) < ((q1 : Int) + 1)) = true := decide_eq_true (by omega)
        have g6n : decide (0 < (q1 + 1)) = true := decide_eq_true (by omega)
        have g9 : (((q1 : Int) + 1) == (p : Int)) = false := by simp; omega
        have g10 : ((q1 + 1) == p) = false := by simp; omega
        have hrs : r ≤ a0.size := by omega
        have hpr : p ≤ r := by omega
        have hqp2 : (q1 + 1) ≤ p := by omega
        clear a1 a2 a3 a5 e1 e2 hxl hrl d1 d2 d3 hqp
        go_enter Try.func9, Try.ntmps9
        go_wp2_with fail
        refine (of9_b a0 _ (by omega)).mono ?_
        rintro e w1 ⟨rr, rfl, hL, hb1, _⟩
        have c0 := ln_c0 w1 rr
        have HB := hide (bl_trans hb1 (ln_b0 w1 rr))
        have HL := hide (hL.bl (ln_b0 w1 rr))
        clear hL hb1
        go_wp2_with fail
        (with_reducible refine (HLW_p.out _).mono ?_)
        rintro e u69 ⟨rfl, hw69⟩
        subst hw69
        go_wp2_with fail
        (with_reducible refine (HS1.out _ _ HL.out).mono ?_)
        rintro e v70 ⟨rfl, hb⟩
        have c0 := cell_later hb c0
        have HB := hide (bl_trans HB.out hb)
        have HL := hide (HL.out.bl hb)
        clear hb
        go_wp2_with fail
        (with_reducible refine (HS2.out _ _ HL.out).mono ?_)
        rintro e v71 ⟨rfl, hb⟩
        have c0 := cell_later hb c0
        have HB := hide (bl_trans HB.out hb)
        have HL := hide (HL.out.bl hb)
        clear hb
        have HB9 := HB
        clear HB HL c0
        go_wp2_with (first | fail | (go_at_call 19; (with_reducible refine (HW3.out _).mono ?_); rintro e w8 ⟨rfl, rfl⟩) | (go_at_call 19; (with_reducible refine (HW4.out _).mono ?_); rintro e w8 ⟨rfl, rfl⟩) )
        clear g1i g1n g2i g2n g3i g3n g4i g4n
        go_loopw [12] (fun v wr => ∃ k : Nat, v = .int .i64 k ∧ p ≤ k ∧ k ≤ a0.size ∧ v71 = wr) (fun v _ => a0.size - (intOf v).toNat)
        case atStart => exact ⟨p, by first | rfl | go_num, Nat.le_refl _, by omega, rfl⟩
        case round =>
          obtain ⟨k, rfl, hk, hks, rfl⟩ := hrel
          have hw1 : IntKind.i64.wrap ((k : Int) + 1) = (k : Int) + 1 := IntWalk.i64_in _ (by omega)
          by_cases hlt : k + 1 < r
          · have hk0 : k < a0.size := by omega
            have hk1 : k + 1 < a0.size := by omega
            have hf := A4.out k hk hlt
            have HX1 := hide (fun W => rword_m a0[k] _ (wd_s a0 k hk0).symm W)
            have HX2 := hide (fun W => rword_m a0[k + 1] _ (wd_s a0 (k + 1) hk1).symm W)
            have gli : decide ((k : Int) + 1 < (r : Int)) = true := decide_eq_true (by omega)
            have gln : decide (k + 1 < r) = true := decide_eq_true (by omega)
            rcases hb : wdP a0.data.toList k with _ | _
            · rw [hb] at HX1 hf
              generalize wdP a0.data.toList (k + 1) = bb at *
              clear hf hb
              go_wp2_with (first | fail | (go_at_call 19; (with_reducible refine (HX1.out _).mono ?_); rintro e w8 ⟨rfl, rfl⟩) | (go_at_call 19; (with_reducible refine (HX2.out _).mono ?_); rintro e w8 ⟨rfl, rfl⟩) )
              refine ⟨?_, by first | (simp [intOf]; done) | (simp [intOf]; omega)⟩
              first
                | exact ⟨k + 1, by go_num, by omega, by omega, by first | rfl | trivial⟩
                | ((repeat apply Exists.intro); exact ⟨⟨k + 1, by go_num, by omega, by omega, by first | rfl | trivial⟩, rfl⟩)
            · rw [hb] at HX1 hf
              have hf2 := hf rfl
              rw [hf2] at HX2
              clear hf hf2 hb
              go_wp2_with (first | fail | (go_at_call 19; (with_reducible refine (HX1.out _).mono ?_); rintro e w8 ⟨rfl, rfl⟩) | (go_at_call 19; (with_reducible refine (HX2.out _).mono ?_); rintro e w8 ⟨rfl, rfl⟩) )
              refine ⟨?_, by first | (simp [intOf]; done) | (simp [intOf]; omega)⟩
              first
                | exact ⟨k + 1, by go_num, by omega, by omega, by first | rfl | trivial⟩
                | ((repeat apply Exists.intro); exact ⟨⟨k + 1, by go_num, by omega, by omega, by first | rfl | trivial⟩, rfl⟩)
          · have gli : decide ((k : Int) + 1 < (r : Int)) = false := decide_eq_false (by omega)
            have gln : decide (k + 1 < r) = false := decide_eq_false (by omega)
            go_wp2
            clear gli gln hw1 hlt
            go_loopw [13] (fun v wr => ∃ k : Nat, v = .int .i64 k ∧ (q1 + 1) ≤ k ∧ k ≤ a0.size ∧ v71 = wr) (fun v _ => a0.size - (intOf v).toNat)
            case atStart => exact ⟨(q1 + 1), by first | rfl | go_num, Nat.le_refl _, by omega, rfl⟩
            case round =>
              obtain ⟨k, rfl, hk, hks, rfl⟩ := hrel
              have hw1 : IntKind.i64.wrap ((k : Int) + 1) = (k : Int) + 1 := IntWalk.i64_in _ (by omega)
              by_cases hlt : k + 1 < p
              · have hk0 : k < a0.size := by omega
                have hk1 : k + 1 < a0.size := by omega
                have hf := E3.out k hk hlt
                have HX1 := hide (fun W => rword_m a0[k] _ (wd_s a0 k hk0).symm W)
                have HX2 := hide (fun W => rword_m a0[k + 1] _ (wd_s a0 (k + 1) hk1).symm W)
                have gli : decide ((k : Int) + 1 < (p : Int)) = true := decide_eq_true (by omega)
                have gln : decide (k + 1 < p) = true := decide_eq_true (by omega)
                rcases hb : wdP a0.data.toList k with _ | _
                · rw [hb] at HX1 hf
                  have hf2 := hf rfl
                  rw [hf2] at HX2
                  clear hf hf2 hb
                  go_wp2_with (first | fail | (go_at_call 19; (with_reducible refine (HX1.out _).mono ?_); rintro e w8 ⟨rfl, rfl⟩) | (go_at_call 19; (with_reducible refine (HX2.out _).mono ?_); rintro e w8 ⟨rfl, rfl⟩) )
                  refine ⟨?_, by first | (simp [intOf]; done) | (simp [intOf]; omega)⟩
                  first
                    | exact ⟨k + 1, by go_num, by omega, by omega, by first | rfl | trivial⟩
                    | ((repeat apply Exists.intro); exact ⟨⟨k + 1, by go_num, by omega, by omega, by first | rfl | trivial⟩, rfl⟩)
                · rw [hb] at HX1 hf
                  generalize wdP a0.data.toList (k + 1) = bb at *
                  clear hf hb
                  go_wp2_with (first | fail | (go_at_call 19; (with_reducible refine (HX1.out _).mono ?_); rintro e w8 ⟨rfl, rfl⟩) | (go_at_call 19; (with_reducible refine (HX2.out _).mono ?_); rintro e w8 ⟨rfl, rfl⟩) )
                  refine ⟨?_, by first | (simp [intOf]; done) | (simp [intOf]; omega)⟩
                  first
                    | exact ⟨k + 1, by go_num, by omega, by omega, by first | rfl | trivial⟩
                    | ((repeat apply Exists.intro); exact ⟨⟨k + 1, by go_num, by omega, by omega, by first | rfl | trivial⟩, rfl⟩)
              · have gli : decide ((k : Int) + 1 < (p : Int)) = false := decide_eq_false (by omega)
                have gln : decide (k + 1 < p) = false := decide_eq_false (by omega)
                have HB := HB9
                go_wp2_with fail
                refine (awake9_any _).mono ?_
                rintro e w9 ⟨rfl, hb⟩
                have HB := hide (bl_trans HB.out hb)
                go_wp2
                go_ret
                exact ⟨rfl, HB.out⟩
      · have g1i : decide ((r : Int) < (p : Int)) = false := decide_eq_false (by omega)
        have g1n : decide (r < p) = false := decide_eq_false (by omega)
        have g2i : decide ((a0.size : Int) < (r : Int)) = false := decide_eq_false (by omega)
        have g2n : decide (a0.size < r) = false := decide_eq_false (by omega)
        have g3i : decide ((p : Int) < (q : Int)) = false := decide_eq_false (by omega)
        have g3n : decide (p < q) = false := decide_eq_false (by omega)
        have g4i : decide ((q : Int) < 0) = false := decide_eq_false (by omega)
        have g4n : decide (q < 0) = false := decide_eq_false (by omega)
        have g5i : decide ((r : Int) < (a0.size : Int)) = false := decide_eq_false (by omega)
        have g5n : decide (r < a0.size) = false := decide_eq_false (by omega)
        have g6i : decide ((0 : Int) < (q : Int)) = false := decide_eq_false (by omega)
        have g6n : decide (0 < q) = false := decide_eq_false (by omega)
        have hrs : r ≤ a0.size := by omega
        have hpr : p ≤ r := by omega
        have hqp2 : q ≤ p := by omega
        clear a1 a2 a3 a5 e1 e2 hxl hrl hqp
        go_enter Try.func9, Try.ntmps9
        go_wp2_with fail
        refine (of9_b a0 _ (by omega)).mono ?_
        rintro e w1 ⟨rr, rfl, hL, hb1, _⟩
        have c0 := ln_c0 w1 rr
        have HB := hide (bl_trans hb1 (ln_b0 w1 rr))
        have HL := hide (hL.bl (ln_b0 w1 rr))
        clear hL hb1
        go_wp2_with fail
        (with_reducible refine (HLW_p.out _).mono ?_)
        rintro e u73 ⟨rfl, hw73⟩
        subst hw73
        go_wp2_with fail
        (with_reducible refine (HS1.out _ _ HL.out).mono ?_)
        rintro e v74 ⟨rfl, hb⟩
        have c0 := cell_later hb c0
        have HB := hide (bl_trans HB.out hb)
        have HL := hide (HL.out.bl hb)
        clear hb
        go_wp2_with fail
        (with_reducible refine (HS2.out _ _ HL.out).mono ?_)
        rintro e v75 ⟨rfl, hb⟩
        have c0 := cell_later hb c0
        have HB := hide (bl_trans HB.out hb)
        have HL := hide (HL.out.bl hb)
        clear hb
        have HB9 := HB
        clear HB HL c0
        go_wp2
        clear g1i g1n g2i g2n g3i g3n g4i g4n
        go_loopw [12] (fun v wr => ∃ k : Nat, v = .int .i64 k ∧ p ≤ k ∧ k ≤ a0.size ∧ v75 = wr) (fun v _ => a0.size - (intOf v).toNat)
        case atStart => exact ⟨p, by first | rfl | go_num, Nat.le_refl _, by omega, rfl⟩
        case round =>
          obtain ⟨k, rfl, hk, hks, rfl⟩ := hrel
          have hw1 : IntKind.i64.wrap ((k : Int) + 1) = (k : Int) + 1 := IntWalk.i64_in _ (by omega)
          by_cases hlt : k + 1 < r
          · have hk0 : k < a0.size := by omega
            have hk1 : k + 1 < a0.size := by omega
            have hf := A4.out k hk hlt
            have HX1 := hide (fun W => rword_m a0[k] _ (wd_s a0 k hk0).symm W)
            have HX2 := hide (fun W => rword_m a0[k + 1] _ (wd_s a0 (k + 1) hk1).symm W)
            have gli : decide ((k : Int) + 1 < (r : Int)) = true := decide_eq_true (by omega)
            have gln : decide (k + 1 < r) = true := decide_eq_true (by omega)
            rcases hb : wdP a0.data.toList k with _ | _
            · rw [hb] at HX1 hf
              generalize wdP a0.data.toList (k + 1) = bb at *
              clear hf hb
              go_wp2_with (first | fail | (go_at_call 19; (with_reducible refine (HX1.out _).mono ?_); rintro e w8 ⟨rfl, rfl⟩) | (go_at_call 19; (with_reducible refine (HX2.out _).mono ?_); rintro e w8 ⟨rfl, rfl⟩) )
              refine ⟨?_, by first | (simp [intOf]; done) | (simp [intOf]; omega)⟩
              first
                | exact ⟨k + 1, by go_num, by omega, by omega, by first | rfl | trivial⟩
                | ((repeat apply Exists.intro); exact ⟨⟨k + 1, by go_num, by omega, by omega, by first | rfl | trivial⟩, rfl⟩)
            · rw [hb] at HX1 hf
              have hf2 := hf rfl
              rw [hf2] at HX2
              clear hf hf2 hb
              go_wp2_with (first | fail | (go_at_call 19; (with_reducible refine (HX1.out _).mono ?_); rintro e w8 ⟨rfl, rfl⟩) | (go_at_call 19; (with_reducible refine (HX2.out _).mono ?_); rintro e w8 ⟨rfl, rfl⟩) )
              refine ⟨?_, by first | (simp [intOf]; done) | (simp [intOf]; omega)⟩
              first
                | exact ⟨k + 1, by go_num, by omega, by omega, by first | rfl | trivial⟩
                | ((repeat apply Exists.intro); exact ⟨⟨k + 1, by go_num, by omega, by omega, by first | rfl | trivial⟩, rfl⟩)
          · have gli : decide ((k : Int) + 1 < (r : Int)) = false := decide_eq_false (by omega)
            have gln : decide (k + 1 < r) = false := decide_eq_false (by omega)
            go_wp2
            clear gli gln hw1 hlt
            go_loopw [13] (fun v wr => ∃ k : Nat, v = .int .i64 k ∧ q ≤ k ∧ k ≤ a0.size ∧ v75 = wr) (fun v _ => a0.size - (intOf v).toNat)
            case atStart => exact ⟨q, by first | rfl | go_num, Nat.le_refl _, by omega, rfl⟩
            case round =>
              obtain ⟨k, rfl, hk, hks, rfl⟩ := hrel
              have hw1 : IntKind.i64.wrap ((k : Int) + 1) = (k : Int) + 1 := IntWalk.i64_in _ (by omega)
              by_cases hlt : k + 1 < p
              · have hk0 : k < a0.size := by omega
                have hk1 : k + 1 < a0.size := by omega
                have hf := E3.out k hk hlt
                have HX1 := hide (fun W => rword_m a0[k] _ (wd_s a0 k hk0).symm W)
                have HX2 := hide (fun W => rword_m a0[k + 1] _ (wd_s a0 (k + 1) hk1).symm W)
                have gli : decide ((k : Int) + 1 < (p : Int)) = true := decide_eq_true (by omega)
                have gln : decide (k + 1 < p) = true := decide_eq_true (by omega)
                rcases hb : wdP a0.data.toList k with _ | _
                · rw [hb] at HX1 hf
                  have hf2 := hf rfl
                  rw [hf2] at HX2
                  clear hf hf2 hb
                  go_wp2_with (first | fail | (go_at_call 19; (with_reducible refine (HX1.out _).mono ?_); rintro e w8 ⟨rfl, rfl⟩) | (go_at_call 19; (with_reducible refine (HX2.out _).mono ?_); rintro e w8 ⟨rfl, rfl⟩) )
                  refine ⟨?_, by first | (simp [intOf]; done) | (simp [intOf]; omega)⟩
                  first
                    | exact ⟨k + 1, by go_num, by omega, by omega, by first | rfl | trivial⟩
                    | ((repeat apply Exists.intro); exact ⟨⟨k + 1, by go_num, by omega, by omega, by first | rfl | trivial⟩, rfl⟩)
                · rw [hb] at HX1 hf
                  generalize wdP a0.data.toList (k + 1) = bb at *
                  clear hf hb
                  go_wp2_with (first | fail | (go_at_call 19; (with_reducible refine (HX1.out _).mono ?_); rintro e w8 ⟨rfl, rfl⟩) | (go_at_call 19; (with_reducible refine (HX2.out _).mono ?_); rintro e w8 ⟨rfl, rfl⟩) )
                  refine ⟨?_, by first | (simp [intOf]; done) | (simp [intOf]; omega)⟩
                  first
                    | exact ⟨k + 1, by go_num, by omega, by omega, by first | rfl | trivial⟩
                    | ((repeat apply Exists.intro); exact ⟨⟨k + 1, by go_num, by omega, by omega, by first | rfl | trivial⟩, rfl⟩)
              · have gli : decide ((k : Int) + 1 < (p : Int)) = false := decide_eq_false (by omega)
                have gln : decide (k + 1 < p) = false := decide_eq_false (by omega)
                have HB := HB9
                go_wp2_with fail
                refine (awake9_any _).mono ?_
                rintro e w9 ⟨rfl, hb⟩
                have HB := hide (bl_trans HB.out hb)
                go_wp2
                go_ret
                exact ⟨rfl, HB.out⟩
  · have g0 : decide (200 < (a0.size : Int)) = true := decide_eq_true (by omega)
    go_enter Try.func9, Try.ntmps9
    go_wp2_with fail
    refine (awake9_any _).mono ?_
    rintro e w9 ⟨rfl, hb⟩
    go_wp2
    go_ret
    exact ⟨rfl, hb⟩

set_option maxRecDepth 100000 in
theorem lifted (os : Os) (started : os.Started) (H : Type) (enc : TypeId × Value → H) :
    ReturnsInHanded {} Try.checked os 9 .any (Rows.stepWordsSpec.pre6 enc Try.prog Try.f9 Rows.stepWordsRow.domain false) (Rows.stepWordsSpec.post enc Try.prog Try.f9 false true false false) := by
  refine returnsInHanded_of_change (C := Try.checked) own started (by kernel_rfl) Try.func9
    (ChangeSpec.witness6 (enc := enc) (C := Try.checked) false ⟨#[], #[.string ByteArray.empty, .int .i64 0], []⟩ 8 (by kernel_rfl) (by kernel_rfl) (by kernel_rfl) (by kernel_rfl)) ?_
  intro W base args ds gs before hval0 hW hcnd _
  have hval : ∀ (j : Nat) t v, Try.f9.params[j]? = some t → args[j]? = some v → Value.okWide Try.prog W .any base t v := hval0
  have hW' := hW
  obtain ⟨p, q, hA0, hV, rfl, hfz, hnd⟩ := hW
  have hA : DataW.TrodAll enc Try.prog W 0 (fun _ => true) true Try.f9.params.toList args.toList ds p := hA0
  rw [Try.params9] at hA hval
  obtain ⟨v0, vs0, d0, ds0, p0, q0, hargs, rfl, rfl, h0, r0⟩ := trodAll_cons hA
  obtain ⟨v1, vs1, d1, ds1, p1, q1, rfl, rfl, rfl, h1, r1⟩ := trodAll_cons r0
  obtain ⟨rfl, rfl, rfl⟩ := trodAll_nil r1
  obtain rfl : args = #[v0, v1] := by cases args; simp_all
  obtain ⟨rfl, rfl⟩ := trodVars_none hV
  have k0 := h0
  have lt0 : ∀ x ∈ p0, x.block < W.heap.size := by obtain ⟨m, hm⟩ := k0; exact DataW.trod_lt m _ _ _ hm
  obtain ⟨a0, rfl, hd0, hp0, w0⟩ := open_string Try.underlying9 (hval 0 9 v0 rfl rfl) h0
  have k1 := h1
  have lt1 : ∀ x ∈ p1, x.block < W.heap.size := by obtain ⟨m, hm⟩ := k1; exact DataW.trod_lt m _ _ _ hm
  obtain ⟨a1, rfl, hd1, hp1, w1⟩ := open_int Try.underlying3 (hval 1 3 v1 rfl rfl) h1
  clear hA0 hval0
  refine (walk a0 a1 W w0 w1).mono fun e W' ⟨he, bel⟩ => ?_
  subst he
  exact ⟨_, rfl, _, _, _, [], _, [], hW', trodAll_mk1 (shut_bool Try.underlying4 _), (trodAll_cons_mk (Below.trod laidOut (by kernel_rfl) (of_decide_eq_true (by kernel_rfl)) k0 bel lt0) (trodAll_cons_mk (Below.trod laidOut (by kernel_rfl) (of_decide_eq_true (by kernel_rfl)) k1 bel lt1) trodAll_mk0)), rfl, bel.frame _, fun h => by cases h⟩

theorem over : Rows.stepWordsRow.holds Try.pinned (OpenSpec.ofChange Rows.stepWordsSpec) :=
  OpenClaim.holds_of_wide 9 Try.f9 rfl rfl rfl rfl rfl rfl rfl ⟨rfl, rfl, rfl, rfl, rfl⟩ rfl rfl rfl rfl rfl (by kernel_rfl) Try.func9 (by kernel_rfl)
    (of_decide_eq_true (by kernel_rfl)) (by unfold Func.isWrapper; first | (rw [if_pos (by decide +kernel)]; kernel_rfl) | (rw [if_neg (by decide +kernel)]; exact ⟨rfl, rfl⟩))
    (fun os started H enc _ => lifted os started H enc)

theorem proved : Rows.StepWordsSaid := over
end Go.Proofs.Ytjcmbnmejkhcjaa.stepWords
