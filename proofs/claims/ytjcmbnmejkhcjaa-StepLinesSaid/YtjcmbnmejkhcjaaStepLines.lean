/- Home and End are in the line and end it; Up and Down are in the next line that way, no further right by runes. Conditions: none beyond the form's own. -/
import Derived.Test.YtjcmbnmejkhcjaaRows
import Derived.Test.YtjcmbnmejkhcjaaArgs
import Derived.Test.YtjcmbnmejkhcjaaMotEnd
namespace Go.Proofs.Ytjcmbnmejkhcjaa.stepLines
open Go.Proofs.Ytjcmbnmejkhcjaa
open Go.ChangeShapes Go.WideShapes Go.ChangeAt Go.RowKit Go.Deep
open Go.ChangeMaps (open_string shut_string)
set_option linter.unusedVariables false

theorem own : ownKnob Try.prog.godebug = none := by kernel_rfl
theorem laidOut : laidOutB Try.prog = true := by kernel_rfl
-- opt:16000000
attribute [local go_sem ↓] Go.wp_at_zero Go.wp_at_succ
set_option maxRecDepth 100000 in
set_option maxHeartbeats 16000000 in
theorem walk (a0 : ByteArray) (a1 : Int) (w : World) (w0 : a0.size ≤ maxLen) (w1 : (Lit.int .i64 a1).wf = true) :
    Calls Try.prog 7 #[.string a0, .int .i64 a1] w fun e w' => e = .returned (.bool true) ∧ Below w.heap.size w w' := by
  by_cases h0 : a0.size ≤ 200
  · have g0 : decide (200 < (a0.size : Int)) = false := decide_eq_false (by omega)
    have hxl : a0.data.toList.length = a0.size := rfl
    have hlt_p := lowN_lt a1 (a0.size + 1) (by omega)
    have hlw_p : ∀ W, Calls Try.prog 14 #[.int .i64 a1, .int .i64 ((a0.size : Int) + 1)] W fun e w' => e = .returned (.int .i64 (lowN a1 (a0.size + 1) : Nat)) ∧ W = w' := fun W => low_any a1 (a0.size + 1) W (by omega) (by omega)
    have HLW_p := hide hlw_p
    clear hlw_p
    generalize lowN a1 (a0.size + 1) = p at *
    have hps : p ≤ a0.size := by omega
    clear hlt_p
    obtain ⟨_, _, s3, s4, s5, s6, _⟩ := sel_m a0.data.toList p
    have hin := off_in a0.data.toList p (by omega)
    have hbt := nBrk_take a0.data.toList p
    have hbl := nBrk_le (a0.data.toList.take p)
    have hbx := nBrk_le a0.data.toList
    have hcol := colR_bd a0.data.toList p
    obtain ⟨n, hn⟩ : ∃ n : Nat, nBrk (a0.data.toList.take p) = n := ⟨(nBrk (a0.data.toList.take p)).toNat, by omega⟩
    obtain ⟨M, hM⟩ : ∃ M : Nat, nBrk a0.data.toList = M := ⟨(nBrk a0.data.toList).toNat, by omega⟩
    rw [hn] at hbt hbl
    rw [hM] at hbt hbx
    rcases Nat.eq_zero_or_pos n with hz | hz
    · by_cases hnM : n = M
      · obtain rfl : n = 0 := by omega
        have e3 : lnS a0.data.toList ((0 : Nat) : Int) = 0 := rfl
        have e5 : stepM a0.data.toList p 5 = 0 := by rw [s5, hn, if_pos (by rfl)]
        rw [show ((0 : Nat) : Int) = 0 from rfl] at *
        have f4 : lnE a0.data.toList (0 : Int) = a0.size := by
          have := lnE_last a0.data.toList
          rw [hM] at this
          rw [show (0 : Int) = (M : Int) by omega, this]
          exact hxl
        have f6 : stepM a0.data.toList p 6 = a0.size := by rw [s6, hn, hM, if_pos (by omega)]; exact hxl
        have HP := hide (fun (W : World) (r : Nat) (h : LnAt W r a0) => place_r h (by omega) p hps)
        unfold PlR at HP
        rw [hn] at HP
        have HS3 := hide (fun (W : World) (r : Nat) (h : LnAt W r a0) => Step_k h (by omega) p hps 3 (by decide) (by decide) 0 (by rw [s3, hn]; exact e3))
        have HS4 := hide (fun (W : World) (r : Nat) (h : LnAt W r a0) => Step_k h (by omega) p hps 4 (by decide) (by decide) a0.size (by rw [s4, hn]; exact f4))
        have HS5 := hide (fun (W : World) (r : Nat) (h : LnAt W r a0) => Step_k h (by omega) p hps 5 (by decide) (by decide) 0 e5)
        have HS6 := hide (fun (W : World) (r : Nat) (h : LnAt W r a0) => Step_k h (by omega) p hps 6 (by decide) (by decide) a0.size f6)
        have HU := hide (fun (W : World) (r : Nat) (h : LnAt W r a0) => place_r h (by omega) 0 (by omega))
        unfold PlR at HU
        rw [show ((0 : Nat) : Int) = 0 from rfl] at HU
        have HD := hide (fun (W : World) (r : Nat) (h : LnAt W r a0) => place_r h (by omega) a0.size (by omega))
        unfold PlR at HD
        have HMy := hide (fun (W : World) (r : Nat) (h : LnAt W r a0) => many_l h (by omega))
        rw [hM] at HMy
        have k2 : p ≤ a0.size := by omega
        clear s3 s4 s5 s6 hin
        clear e3 e5
        generalize nBrk (a0.data.toList.take 0) = z1 at *
        generalize colR a0.data.toList 0 = z2 at *
        clear f4 f6
        generalize nBrk (a0.data.toList.take a0.size) = y1 at *
        generalize colR a0.data.toList a0.size = y2 at *
        generalize colR a0.data.toList p = col at *
        have HN := hide hn
        have HMM := hide hM
        clear hn hM
        have gEi : decide ((a0.size : Int) < (p : Int)) = false := decide_eq_false (by omega)
        have gEn : decide (a0.size < p) = false := decide_eq_false (by omega)
        have gm : ((0 : Int) + 1 == (M : Int) + 1) = true := by simp; omega
        have gm2 : decide ((0 : Int) + 1 < (M : Int) + 1) = false := decide_eq_false (by omega)
        have gm3 : ((M : Int) == 0) = true := by simp; omega
        have gm4 : ((1 : Int) == (M : Int) + 1) = true := by simp; omega
        have gm5 : decide ((1 : Int) < (M : Int) + 1) = false := decide_eq_false (by omega)
        have hMb : M ≤ 200 := by omega
        have hcb : col ≤ 400 ∧ 0 ≤ col := by omega
        clear hxl hbt hbl hbx hz hnM
        go_enter Try.func7, Try.ntmps7
        go_wp2_with fail
        (with_reducible refine (HLW_p.out _).mono ?_)
        rintro e u1 ⟨rfl, hw1⟩
        subst hw1
        go_wp2_with fail
        refine (of9_b a0 _ (by omega)).mono ?_
        rintro e w1 ⟨r, rfl, hL, hb1, _⟩
        have c0 := ln_c0 w1 r
        have HB := hide (bl_trans hb1 (ln_b0 w1 r))
        have HL := hide (hL.bl (ln_b0 w1 r))
        clear hL hb1
        go_wp2_with fail
        (with_reducible refine (HP.out _ _ HL.out).mono ?_)
        rintro e v2 ⟨rfl, hb⟩
        have c0 := cell_later hb c0
        have HB := hide (bl_trans HB.out hb)
        have HL := hide (HL.out.bl hb)
        clear hb
        go_wp2_with fail
        (with_reducible refine (HS3.out _ _ HL.out).mono ?_)
        rintro e v3 ⟨rfl, hb⟩
        have c0 := cell_later hb c0
        have HB := hide (bl_trans HB.out hb)
        have HL := hide (HL.out.bl hb)
        clear hb
        go_wp2_with fail
        (with_reducible refine (HS4.out _ _ HL.out).mono ?_)
        rintro e v4 ⟨rfl, hb⟩
        have c0 := cell_later hb c0
        have HB := hide (bl_trans HB.out hb)
        have HL := hide (HL.out.bl hb)
        clear hb
        go_wp2_with fail
        (with_reducible refine (HS5.out _ _ HL.out).mono ?_)
        rintro e v5 ⟨rfl, hb⟩
        have c0 := cell_later hb c0
        have HB := hide (bl_trans HB.out hb)
        have HL := hide (HL.out.bl hb)
        clear hb
        go_wp2_with fail
        (with_reducible refine (HS6.out _ _ HL.out).mono ?_)
        rintro e v6 ⟨rfl, hb⟩
        have c0 := cell_later hb c0
        have HB := hide (bl_trans HB.out hb)
        have HL := hide (HL.out.bl hb)
        clear hb
        go_wp2_with fail
        (with_reducible refine (HU.out _ _ HL.out).mono ?_)
        rintro e v7 ⟨rfl, hb⟩
        have c0 := cell_later hb c0
        have HB := hide (bl_trans HB.out hb)
        have HL := hide (HL.out.bl hb)
        clear hb
        go_wp2_with fail
        (with_reducible refine (HD.out _ _ HL.out).mono ?_)
        rintro e v8 ⟨rfl, hb⟩
        have c0 := cell_later hb c0
        have HB := hide (bl_trans HB.out hb)
        have HL := hide (HL.out.bl hb)
        clear hb
        go_wp2_with fail
        (with_reducible refine (HMy.out _ _ HL.out).mono ?_)
        rintro e v9 ⟨rfl, hb⟩
        have c0 := cell_later hb c0
        have HB := hide (bl_trans HB.out hb)
        have HL := hide (HL.out.bl hb)
        clear hb
        go_wp2_with fail
        (with_reducible refine (HMy.out _ _ HL.out).mono ?_)
        rintro e v10 ⟨rfl, hb⟩
        have c0 := cell_later hb c0
        have HB := hide (bl_trans HB.out hb)
        have HL := hide (HL.out.bl hb)
        clear hb
        go_wp2_with fail
        refine (awake9_any _).mono ?_
        rintro e w9 ⟨rfl, hb⟩
        have HB := hide (bl_trans HB.out hb)
        go_wp2
        go_ret
        exact ⟨rfl, HB.out⟩
      · obtain rfl : n = 0 := by omega
        have e3 : lnS a0.data.toList ((0 : Nat) : Int) = 0 := rfl
        have e5 : stepM a0.data.toList p 5 = 0 := by rw [s5, hn, if_pos (by rfl)]
        rw [show ((0 : Nat) : Int) = 0 from rfl] at *
        have f4 := (lnS_pos a0.data.toList ((0 : Int) + 1) (by omega) (by rw [hM]; omega)).1
        rw [show (0 : Int) + 1 - 1 = (0 : Int) by omega] at f4
        have f4b : lnE a0.data.toList (0 : Int) < a0.size := f4
        have f5 : a0[lnE a0.data.toList (0 : Int)].toNat = 10 := end_brk a0.data.toList _ (by omega) f4
        have f6 : stepM a0.data.toList p 6 = inLn a0.data.toList ((0 : Int) + 1) (colR a0.data.toList p) := by rw [s6, hn, hM, if_neg (by omega)]
        obtain ⟨j1, j2⟩ := inLn_col a0.data.toList ((0 : Int) + 1) (colR a0.data.toList p) (by omega) (by rw [hM]; omega) hcol.1
        have j3 := (inLn_le a0.data.toList ((0 : Int) + 1) (colR a0.data.toList p) (by omega) (by rw [hM]; omega)).2
        have j5 := lnE_le a0.data.toList ((0 : Int) + 1)
        have j4 : colR a0.data.toList (inLn a0.data.toList ((0 : Int) + 1) (colR a0.data.toList p)) ≤ colR a0.data.toList p := by
          show cnt 1 ((a0.data.toList.take (inLn a0.data.toList ((0 : Int) + 1) (colR a0.data.toList p))).drop (lnS a0.data.toList (nBrk (a0.data.toList.take (inLn a0.data.toList ((0 : Int) + 1) (colR a0.data.toList p)))))) ≤ _
          rw [j1]; exact j2
        have HP := hide (fun (W : World) (r : Nat) (h : LnAt W r a0) => place_r h (by omega) p hps)
        unfold PlR at HP
        rw [hn] at HP
        have HS3 := hide (fun (W : World) (r : Nat) (h : LnAt W r a0) => Step_k h (by omega) p hps 3 (by decide) (by decide) 0 (by rw [s3, hn]; exact e3))
        have HS4 := hide (fun (W : World) (r : Nat) (h : LnAt W r a0) => Step_k h (by omega) p hps 4 (by decide) (by decide) (lnE a0.data.toList (0 : Int)) (by rw [s4, hn]))
        have HS5 := hide (fun (W : World) (r : Nat) (h : LnAt W r a0) => Step_k h (by omega) p hps 5 (by decide) (by decide) 0 e5)
        have HS6 := hide (fun (W : World) (r : Nat) (h : LnAt W r a0) => Step_k h (by omega) p hps 6 (by decide) (by decide) (inLn a0.data.toList ((0 : Int) + 1) (colR a0.data.toList p)) f6)
        have HU := hide (fun (W : World) (r : Nat) (h : LnAt W r a0) => place_r h (by omega) 0 (by omega))
        unfold PlR at HU
        rw [show ((0 : Nat) : Int) = 0 from rfl] at HU
        have HD := hide (fun (W : World) (r : Nat) (h : LnAt W r a0) => place_r h (by omega) (inLn a0.data.toList ((0 : Int) + 1) (colR a0.data.toList p)) (by omega))
        unfold PlR at HD
        rw [j1] at HD
        have HMy := hide (fun (W : World) (r : Nat) (h : LnAt W r a0) => many_l h (by omega))
        rw [hM] at HMy
        have k2 : p ≤ (lnE a0.data.toList (0 : Int)) := by have := hin.2; rw [hn] at this; exact this
        clear s3 s4 s5 s6 hin
        clear e3 e5
        generalize nBrk (a0.data.toList.take 0) = z1 at *
        generalize colR a0.data.toList 0 = z2 at *
        have HF5 := hide f5
        clear f5 f4 f6 j1 j2 j3 j5
        generalize colR a0.data.toList (inLn a0.data.toList ((0 : Int) + 1) (colR a0.data.toList p)) = cd at *
        generalize inLn a0.data.toList ((0 : Int) + 1) (colR a0.data.toList p) = dn at *
        generalize colR a0.data.toList p = col at *
        generalize lnE a0.data.toList (0 : Int) = e1 at *
        have HN := hide hn
        have HMM := hide hM
        clear hn hM
        have gf : ((a0[e1].toNat : Int) != 10) = false := by have := HF5.out; simp; omega
        have gf2 : ((a0[e1].toNat : Int) == 10) = true := by have := HF5.out; simp; omega
        have gEi : decide ((e1 : Int) < (p : Int)) = false := decide_eq_false (by omega)
        have gEn : decide (e1 < p) = false := decide_eq_false (by omega)
        have gli : decide ((e1 : Int) < (a0.size : Int)) = true := decide_eq_true (by omega)
        have gln : decide (e1 < a0.size) = true := decide_eq_true (by omega)
        have gm : ((0 : Int) + 1 == (M : Int) + 1) = false := by simp; omega
        have gm2 : decide ((0 : Int) + 1 < (M : Int) + 1) = true := decide_eq_true (by omega)
        have gd : decide (col < cd) = false := decide_eq_false (by omega)
        have gm3 : decide ((0 : Int) < (M : Int)) = true := decide_eq_true (by omega)
        have gm4 : decide (0 < M) = true := decide_eq_true (by omega)
        have gm5 : ((M : Int) == 0) = false := by simp; omega
        have gm6 : ((0 : Int) == (M : Int)) = false := by simp; omega
        have gm7 : ((1 : Int) == (M : Int) + 1) = false := by simp; omega
        have gm8 : decide ((1 : Int) < (M : Int) + 1) = true := decide_eq_true (by omega)
        have hMb : M ≤ 200 := by omega
        have hcb : col ≤ 400 ∧ 0 ≤ col := by omega
        clear hxl hbt hbl hbx hz hnM
        go_enter Try.func7, Try.ntmps7
        go_wp2_with fail
        (with_reducible refine (HLW_p.out _).mono ?_)
        rintro e u11 ⟨rfl, hw11⟩
        subst hw11
        go_wp2_with fail
        refine (of9_b a0 _ (by omega)).mono ?_
        rintro e w1 ⟨r, rfl, hL, hb1, _⟩
        have c0 := ln_c0 w1 r
        have HB := hide (bl_trans hb1 (ln_b0 w1 r))
        have HL := hide (hL.bl (ln_b0 w1 r))
        clear hL hb1
        go_wp2_with fail
        (with_reducible refine (HP.out _ _ HL.out).mono ?_)
        rintro e v12 ⟨rfl, hb⟩
        have c0 := cell_later hb c0
        have HB := hide (bl_trans HB.out hb)
        have HL := hide (HL.out.bl hb)
        clear hb
        go_wp2_with fail
        (with_reducible refine (HS3.out _ _ HL.out).mono ?_)
        rintro e v13 ⟨rfl, hb⟩
        have c0 := cell_later hb c0
        have HB := hide (bl_trans HB.out hb)
        have HL := hide (HL.out.bl hb)
        clear hb
        go_wp2_with fail
        (with_reducible refine (HS4.out _ _ HL.out).mono ?_)
        rintro e v14 ⟨rfl, hb⟩
        have c0 := cell_later hb c0
        have HB := hide (bl_trans HB.out hb)
        have HL := hide (HL.out.bl hb)
        clear hb
        go_wp2_with fail
        (with_reducible refine (HS5.out _ _ HL.out).mono ?_)
        rintro e v15 ⟨rfl, hb⟩
        have c0 := cell_later hb c0
        have HB := hide (bl_trans HB.out hb)
        have HL := hide (HL.out.bl hb)
        clear hb
        go_wp2_with fail
        (with_reducible refine (HS6.out _ _ HL.out).mono ?_)
        rintro e v16 ⟨rfl, hb⟩
        have c0 := cell_later hb c0
        have HB := hide (bl_trans HB.out hb)
        have HL := hide (HL.out.bl hb)
        clear hb
        go_wp2_with fail
        (with_reducible refine (HU.out _ _ HL.out).mono ?_)
        rintro e v17 ⟨rfl, hb⟩
        have c0 := cell_later hb c0
        have HB := hide (bl_trans HB.out hb)
        have HL := hide (HL.out.bl hb)
        clear hb
        go_wp2_with fail
        (with_reducible refine (HD.out _ _ HL.out).mono ?_)
        rintro e v18 ⟨rfl, hb⟩
        have c0 := cell_later hb c0
        have HB := hide (bl_trans HB.out hb)
        have HL := hide (HL.out.bl hb)
        clear hb
        go_wp2_with fail
        (with_reducible refine (HMy.out _ _ HL.out).mono ?_)
        rintro e v19 ⟨rfl, hb⟩
        have c0 := cell_later hb c0
        have HB := hide (bl_trans HB.out hb)
        have HL := hide (HL.out.bl hb)
        clear hb
        go_wp2_with fail
        (with_reducible refine (HMy.out _ _ HL.out).mono ?_)
        rintro e v20 ⟨rfl, hb⟩
        have c0 := cell_later hb c0
        have HB := hide (bl_trans HB.out hb)
        have HL := hide (HL.out.bl hb)
        clear hb
        go_wp2_with fail
        refine (awake9_any _).mono ?_
        rintro e w9 ⟨rfl, hb⟩
        have HB := hide (bl_trans HB.out hb)
        go_wp2
        go_ret
        exact ⟨rfl, HB.out⟩
    · by_cases hnM : n = M
      · obtain ⟨q, rfl⟩ : ∃ q, n = q + 1 := ⟨n - 1, by omega⟩
        have e3 : lnS a0.data.toList ((q + 1 : Nat) : Int) = lnE a0.data.toList (q : Int) + 1 := by
          rw [show ((q + 1 : Nat) : Int) = (q : Int) + 1 from by omega]; exact lnS_next a0.data.toList q (by omega)
        have e4 := (lnS_pos a0.data.toList ((q + 1 : Nat) : Int) (by omega) (by rw [hM]; omega)).1
        rw [show ((q + 1 : Nat) : Int) - 1 = (q : Int) by omega] at e4
        have e4b : lnE a0.data.toList (q : Int) < a0.size := e4
        have e6 : a0[lnE a0.data.toList (q : Int)].toNat = 10 := end_brk a0.data.toList q (by omega) e4
        have e5 : stepM a0.data.toList p 5 = inLn a0.data.toList (q : Int) (colR a0.data.toList p) := by
          rw [s5, hn, if_neg (by omega), show ((q + 1 : Nat) : Int) - 1 = (q : Int) by omega]
        obtain ⟨i1, i2⟩ := inLn_col a0.data.toList (q : Int) (colR a0.data.toList p) (by omega) (by rw [hM]; omega) hcol.1
        have i3 := (inLn_le a0.data.toList (q : Int) (colR a0.data.toList p) (by omega) (by rw [hM]; omega)).2
        have i4 : colR a0.data.toList (inLn a0.data.toList (q : Int) (colR a0.data.toList p)) ≤ colR a0.data.toList p := by
          show cnt 1 ((a0.data.toList.take (inLn a0.data.toList (q : Int) (colR a0.data.toList p))).drop (lnS a0.data.toList (nBrk (a0.data.toList.take (inLn a0.data.toList (q : Int) (colR a0.data.toList p)))))) ≤ _
          rw [i1]; exact i2
        have f4 : lnE a0.data.toList (((q + 1 : Nat) : Int) : Int) = a0.size := by
          have := lnE_last a0.data.toList
          rw [hM] at this
          rw [show (((q + 1 : Nat) : Int) : Int) = (M : Int) by omega, this]
          exact hxl
        have f6 : stepM a0.data.toList p 6 = a0.size := by rw [s6, hn, hM, if_pos (by omega)]; exact hxl
        have HP := hide (fun (W : World) (r : Nat) (h : LnAt W r a0) => place_r h (by omega) p hps)
        unfold PlR at HP
        rw [hn] at HP
        have HS3 := hide (fun (W : World) (r : Nat) (h : LnAt W r a0) => Step_k h (by omega) p hps 3 (by decide) (by decide) (lnE a0.data.toList (q : Int) + 1) (by rw [s3, hn]; exact e3))
        have HS4 := hide (fun (W : World) (r : Nat) (h : LnAt W r a0) => Step_k h (by omega) p hps 4 (by decide) (by decide) a0.size (by rw [s4, hn]; exact f4))
        have HS5 := hide (fun (W : World) (r : Nat) (h : LnAt W r a0) => Step_k h (by omega) p hps 5 (by decide) (by decide) (inLn a0.data.toList (q : Int) (colR a0.data.toList p)) e5)
        have HS6 := hide (fun (W : World) (r : Nat) (h : LnAt W r a0) => Step_k h (by omega) p hps 6 (by decide) (by decide) a0.size f6)
        have HU := hide (fun (W : World) (r : Nat) (h : LnAt W r a0) => place_r h (by omega) (inLn a0.data.toList (q : Int) (colR a0.data.toList p)) (by omega))
        unfold PlR at HU
        rw [i1] at HU
        have HD := hide (fun (W : World) (r : Nat) (h : LnAt W r a0) => place_r h (by omega) a0.size (by omega))
        unfold PlR at HD
        have HMy := hide (fun (W : World) (r : Nat) (h : LnAt W r a0) => many_l h (by omega))
        rw [hM] at HMy
        have k1 : (lnE a0.data.toList (q : Int) + 1) ≤ p := by have := hin.1; rw [hn, e3] at this; omega
        have k2 : p ≤ a0.size := by omega
        clear s3 s4 s5 s6 hin
        have HE6 := hide e6
        clear e6 e3 e4 e5 i1 i2 i3
        generalize colR a0.data.toList (inLn a0.data.toList (q : Int) (colR a0.data.toList p)) = cu at *
        generalize inLn a0.data.toList (q : Int) (colR a0.data.toList p) = up at *
        clear f4 f6
        generalize nBrk (a0.data.toList.take a0.size) = y1 at *
        generalize colR a0.data.toList a0.size = y2 at *
        generalize colR a0.data.toList p = col at *
        generalize lnE a0.data.toList (q : Int) = e0 at *
        have HN := hide hn
        have HMM := hide hM
        clear hn hM
        rw [show ((q + 1 : Nat) : Int) = (q : Int) + 1 from by omega] at *
        have hqb : q ≤ 200 := by omega
        have ge : ((a0[e0].toNat : Int) != 10) = false := by have := HE6.out; simp; omega
        have ge2 : ((a0[e0].toNat : Int) == 10) = true := by have := HE6.out; simp; omega
        have ghi : decide ((p : Int) < (e0 : Int) + 1) = false := decide_eq_false (by omega)
        have ghn : decide (p < e0 + 1) = false := decide_eq_false (by omega)
        have gci : decide (col < cu) = false := decide_eq_false (by omega)
        have gq : ((q : Int) + 1 == 0) = false := by simp; omega
        have hw9 : (q : Int) + 1 - 1 = (q : Int) := by omega
        have hw8 : (q : Int) + 1 + -1 = (q : Int) := by omega
        have gq2 : decide ((0 : Int) < (q : Int) + 1) = true := decide_eq_true (by omega)
        have gEi : decide ((a0.size : Int) < (p : Int)) = false := decide_eq_false (by omega)
        have gEn : decide (a0.size < p) = false := decide_eq_false (by omega)
        have gm : (((q : Int) + 1) + 1 == (M : Int) + 1) = true := by simp; omega
        have gm2 : decide (((q : Int) + 1) + 1 < (M : Int) + 1) = false := decide_eq_false (by omega)
        have gm3 : decide ((q : Int) + 1 < (M : Int)) = false := decide_eq_false (by omega)
        have gm4 : decide (q + 1 < M) = false := decide_eq_false (by omega)
        have gm5 : ((q : Int) + 1 == (M : Int)) = true := by simp; omega
        have gm6 : (q + 1 == M) = true := by simp; omega
        have hMb : M ≤ 200 := by omega
        have hcb : col ≤ 400 ∧ 0 ≤ col := by omega
        clear hxl hbt hbl hbx hz hnM
        go_enter Try.func7, Try.ntmps7
        go_wp2_with fail
        (with_reducible refine (HLW_p.out _).mono ?_)
        rintro e u21 ⟨rfl, hw21⟩
        subst hw21
        go_wp2_with fail
        refine (of9_b a0 _ (by omega)).mono ?_
        rintro e w1 ⟨r, rfl, hL, hb1, _⟩
        have c0 := ln_c0 w1 r
        have HB := hide (bl_trans hb1 (ln_b0 w1 r))
        have HL := hide (hL.bl (ln_b0 w1 r))
        clear hL hb1
        go_wp2_with fail
        (with_reducible refine (HP.out _ _ HL.out).mono ?_)
        rintro e v22 ⟨rfl, hb⟩
        have c0 := cell_later hb c0
        have HB := hide (bl_trans HB.out hb)
        have HL := hide (HL.out.bl hb)
        clear hb
        go_wp2_with fail
        (with_reducible refine (HS3.out _ _ HL.out).mono ?_)
        rintro e v23 ⟨rfl, hb⟩
        have c0 := cell_later hb c0
        have HB := hide (bl_trans HB.out hb)
        have HL := hide (HL.out.bl hb)
        clear hb
        go_wp2_with fail
        (with_reducible refine (HS4.out _ _ HL.out).mono ?_)
        rintro e v24 ⟨rfl, hb⟩
        have c0 := cell_later hb c0
        have HB := hide (bl_trans HB.out hb)
        have HL := hide (HL.out.bl hb)
        clear hb
        go_wp2_with fail
        (with_reducible refine (HS5.out _ _ HL.out).mono ?_)
        rintro e v25 ⟨rfl, hb⟩
        have c0 := cell_later hb c0
        have HB := hide (bl_trans HB.out hb)
        have HL := hide (HL.out.bl hb)
        clear hb
        go_wp2_with fail
        (with_reducible refine (HS6.out _ _ HL.out).mono ?_)
        rintro e v26 ⟨rfl, hb⟩
        have c0 := cell_later hb c0
        have HB := hide (bl_trans HB.out hb)
        have HL := hide (HL.out.bl hb)
        clear hb
        go_wp2_with fail
        (with_reducible refine (HU.out _ _ HL.out).mono ?_)
        rintro e v27 ⟨rfl, hb⟩
        have c0 := cell_later hb c0
        have HB := hide (bl_trans HB.out hb)
        have HL := hide (HL.out.bl hb)
        clear hb
        go_wp2_with fail
        (with_reducible refine (HD.out _ _ HL.out).mono ?_)
        rintro e v28 ⟨rfl, hb⟩
        have c0 := cell_later hb c0
        have HB := hide (bl_trans HB.out hb)
        have HL := hide (HL.out.bl hb)
        clear hb
        go_wp2_with fail
        (with_reducible refine (HMy.out _ _ HL.out).mono ?_)
        rintro e v29 ⟨rfl, hb⟩
        have c0 := cell_later hb c0
        have HB := hide (bl_trans HB.out hb)
        have HL := hide (HL.out.bl hb)
        clear hb
        go_wp2_with fail
        (with_reducible refine (HMy.out _ _ HL.out).mono ?_)
        rintro e v30 ⟨rfl, hb⟩
        have c0 := cell_later hb c0
        have HB := hide (bl_trans HB.out hb)
        have HL := hide (HL.out.bl hb)
        clear hb
        go_wp2_with fail
        refine (awake9_any _).mono ?_
        rintro e w9 ⟨rfl, hb⟩
        have HB := hide (bl_trans HB.out hb)
        go_wp2
        go_ret
        exact ⟨rfl, HB.out⟩
      · obtain ⟨q, rfl⟩ : ∃ q, n = q + 1 := ⟨n - 1, by omega⟩
        have e3 : lnS a0.data.toList ((q + 1 : Nat) : Int) = lnE a0.data.toList (q : Int) + 1 := by
          rw [show ((q + 1 : Nat) : Int) = (q : Int) + 1 from by omega]; exact lnS_next a0.data.toList q (by omega)
        have e4 := (lnS_pos a0.data.toList ((q + 1 : Nat) : Int) (by omega) (by rw [hM]; omega)).1
        rw [show ((q + 1 : Nat) : Int) - 1 = (q : Int) by omega] at e4
        have e4b : lnE a0.data.toList (q : Int) < a0.size := e4
        have e6 : a0[lnE a0.data.toList (q : Int)].toNat = 10 := end_brk a0.data.toList q (by omega) e4
        have e5 : stepM a0.data.toList p 5 = inLn a0.data.toList (q : Int) (colR a0.data.toList p) := by
          rw [s5, hn, if_neg (by omega), show ((q + 1 : Nat) : Int) - 1 = (q : Int) by omega]
        obtain ⟨i1, i2⟩ := inLn_col a0.data.toList (q : Int) (colR a0.data.toList p) (by omega) (by rw [hM]; omega) hcol.1
        have i3 := (inLn_le a0.data.toList (q : Int) (colR a0.data.toList p) (by omega) (by rw [hM]; omega)).2
        have i4 : colR a0.data.toList (inLn a0.data.toList (q : Int) (colR a0.data.toList p)) ≤ colR a0.data.toList p := by
          show cnt 1 ((a0.data.toList.take (inLn a0.data.toList (q : Int) (colR a0.data.toList p))).drop (lnS a0.data.toList (nBrk (a0.data.toList.take (inLn a0.data.toList (q : Int) (colR a0.data.toList p)))))) ≤ _
          rw [i1]; exact i2
        have f4 := (lnS_pos a0.data.toList (((q + 1 : Nat) : Int) + 1) (by omega) (by rw [hM]; omega)).1
        rw [show ((q + 1 : Nat) : Int) + 1 - 1 = ((q + 1 : Nat) : Int) by omega] at f4
        have f4b : lnE a0.data.toList ((q + 1 : Nat) : Int) < a0.size := f4
        have f5 : a0[lnE a0.data.toList ((q + 1 : Nat) : Int)].toNat = 10 := end_brk a0.data.toList _ (by omega) f4
        have f6 : stepM a0.data.toList p 6 = inLn a0.data.toList (((q + 1 : Nat) : Int) + 1) (colR a0.data.toList p) := by rw [s6, hn, hM, if_neg (by omega)]
        obtain ⟨j1, j2⟩ := inLn_col a0.data.toList (((q + 1 : Nat) : Int) + 1) (colR a0.data.toList p) (by omega) (by rw [hM]; omega) hcol.1
        have j3 := (inLn_le a0.data.toList (((q + 1 : Nat) : Int) + 1) (colR a0.data.toList p) (by omega) (by rw [hM]; omega)).2
        have j5 := lnE_le a0.data.toList (((q + 1 : Nat) : Int) + 1)
        have j4 : colR a0.data.toList (inLn a0.data.toList (((q + 1 : Nat) : Int) + 1) (colR a0.data.toList p)) ≤ colR a0.data.toList p := by
          show cnt 1 ((a0.data.toList.take (inLn a0.data.toList (((q + 1 : Nat) : Int) + 1) (colR a0.data.toList p))).drop (lnS a0.data.toList (nBrk (a0.data.toList.take (inLn a0.data.toList (((q + 1 : Nat) : Int) + 1) (colR a0.data.toList p)))))) ≤ _
          rw [j1]; exact j2
        have HP := hide (fun (W : World) (r : Nat) (h : LnAt W r a0) => place_r h (by omega) p hps)
        unfold PlR at HP
        rw [hn] at HP
        have HS3 := hide (fun (W : World) (r : Nat) (h : LnAt W r a0) => Step_k h (by omega) p hps 3 (by decide) (by decide) (lnE a0.data.toList (q : Int) + 1) (by rw [s3, hn]; exact e3))
        have HS4 := hide (fun (W : World) (r : Nat) (h : LnAt W r a0) => Step_k h (by omega) p hps 4 (by decide) (by decide) (lnE a0.data.toList ((q + 1 : Nat) : Int)) (by rw [s4, hn]))
        have HS5 := hide (fun (W : World) (r : Nat) (h : LnAt W r a0) => Step_k h (by omega) p hps 5 (by decide) (by decide) (inLn a0.data.toList (q : Int) (colR a0.data.toList p)) e5)
        have HS6 := hide (fun (W : World) (r : Nat) (h : LnAt W r a0) => Step_k h (by omega) p hps 6 (by decide) (by decide) (inLn a0.data.toList (((q + 1 : Nat) : Int) + 1) (colR a0.data.toList p)) f6)
        have HU := hide (fun (W : World) (r : Nat) (h : LnAt W r a0) => place_r h (by omega) (inLn a0.data.toList (q : Int) (colR a0.data.toList p)) (by omega))
        unfold PlR at HU
        rw [i1] at HU
        have HD := hide (fun (W : World) (r : Nat) (h : LnAt W r a0) => place_r h (by omega) (inLn a0.data.toList (((q + 1 : Nat) : Int) + 1) (colR a0.data.toList p)) (by omega))
        unfold PlR at HD
        rw [j1] at HD
        have HMy := hide (fun (W : World) (r : Nat) (h : LnAt W r a0) => many_l h (by omega))
        rw [hM] at HMy
        have k1 : (lnE a0.data.toList (q : Int) + 1) ≤ p := by have := hin.1; rw [hn, e3] at this; omega
        have k2 : p ≤ (lnE a0.data.toList ((q + 1 : Nat) : Int)) := by have := hin.2; rw [hn] at this; exact this
        clear s3 s4 s5 s6 hin
        have HE6 := hide e6
        clear e6 e3 e4 e5 i1 i2 i3
        generalize colR a0.data.toList (inLn a0.data.toList (q : Int) (colR a0.data.toList p)) = cu at *
        generalize inLn a0.data.toList (q : Int) (colR a0.data.toList p) = up at *
        have HF5 := hide f5
        clear f5 f4 f6 j1 j2 j3 j5
        generalize colR a0.data.toList (inLn a0.data.toList (((q + 1 : Nat) : Int) + 1) (colR a0.data.toList p)) = cd at *
        generalize inLn a0.data.toList (((q + 1 : Nat) : Int) + 1) (colR a0.data.toList p) = dn at *
        generalize colR a0.data.toList p = col at *
        generalize lnE a0.data.toList (q : Int) = e0 at *
        generalize lnE a0.data.toList ((q + 1 : Nat) : Int) = e1 at *
        have HN := hide hn
        have HMM := hide hM
        clear hn hM
        rw [show ((q + 1 : Nat) : Int) = (q : Int) + 1 from by omega] at *
        have hqb : q ≤ 200 := by omega
        have ge : ((a0[e0].toNat : Int) != 10) = false := by have := HE6.out; simp; omega
        have ge2 : ((a0[e0].toNat : Int) == 10) = true := by have := HE6.out; simp; omega
        have ghi : decide ((p : Int) < (e0 : Int) + 1) = false := decide_eq_false (by omega)
        have ghn : decide (p < e0 + 1) = false := decide_eq_false (by omega)
        have gci : decide (col < cu) = false := decide_eq_false (by omega)
        have gq : ((q : Int) + 1 == 0) = false := by simp; omega
        have hw9 : (q : Int) + 1 - 1 = (q : Int) := by omega
        have hw8 : (q : Int) + 1 + -1 = (q : Int) := by omega
        have gq2 : decide ((0 : Int) < (q : Int) + 1) = true := decide_eq_true (by omega)
        have gf : ((a0[e1].toNat : Int) != 10) = false := by have := HF5.out; simp; omega
        have gf2 : ((a0[e1].toNat : Int) == 10) = true := by have := HF5.out; simp; omega
        have gEi : decide ((e1 : Int) < (p : Int)) = false := decide_eq_false (by omega)
        have gEn : decide (e1 < p) = false := decide_eq_false (by omega)
        have gli : decide ((e1 : Int) < (a0.size : Int)) = true := decide_eq_true (by omega)
        have gln : decide (e1 < a0.size) = true := decide_eq_true (by omega)
        have gm : (((q : Int) + 1) + 1 == (M : Int) + 1) = false := by simp; omega
        have gm2 : decide (((q : Int) + 1) + 1 < (M : Int) + 1) = true := decide_eq_true (by omega)
        have gd : decide (col < cd) = false := decide_eq_false (by omega)
        have gm3 : decide ((q : Int) + 1 < (M : Int)) = true := decide_eq_true (by omega)
        have gm4 : decide (q + 1 < M) = true := decide_eq_true (by omega)
        have gm5 : ((q : Int) + 1 == (M : Int)) = false := by simp; omega
        have hMb : M ≤ 200 := by omega
        have hcb : col ≤ 400 ∧ 0 ≤ col := by omega
        clear hxl hbt hbl hbx hz hnM
        go_enter Try.func7, Try.ntmps7
        go_wp2_with fail
        (with_reducible refine (HLW_p.out _).mono ?_)
        rintro e u31 ⟨rfl, hw31⟩
        subst hw31
        go_wp2_with fail
        refine (of9_b a0 _ (by omega)).mono ?_
        rintro e w1 ⟨r, rfl, hL, hb1, _⟩
        have c0 := ln_c0 w1 r
        have HB := hide (bl_trans hb1 (ln_b0 w1 r))
        have HL := hide (hL.bl (ln_b0 w1 r))
        clear hL hb1
        go_wp2_with fail
        (with_reducible refine (HP.out _ _ HL.out).mono ?_)
        rintro e v32 ⟨rfl, hb⟩
        have c0 := cell_later hb c0
        have HB := hide (bl_trans HB.out hb)
        have HL := hide (HL.out.bl hb)
        clear hb
        go_wp2_with fail
        (with_reducible refine (HS3.out _ _ HL.out).mono ?_)
        rintro e v33 ⟨rfl, hb⟩
        have c0 := cell_later hb c0
        have HB := hide (bl_trans HB.out hb)
        have HL := hide (HL.out.bl hb)
        clear hb
        go_wp2_with fail
        (with_reducible refine (HS4.out _ _ HL.out).mono ?_)
        rintro e v34 ⟨rfl, hb⟩
        have c0 := cell_later hb c0
        have HB := hide (bl_trans HB.out hb)
        have HL := hide (HL.out.bl hb)
        clear hb
        go_wp2_with fail
        (with_reducible refine (HS5.out _ _ HL.out).mono ?_)
        rintro e v35 ⟨rfl, hb⟩
        have c0 := cell_later hb c0
        have HB := hide (bl_trans HB.out hb)
        have HL := hide (HL.out.bl hb)
        clear hb
        go_wp2_with fail
        (with_reducible refine (HS6.out _ _ HL.out).mono ?_)
        rintro e v36 ⟨rfl, hb⟩
        have c0 := cell_later hb c0
        have HB := hide (bl_trans HB.out hb)
        have HL := hide (HL.out.bl hb)
        clear hb
        go_wp2_with fail
        (with_reducible refine (HU.out _ _ HL.out).mono ?_)
        rintro e v37 ⟨rfl, hb⟩
        have c0 := cell_later hb c0
        have HB := hide (bl_trans HB.out hb)
        have HL := hide (HL.out.bl hb)
        clear hb
        go_wp2_with fail
        (with_reducible refine (HD.out _ _ HL.out).mono ?_)
        rintro e v38 ⟨rfl, hb⟩
        have c0 := cell_later hb c0
        have HB := hide (bl_trans HB.out hb)
        have HL := hide (HL.out.bl hb)
        clear hb
        go_wp2_with fail
        (with_reducible refine (HMy.out _ _ HL.out).mono ?_)
        rintro e v39 ⟨rfl, hb⟩
        have c0 := cell_later hb c0
        have HB := hide (bl_trans HB.out hb)
        have HL := hide (HL.out.bl hb)
        clear hb
        go_wp2_with fail
        (with_reducible refine (HMy.out _ _ HL.out).mono ?_)
        rintro e v40 ⟨rfl, hb⟩
        have c0 := cell_later hb c0
        have HB := hide (bl_trans HB.out hb)
        have HL := hide (HL.out.bl hb)
        clear hb
        go_wp2_with fail
        refine (awake9_any _).mono ?_
        rintro e w9 ⟨rfl, hb⟩
        have HB := hide (bl_trans HB.out hb)
        go_wp2
        go_ret
        exact ⟨rfl, HB.out⟩
  · have g0 : decide (200 < (a0.size : Int)) = true := decide_eq_true (by omega)
    go_enter Try.func7, Try.ntmps7
    go_wp2_with fail
    refine (awake9_any _).mono ?_
    rintro e w9 ⟨rfl, hb⟩
    go_wp2
    go_ret
    exact ⟨rfl, hb⟩

set_option maxRecDepth 100000 in
theorem lifted (os : Os) (started : os.Started) (H : Type) (enc : TypeId × Value → H) :
    ReturnsInHanded {} Try.checked os 7 .any (Rows.stepLinesSpec.pre6 enc Try.prog Try.f7 Rows.stepLinesRow.domain false) (Rows.stepLinesSpec.post enc Try.prog Try.f7 false true false false) := by
  refine returnsInHanded_of_change (C := Try.checked) own started (by kernel_rfl) Try.func7
    (ChangeSpec.witness6 (enc := enc) (C := Try.checked) false ⟨#[], #[.string ByteArray.empty, .int .i64 0], []⟩ 8 (by kernel_rfl) (by kernel_rfl) (by kernel_rfl) (by kernel_rfl)) ?_
  intro W base args ds gs before hval0 hW hcnd _
  have hval : ∀ (j : Nat) t v, Try.f7.params[j]? = some t → args[j]? = some v → Value.okWide Try.prog W .any base t v := hval0
  have hW' := hW
  obtain ⟨p, q, hA0, hV, rfl, hfz, hnd⟩ := hW
  have hA : DataW.TrodAll enc Try.prog W 0 (fun _ => true) true Try.f7.params.toList args.toList ds p := hA0
  rw [Try.params7] at hA hval
  obtain ⟨v0, vs0, d0, ds0, p0, q0, hargs, rfl, rfl, h0, r0⟩ := trodAll_cons hA
  obtain ⟨v1, vs1, d1, ds1, p1, q1, rfl, rfl, rfl, h1, r1⟩ := trodAll_cons r0
  obtain ⟨rfl, rfl, rfl⟩ := trodAll_nil r1
  obtain rfl : args = #[v0, v1] := by cases args; simp_all
  obtain ⟨rfl, rfl⟩ := trodVars_none hV
  have k0 := h0
  have lt0 : ∀ x ∈ p0, x.block < W.heap.size := by obtain ⟨m, hm⟩ := k0; exact DataW.trod_lt m _ _ _ hm
  obtain ⟨a0, rfl, hd0, hp0, w0⟩ := open_string Try.underlying9 (hval 0 9 v0 rfl rfl) h0
  have k1 := h1
  have lt1 : ∀ x ∈ p1, x.block < W.heap.size := by obtain ⟨m, hm⟩ := k1; exact DataW.trod_lt m _ _ _ hm
  obtain ⟨a1, rfl, hd1, hp1, w1⟩ := open_int Try.underlying3 (hval 1 3 v1 rfl rfl) h1
  clear hA0 hval0
  refine (walk a0 a1 W w0 w1).mono fun e W' ⟨he, bel⟩ => ?_
  subst he
  exact ⟨_, rfl, _, _, _, [], _, [], hW', trodAll_mk1 (shut_bool Try.underlying4 _), (trodAll_cons_mk (Below.trod laidOut (by kernel_rfl) (of_decide_eq_true (by kernel_rfl)) k0 bel lt0) (trodAll_cons_mk (Below.trod laidOut (by kernel_rfl) (of_decide_eq_true (by kernel_rfl)) k1 bel lt1) trodAll_mk0)), rfl, bel.frame _, fun h => by cases h⟩

theorem over : Rows.stepLinesRow.holds Try.pinned (OpenSpec.ofChange Rows.stepLinesSpec) :=
  OpenClaim.holds_of_wide 7 Try.f7 rfl rfl rfl rfl rfl rfl rfl ⟨rfl, rfl, rfl, rfl, rfl⟩ rfl rfl rfl rfl rfl (by kernel_rfl) Try.func7 (by kernel_rfl)
    (of_decide_eq_true (by kernel_rfl)) (by unfold Func.isWrapper; first | (rw [if_pos (by decide +kernel)]; kernel_rfl) | (rw [if_neg (by decide +kernel)]; exact ⟨rfl, rfl⟩))
    (fun os started H enc _ => lifted os started H enc)

theorem proved : Rows.StepLinesSaid := over
end Go.Proofs.Ytjcmbnmejkhcjaa.stepLines
