/- Two unlike names may be set in either order: each is told with its value then, any other name as ever, and there are as many. Conditions: none beyond the form's own. -/
import Derived.Test.YtmjadcjpgcbalaaDoorRows
import Derived.Test.YtmjadcjpgcbalaaDoorCards
import Derived.Test.YtmjadcjpgcbalaaDoorTie
import Derived.Lay
import Derived.LaidMore
import Derived.MakeChecks
import Derived.Stop.Joined
import Derived.SevenTiedAt
import Derived.Test.YtmjadcjpgcbalaaDoorArgs
import Derived.Test.YtmjadcjpgcbalaaDoorVrEnd
namespace Go.Proofs.YtmjadcjpgcbalaaDoor.varsTurns
open Go.Proofs.YtmjadcjpgcbalaaDoor
open Go.ChangeShapes Go.WideShapes Go.ChangeAt Go.RowKit Go.Deep
open Go.ChangeMaps (open_string shut_string)
set_option linter.unusedVariables false

theorem own : ownKnob Tryd.prog.godebug = none := by kernel_rfl
theorem laidOut : laidOutB Tryd.prog = true := by kernel_rfl
-- opt:8000000
open SpanM SetM
attribute [local go_sem ↓] Go.wp_at_zero Go.wp_at_succ
theorem getV_set (nm v nm' : ByteArray) (l : List Rw) : getV nm' (setL nm v l) = if eqB nm nm' = true then v else getV nm' l := by
  induction l with
  | nil => rfl
  | cons s r ih =>
    unfold setL
    cases h : eqB s.1 nm
    · rw [if_neg (by simp), getV, ih, getV]
      cases h2 : eqB s.1 nm'
      · simp
      · have e2 := (eqB_iff _ _).1 h2
        have h3 : eqB nm nm' = false := by
          cases h4 : eqB nm nm'
          · rfl
          · have e4 := (eqB_iff _ _).1 h4
            rw [e2, ← e4, (eqB_iff nm nm).2 rfl] at h; cases h
        rw [h3]
        simp
    · have e1 := (eqB_iff _ _).1 h
      rw [if_pos rfl, getV, getV, e1]
      split <;> rfl
theorem getB_set (nm v nm' : ByteArray) (l : List Rw) : getB nm' (setL nm v l) = (eqB nm nm' || getB nm' l) := by
  induction l with
  | nil => rfl
  | cons s r ih =>
    unfold setL
    cases h : eqB s.1 nm
    · rw [if_neg (by simp)]
      unfold getB at ih ⊢
      rw [List.any_cons, ih, List.any_cons]
      cases eqB s.1 nm' <;> cases eqB nm nm' <;> rfl
    · have e1 := (eqB_iff _ _).1 h
      rw [if_pos rfl]
      unfold getB
      rw [List.any_cons, List.any_cons, e1]
      cases eqB nm nm' <;> rfl
theorem len_set (nm v : ByteArray) (l : List Rw) : (setL nm v l).length = l.length + if getB nm l = true then 0 else 1 := by
  induction l with
  | nil => rfl
  | cons s r ih =>
    unfold setL
    cases h : eqB s.1 nm
    · rw [if_neg (by simp)]
      have : getB nm (s :: r) = getB nm r := by unfold getB; rw [List.any_cons, h]; rfl
      rw [this, List.length_cons, ih, List.length_cons]; omega
    · rw [if_pos rfl]
      have : getB nm (s :: r) = true := by unfold getB; rw [List.any_cons, h]; rfl
      rw [this]; simp
theorem setE_on {nm v : ByteArray} {l k : List Rw} (h : setE nm v l = 0) (hk : k.length < 64) : setE nm v k = 0 := by
  unfold setE at h ⊢
  split at h
  · cases h
  · split at h
    · cases h
    · rename_i h1 h2
      rw [if_neg h1, if_neg h2, if_neg (by omega)]
theorem setR_on {nm v : ByteArray} {l : List Rw} (h : setE nm v l = 0) : setR nm v l = setL nm v l := by unfold setR; rw [if_pos h]
set_option maxRecDepth 100000 in
set_option maxHeartbeats 8000000 in
theorem walk (a0 : Value) (l0 : List SetM.Rw) (a1 : ByteArray) (a2 : ByteArray) (a3 : ByteArray) (a4 : ByteArray) (a5 : ByteArray) (w : World) (w0 : RwAt w a0 l0) (b0 : ∀ s ∈ l0, WfR s) (w1 : a1.size ≤ maxLen) (w2 : a2.size ≤ maxLen) (w3 : a3.size ≤ maxLen) (w4 : a4.size ≤ maxLen) (w5 : a5.size ≤ maxLen) :
    Calls Tryd.prog 9 #[a0, .string a1, .string a2, .string a3, .string a4, .string a5] w fun e w' => e = .returned (.bool true) ∧ Below w.heap.size w w' := by
  have HENV : Hid (Calls Tryd.prog 10 #[.int .i64 40, .int .i64 300, a0] w (MuchPost l0 40 300 w)) := hide (env_any a0 l0 40 300 w w0 (by decide) (by decide) b0)
  obtain ⟨vA, vc, rfl⟩ := rwat_len w0
  have H0 := hide w0
  clear w0 b0
  by_cases h1 : 30 < a1.size
  · have g1 : decide ((30 : Int) < (a1.size : Int)) = true := decide_eq_true (by omega)
    have g1' : decide (30 < a1.size) = true := decide_eq_true h1
    clear h1
    go_enter Tryd.func9, Tryd.ntmps9
    go_wp2_with fail
    (with_reducible refine HENV.out.mono ?_)
    rintro e w1 ⟨rr, rfl, hb1, hr⟩
    cases rr
    · go_wp2_with fail
      refine (awake23_any _).mono ?_
      rintro e w9 ⟨rfl, hb9⟩
      go_wp2
      go_ret
      exact ⟨rfl, bl_trans hb1 hb9⟩
    · go_wp2_with fail
      refine (awake23_any _).mono ?_
      rintro e w9 ⟨rfl, hb9⟩
      go_wp2
      go_ret
      exact ⟨rfl, bl_trans hb1 hb9⟩
  have g1 : decide ((30 : Int) < (a1.size : Int)) = false := decide_eq_false (by omega)
  have g1' : decide (30 < a1.size) = false := decide_eq_false h1
  by_cases h2 : 30 < a2.size
  · have g2 : decide ((30 : Int) < (a2.size : Int)) = true := decide_eq_true (by omega)
    have g2' : decide (30 < a2.size) = true := decide_eq_true h2
    clear h1 h2
    go_enter Tryd.func9, Tryd.ntmps9
    go_wp2_with fail
    (with_reducible refine HENV.out.mono ?_)
    rintro e w1 ⟨rr, rfl, hb1, hr⟩
    cases rr
    · go_wp2_with fail
      refine (awake23_any _).mono ?_
      rintro e w9 ⟨rfl, hb9⟩
      go_wp2
      go_ret
      exact ⟨rfl, bl_trans hb1 hb9⟩
    · go_wp2_with fail
      refine (awake23_any _).mono ?_
      rintro e w9 ⟨rfl, hb9⟩
      go_wp2
      go_ret
      exact ⟨rfl, bl_trans hb1 hb9⟩
  have g2 : decide ((30 : Int) < (a2.size : Int)) = false := decide_eq_false (by omega)
  have g2' : decide (30 < a2.size) = false := decide_eq_false h2
  by_cases h3 : 30 < a3.size
  · have g3 : decide ((30 : Int) < (a3.size : Int)) = true := decide_eq_true (by omega)
    have g3' : decide (30 < a3.size) = true := decide_eq_true h3
    clear h1 h2 h3
    go_enter Tryd.func9, Tryd.ntmps9
    go_wp2_with fail
    (with_reducible refine HENV.out.mono ?_)
    rintro e w1 ⟨rr, rfl, hb1, hr⟩
    cases rr
    · go_wp2_with fail
      refine (awake23_any _).mono ?_
      rintro e w9 ⟨rfl, hb9⟩
      go_wp2
      go_ret
      exact ⟨rfl, bl_trans hb1 hb9⟩
    · go_wp2_with fail
      refine (awake23_any _).mono ?_
      rintro e w9 ⟨rfl, hb9⟩
      go_wp2
      go_ret
      exact ⟨rfl, bl_trans hb1 hb9⟩
  have g3 : decide ((30 : Int) < (a3.size : Int)) = false := decide_eq_false (by omega)
  have g3' : decide (30 < a3.size) = false := decide_eq_false h3
  by_cases h4 : 30 < a4.size
  · have g4 : decide ((30 : Int) < (a4.size : Int)) = true := decide_eq_true (by omega)
    have g4' : decide (30 < a4.size) = true := decide_eq_true h4
    clear h1 h2 h3 h4
    go_enter Tryd.func9, Tryd.ntmps9
    go_wp2_with fail
    (with_reducible refine HENV.out.mono ?_)
    rintro e w1 ⟨rr, rfl, hb1, hr⟩
    cases rr
    · go_wp2_with fail
      refine (awake23_any _).mono ?_
      rintro e w9 ⟨rfl, hb9⟩
      go_wp2
      go_ret
      exact ⟨rfl, bl_trans hb1 hb9⟩
    · go_wp2_with fail
      refine (awake23_any _).mono ?_
      rintro e w9 ⟨rfl, hb9⟩
      go_wp2
      go_ret
      exact ⟨rfl, bl_trans hb1 hb9⟩
  have g4 : decide ((30 : Int) < (a4.size : Int)) = false := decide_eq_false (by omega)
  have g4' : decide (30 < a4.size) = false := decide_eq_false h4
  by_cases h5 : 30 < a5.size
  · have g5 : decide ((30 : Int) < (a5.size : Int)) = true := decide_eq_true (by omega)
    have g5' : decide (30 < a5.size) = true := decide_eq_true h5
    clear h1 h2 h3 h4 h5
    go_enter Tryd.func9, Tryd.ntmps9
    go_wp2_with fail
    (with_reducible refine HENV.out.mono ?_)
    rintro e w1 ⟨rr, rfl, hb1, hr⟩
    cases rr
    · go_wp2_with fail
      refine (awake23_any _).mono ?_
      rintro e w9 ⟨rfl, hb9⟩
      go_wp2
      go_ret
      exact ⟨rfl, bl_trans hb1 hb9⟩
    · go_wp2_with fail
      refine (awake23_any _).mono ?_
      rintro e w9 ⟨rfl, hb9⟩
      go_wp2
      go_ret
      exact ⟨rfl, bl_trans hb1 hb9⟩
  have g5 : decide ((30 : Int) < (a5.size : Int)) = false := decide_eq_false (by omega)
  have g5' : decide (30 < a5.size) = false := decide_eq_false h5
  rcases hab : eqB a1 a2 with _ | _
  case true =>
    have g6 : (a1.toList == a2.toList) = true := hab
    clear h1 h2 h3 h4 h5 hab
    go_enter Tryd.func9, Tryd.ntmps9
    go_wp2_with fail
    (with_reducible refine HENV.out.mono ?_)
    rintro e w1 ⟨rr, rfl, hb1, hr⟩
    cases rr
    · go_wp2_with fail
      refine (awake23_any _).mono ?_
      rintro e w9 ⟨rfl, hb9⟩
      go_wp2
      go_ret
      exact ⟨rfl, bl_trans hb1 hb9⟩
    · go_wp2_with fail
      refine (awake23_any _).mono ?_
      rintro e w9 ⟨rfl, hb9⟩
      go_wp2
      go_ret
      exact ⟨rfl, bl_trans hb1 hb9⟩
  have g6 : (a1.toList == a2.toList) = false := hab
  have hba : eqB a2 a1 = false := by
    cases h : eqB a2 a1
    · rfl
    · rw [(eqB_iff _ _).1 h, (eqB_iff a1 a1).2 rfl] at hab; cases hab
  have HAB := hide (And.intro hab hba)
  clear hab hba
  go_enter Tryd.func9, Tryd.ntmps9
  go_wp2_with fail
  (with_reducible refine HENV.out.mono ?_)
  rintro e w1 ⟨rr, rfl, hb1, hr⟩
  cases rr
  case true =>
    go_wp2_with fail
    refine (awake23_any _).mono ?_
    rintro e w9 ⟨rfl, hb9⟩
    go_wp2
    go_ret
    exact ⟨rfl, bl_trans hb1 hb9⟩
  have hl40 : l0.length ≤ 40 := (hr.out rfl).1
  have HB1 := hide hb1
  have hS1 := fun (W : World) (v : Value) (h : RwAt W v l0) => set_any a1 a4 v l0 W h (by omega) (by omega)
  have hS2 := fun (W : World) (v : Value) (h : RwAt W v l0) => set_any a2 a5 v l0 W h (by omega) (by omega)
  have hSz := And.intro (show a1.size ≤ 1000000 by omega) (show a2.size ≤ 1000000 by omega)
  clear h1 h2 h3 h4 h5 hr hb1
  rcases he1 : decide (setE a1 a4 l0 = 0) with _ | _
  case false =>
    have hn := of_decide_eq_false he1
    have n1 : (setE a1 a4 l0 != 0) = true := by simp [hn]
    have HS1 := hide hS1
    have HS2 := hide hS2
    generalize setE a1 a4 l0 = E1 at *
    clear hS1 hS2 he1 hn
    go_wp2_with fail
    refine (HS1.out _ _ (rwat_below H0.out HB1.out)).mono ?_
    rintro e w2 ⟨v2, rfl, hb2, ho2⟩
    have hb2 := bl_trans HB1.out hb2
    clear ho2
    go_wp2_with fail
    refine (HS2.out _ _ (rwat_below H0.out hb2)).mono ?_
    rintro e w3 ⟨v3, rfl, hb3, ho3⟩
    have hb3 := bl_trans hb2 hb3
    clear ho3
    go_wp2_with fail
    refine (awake23_any _).mono ?_
    rintro e w9 ⟨rfl, hb9⟩
    go_wp2
    go_ret
    exact ⟨rfl, bl_trans hb3 hb9⟩
  have e1 := of_decide_eq_true he1
  rcases he2 : decide (setE a2 a5 l0 = 0) with _ | _
  case false =>
    have hn := of_decide_eq_false he2
    have n1 : (setE a2 a5 l0 != 0) = true := by simp [hn]
    rw [e1] at hS1
    have HS1 := hide hS1
    have HS2 := hide hS2
    generalize setE a2 a5 l0 = E2 at *
    clear hS1 hS2 he1 he2 hn e1
    go_wp2_with fail
    refine (HS1.out _ _ (rwat_below H0.out HB1.out)).mono ?_
    rintro e w2 ⟨v2, rfl, hb2, ho2⟩
    have hb2 := bl_trans HB1.out hb2
    clear ho2
    go_wp2_with fail
    refine (HS2.out _ _ (rwat_below H0.out hb2)).mono ?_
    rintro e w3 ⟨v3, rfl, hb3, ho3⟩
    have hb3 := bl_trans hb2 hb3
    clear ho3
    go_wp2_with fail
    refine (awake23_any _).mono ?_
    rintro e w9 ⟨rfl, hb9⟩
    go_wp2
    go_ret
    exact ⟨rfl, bl_trans hb3 hb9⟩
  have e2 := of_decide_eq_true he2
  have eP := setR_on e1
  have eQ := setR_on e2
  rw [e1, eP] at hS1
  rw [e2, eQ] at hS2
  have lP := len_set a1 a4 l0
  have lQ := len_set a2 a5 l0
  have lP2 : (setL a1 a4 l0).length ≤ 41 := by rw [lP]; split <;> omega
  have lQ2 : (setL a2 a5 l0).length ≤ 41 := by rw [lQ]; split <;> omega
  have e3 := setE_on (k := setL a1 a4 l0) e2 (by omega)
  have e4 := setE_on (k := setL a2 a5 l0) e1 (by omega)
  have hS3 := fun (W : World) (v : Value) (h : RwAt W v (setL a1 a4 l0)) => set_any a2 a5 v (setL a1 a4 l0) W h (by omega) hSz.2
  have hS4 := fun (W : World) (v : Value) (h : RwAt W v (setL a2 a5 l0)) => set_any a1 a4 v (setL a2 a5 l0) W h (by omega) hSz.1
  rw [e3, setR_on e3] at hS3
  rw [e4, setR_on e4] at hS4
  have lR := len_set a2 a5 (setL a1 a4 l0)
  have lS := len_set a1 a4 (setL a2 a5 l0)
  rw [getB_set, HAB.out.1, Bool.false_or, lP] at lR
  rw [getB_set, HAB.out.2, Bool.false_or, lQ] at lS
  have hRS : (setL a2 a5 (setL a1 a4 l0)).length = (setL a1 a4 (setL a2 a5 l0)).length := by rw [lR, lS]; omega
  have hR43 : (setL a2 a5 (setL a1 a4 l0)).length ≤ 43 := by rw [lR]; split <;> split <;> omega
  have k1 : getV a1 (setL a2 a5 (setL a1 a4 l0)) = a4 := by rw [getV_set, HAB.out.2, if_neg (by simp), getV_set, (eqB_iff a1 a1).2 rfl, if_pos rfl]
  have k2 : getB a1 (setL a2 a5 (setL a1 a4 l0)) = true := by rw [getB_set, getB_set, (eqB_iff a1 a1).2 rfl]; simp
  have k3 : getV a2 (setL a1 a4 (setL a2 a5 l0)) = a5 := by rw [getV_set, HAB.out.1, if_neg (by simp), getV_set, (eqB_iff a2 a2).2 rfl, if_pos rfl]
  have k4 : getB a2 (setL a1 a4 (setL a2 a5 l0)) = true := by rw [getB_set, getB_set, (eqB_iff a2 a2).2 rfl]; simp
  have k5 : getV a3 (setL a1 a4 (setL a2 a5 l0)) = getV a3 (setL a2 a5 (setL a1 a4 l0)) := by
    rw [getV_set, getV_set, getV_set, getV_set]
    cases u1 : eqB a1 a3
    · simp
    · cases u2 : eqB a2 a3
      · simp
      · exfalso
        have v1 := (eqB_iff _ _).1 u1
        have v2 := (eqB_iff _ _).1 u2
        have := HAB.out.1
        rw [v1, v2, (eqB_iff a3 a3).2 rfl] at this; cases this
  have k6 : getB a3 (setL a1 a4 (setL a2 a5 l0)) = getB a3 (setL a2 a5 (setL a1 a4 l0)) := by
    rw [getB_set, getB_set, getB_set, getB_set]
    cases eqB a1 a3 <;> cases eqB a2 a3 <;> rfl
  generalize setL a2 a5 (setL a1 a4 l0) = R at *
  generalize setL a1 a4 (setL a2 a5 l0) = S at *
  generalize setL a1 a4 l0 = P at *
  generalize setL a2 a5 l0 = Q at *
  obtain ⟨t, ht⟩ : ∃ t, getV a3 R = t := ⟨_, rfl⟩
  obtain ⟨tb, htb⟩ : ∃ t, getB a3 R = t := ⟨_, rfl⟩
  rw [ht] at k5
  rw [htb] at k6
  have HS1 := hide hS1
  have HS2 := hide hS2
  have HS3 := hide hS3
  have HS4 := hide hS4
  have HG1 := hide (fun (W : World) (v : Value) (h : RwAt W v R) => get_any v R a1 a4 true W h (by omega) k1 k2)
  have HG2 := hide (fun (W : World) (v : Value) (h : RwAt W v S) => get_any v S a2 a5 true W h (by omega) k3 k4)
  have HG3 := hide (fun (W : World) (v : Value) (h : RwAt W v R) => get_any v R a3 t tb W h (by omega) ht htb)
  have HG4 := hide (fun (W : World) (v : Value) (h : RwAt W v S) => get_any v S a3 t tb W h (by omega) k5 k6)
  have q1 : ((R.length : Int) == (S.length : Int)) = true := beq_iff_eq.2 (by omega)
  have q1' : (R.length == S.length) = true := beq_iff_eq.2 hRS
  have q2 : (tb == tb) = true := beq_self_eq_true tb
  clear hS1 hS2 hS3 hS4 k1 k2 k3 k4 k5 k6 ht htb lR lS lP lQ lP2 lQ2 e1 e2 e3 e4 eP eQ he1 he2 hRS hR43 hSz HAB
  go_wp2_with fail
  refine (HS1.out _ _ (rwat_below H0.out HB1.out)).mono ?_
  rintro e w2 ⟨v2, rfl, hb2, ho2⟩
  have R2 := own_rwat ho2
  have hb2 := bl_trans HB1.out hb2
  clear ho2
  go_wp2_with fail
  refine (HS2.out _ _ (rwat_below H0.out hb2)).mono ?_
  rintro e w3 ⟨v3, rfl, hb3, ho3⟩
  have R2 := rwat_below R2 hb3
  have R3 := own_rwat ho3
  have hb3 := bl_trans hb2 hb3
  clear ho3
  go_wp2_with fail
  refine (HS3.out _ _ R2).mono ?_
  rintro e w4 ⟨v4, rfl, hb4, ho4⟩
  have R3 := rwat_below R3 hb4
  have R4 := own_rwat ho4
  obtain ⟨aX, cX, rfl⟩ := own_slice ho4
  have hb4 := bl_trans hb3 hb4
  clear ho4 R2
  go_wp2_with fail
  refine (HS4.out _ _ R3).mono ?_
  rintro e w5 ⟨v5, rfl, hb5, ho5⟩
  have R4 := rwat_below R4 hb5
  have R5 := own_rwat ho5
  obtain ⟨aY, cY, rfl⟩ := own_slice ho5
  have hb5 := bl_trans hb4 hb5
  clear ho5 R3
  go_wp2_with fail
  refine (HG1.out _ _ R4).mono ?_
  rintro e w6 ⟨rfl, hb6⟩
  have R4 := rwat_below R4 hb6
  have R5 := rwat_below R5 hb6
  have hb6 := bl_trans hb5 hb6
  go_wp2_with fail
  refine (HG2.out _ _ R5).mono ?_
  rintro e w7 ⟨rfl, hb7⟩
  have R4 := rwat_below R4 hb7
  have R5 := rwat_below R5 hb7
  have hb7 := bl_trans hb6 hb7
  go_wp2_with fail
  refine (HG3.out _ _ R4).mono ?_
  rintro e w8 ⟨rfl, hb8⟩
  have R5 := rwat_below R5 hb8
  have hb8 := bl_trans hb7 hb8
  go_wp2_with fail
  refine (HG4.out _ _ R5).mono ?_
  rintro e w10 ⟨rfl, hb10⟩
  have hb10 := bl_trans hb8 hb10
  go_wp2_with fail
  refine (awake23_any _).mono ?_
  rintro e w9 ⟨rfl, hb9⟩
  go_wp2
  go_ret
  exact ⟨rfl, bl_trans hb10 hb9⟩

set_option maxRecDepth 100000 in
theorem lifted (os : Os) (started : os.Started) (H : Type) (enc : TypeId × Value → H) :
    ReturnsInHanded {} Tryd.checked os 9 .any (fun w args => (Rows.varsTurnsSpec.pre enc Tryd.prog Tryd.f9 Rows.varsTurnsRow.domain false w args ∧ laidMetH Tryd.prog Rows.varsTurnsRow.laid w) ∧ sizedMet enc Tryd.prog Tryd.f9 (OpenSpec.ofChange Rows.varsTurnsSpec) false w args) (Rows.varsTurnsSpec.post enc Tryd.prog Tryd.f9 false true false false) := by
  refine returnsInHanded_of_change_and (C := Tryd.checked) (X := fun w _ => laidMetH Tryd.prog Rows.varsTurnsRow.laid w) (fun _ _ _ hh h => h.of_heap hh) own started (by kernel_rfl) Tryd.func9
    (ChangeSpec.witness_shaped (enc := enc) (C := Tryd.checked) (os := os) (X := fun w _ => laidMetH Tryd.prog Rows.varsTurnsRow.laid w) false (World.laidAll Tryd.prog os Rows.varsTurnsRow.laid) #[.slice none 0 0, .string ByteArray.empty, .string ByteArray.empty, .string ByteArray.empty, .string ByteArray.empty, .string ByteArray.empty] 8 (World.laidAll_os _ _ _)
      (World.shaped_of_ZipB (by kernel_rfl) (by kernel_rfl)) (by kernel_rfl) (by kernel_rfl) (by kernel_rfl)
      (by rw [MakeChecks.laidMetH_plain _ _ _ (by kernel_rfl)]; exact laidMet_laidAll _ (by kernel_rfl) (by kernel_rfl))) ?_
  intro W base args ds gs before hval0 hW hcnd _ hL _
  have hval : ∀ (j : Nat) t v, Tryd.f9.params[j]? = some t → args[j]? = some v → Value.okWide Tryd.prog W .any base t v := hval0
  have hW' := hW
  obtain ⟨p, q, hA0, hV, rfl, hfz, hnd⟩ := hW
  have hA : DataW.TrodAll enc Tryd.prog W 0 (fun _ => true) true Tryd.f9.params.toList args.toList ds p := hA0
  rw [Tryd.params9] at hA hval
  obtain ⟨v0, vs0, d0, ds0, p0, q0, hargs, rfl, rfl, h0, r0⟩ := trodAll_cons hA
  obtain ⟨v1, vs1, d1, ds1, p1, q1, rfl, rfl, rfl, h1, r1⟩ := trodAll_cons r0
  obtain ⟨v2, vs2, d2, ds2, p2, q2, rfl, rfl, rfl, h2, r2⟩ := trodAll_cons r1
  obtain ⟨v3, vs3, d3, ds3, p3, q3, rfl, rfl, rfl, h3, r3⟩ := trodAll_cons r2
  obtain ⟨v4, vs4, d4, ds4, p4, q4, rfl, rfl, rfl, h4, r4⟩ := trodAll_cons r3
  obtain ⟨v5, vs5, d5, ds5, p5, q5, rfl, rfl, rfl, h5, r5⟩ := trodAll_cons r4
  obtain ⟨rfl, rfl, rfl⟩ := trodAll_nil r5
  obtain rfl : args = #[v0, v1, v2, v3, v4, v5] := by cases args; simp_all
  obtain ⟨rfl, rfl⟩ := trodVars_none hV
  have k0 := h0
  have lt0 : ∀ x ∈ p0, x.block < W.heap.size := by obtain ⟨m, hm⟩ := k0; exact DataW.trod_lt m _ _ _ hm
  obtain ⟨l0, w0, b0⟩ := open_rows (hval 0 22 v0 rfl rfl) h0
  have k1 := h1
  have lt1 : ∀ x ∈ p1, x.block < W.heap.size := by obtain ⟨m, hm⟩ := k1; exact DataW.trod_lt m _ _ _ hm
  obtain ⟨a1, rfl, hd1, hp1, w1⟩ := open_string Tryd.underlying9 (hval 1 9 v1 rfl rfl) h1
  have k2 := h2
  have lt2 : ∀ x ∈ p2, x.block < W.heap.size := by obtain ⟨m, hm⟩ := k2; exact DataW.trod_lt m _ _ _ hm
  obtain ⟨a2, rfl, hd2, hp2, w2⟩ := open_string Tryd.underlying9 (hval 2 9 v2 rfl rfl) h2
  have k3 := h3
  have lt3 : ∀ x ∈ p3, x.block < W.heap.size := by obtain ⟨m, hm⟩ := k3; exact DataW.trod_lt m _ _ _ hm
  obtain ⟨a3, rfl, hd3, hp3, w3⟩ := open_string Tryd.underlying9 (hval 3 9 v3 rfl rfl) h3
  have k4 := h4
  have lt4 : ∀ x ∈ p4, x.block < W.heap.size := by obtain ⟨m, hm⟩ := k4; exact DataW.trod_lt m _ _ _ hm
  obtain ⟨a4, rfl, hd4, hp4, w4⟩ := open_string Tryd.underlying9 (hval 4 9 v4 rfl rfl) h4
  have k5 := h5
  have lt5 : ∀ x ∈ p5, x.block < W.heap.size := by obtain ⟨m, hm⟩ := k5; exact DataW.trod_lt m _ _ _ hm
  obtain ⟨a5, rfl, hd5, hp5, w5⟩ := open_string Tryd.underlying9 (hval 5 9 v5 rfl rfl) h5
  clear hA0 hval0
  refine (walk v0 l0 a1 a2 a3 a4 a5 W w0 b0 w1 w2 w3 w4 w5).mono fun e W' ⟨he, bel⟩ => ?_
  subst he
  exact ⟨_, rfl, _, _, _, [], _, [], hW', trodAll_mk1 (shut_bool Tryd.underlying4 _), (trodAll_cons_mk (Below.trod laidOut (by kernel_rfl) (of_decide_eq_true (by kernel_rfl)) k0 bel lt0) (trodAll_cons_mk (Below.trod laidOut (by kernel_rfl) (of_decide_eq_true (by kernel_rfl)) k1 bel lt1) (trodAll_cons_mk (Below.trod laidOut (by kernel_rfl) (of_decide_eq_true (by kernel_rfl)) k2 bel lt2) (trodAll_cons_mk (Below.trod laidOut (by kernel_rfl) (of_decide_eq_true (by kernel_rfl)) k3 bel lt3) (trodAll_cons_mk (Below.trod laidOut (by kernel_rfl) (of_decide_eq_true (by kernel_rfl)) k4 bel lt4) (trodAll_cons_mk (Below.trod laidOut (by kernel_rfl) (of_decide_eq_true (by kernel_rfl)) k5 bel lt5) trodAll_mk0)))))), rfl, bel.frame _, fun h => by cases h⟩

theorem over : Rows.varsTurnsRow.holds Tryd.pinned (OpenSpec.ofChange Rows.varsTurnsSpec) :=
  OpenClaim.holds_of_wide 9 Tryd.f9 rfl rfl rfl rfl rfl rfl rfl ⟨rfl, rfl, rfl, rfl, rfl⟩ rfl rfl rfl rfl rfl (by kernel_rfl) Tryd.func9 (by kernel_rfl)
    (of_decide_eq_true (by kernel_rfl)) (by unfold Func.isWrapper; first | (rw [if_pos (by decide +kernel)]; kernel_rfl) | (rw [if_neg (by decide +kernel)]; exact ⟨rfl, rfl⟩))
    (fun os started H enc _ => lifted os started H enc)

set_option maxRecDepth 100000 in
theorem proved : Rows.VarsTurnsCardSaid :=
  Claim7.holds_tied_plain_at .later [] [.data, .data, .data] true (true, "ad88b18fa5cecbf30a26213c9b87035bcf4c1f531589068041e55abbb04c666c") false
    over (fun _ h => by cases h) (by kernel_rfl) (fun _ h => by cases h) varsTurns_row_tie rfl ⟨rfl, rfl⟩ (by kernel_rfl) rfl
    (fun f fn hf hfn => by
      obtain rfl : f = 9 := Option.some.inj ((show Tryd.prog.funcNamed "gimlet/gimletlaw23.VarsTurns" = some 9 by kernel_rfl).symm.trans hf) |>.symm
      obtain rfl : fn = Tryd.f9 := (Option.some.inj (Tryd.func9.symm.trans hfn)).symm
      refine ⟨by kernel_rfl, fun j t ht => ?_⟩
      rw [Tryd.params9] at ht
      have hm := Array.mem_of_getElem? ht
      simp at hm
      rcases hm with rfl | rfl
      all_goals first | exact (show Tryd.prog.wantsStandIn 9 = false by kernel_rfl) | exact (show Tryd.prog.wantsStandIn 22 = false by kernel_rfl))
    (by kernel_rfl)
end Go.Proofs.YtmjadcjpgcbalaaDoor.varsTurns
