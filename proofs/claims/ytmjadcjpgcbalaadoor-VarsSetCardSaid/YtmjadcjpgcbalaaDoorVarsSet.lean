/- Any name is set, in any variables, or refused, as the document tells; then it is told, and all others are as they were. Conditions: none beyond the form's own. -/
import Derived.Test.YtmjadcjpgcbalaaDoorRows
import Derived.Test.YtmjadcjpgcbalaaDoorCards
import Derived.Test.YtmjadcjpgcbalaaDoorTie
import Derived.Lay
import Derived.LaidMore
import Derived.MakeChecks
import Derived.Stop.Joined
import Derived.SevenTiedAt
import Derived.Test.YtmjadcjpgcbalaaDoorArgs
import Derived.Test.YtmjadcjpgcbalaaDoorVarF
namespace Go.Proofs.YtmjadcjpgcbalaaDoor.varsSet
open Go.Proofs.YtmjadcjpgcbalaaDoor
open Go.ChangeShapes Go.WideShapes Go.ChangeAt Go.RowKit Go.Deep
open Go.ChangeMaps (open_string shut_string)
set_option linter.unusedVariables false

theorem own : ownKnob Tryd.prog.godebug = none := by kernel_rfl
theorem laidOut : laidOutB Tryd.prog = true := by kernel_rfl
-- opt:8000000
open SpanM SetM
attribute [local go_sem ↓] Go.wp_at_zero Go.wp_at_succ
theorem getV_set (nm v nm' : ByteArray) (l : List Rw) : getV nm' (setL nm v l) = if eqB nm nm' = true then v else getV nm' l := by
  induction l with
  | nil => rfl
  | cons s r ih =>
    unfold setL
    cases h : eqB s.1 nm
    · rw [if_neg (by simp), getV, ih, getV]
      cases h2 : eqB s.1 nm'
      · simp
      · have e2 := (eqB_iff _ _).1 h2
        have h3 : eqB nm nm' = false := by
          cases h4 : eqB nm nm'
          · rfl
          · have e4 := (eqB_iff _ _).1 h4
            rw [e2, ← e4, (eqB_iff nm nm).2 rfl] at h; cases h
        rw [h3]
        simp
    · have e1 := (eqB_iff _ _).1 h
      rw [if_pos rfl, getV, getV, e1]
      split <;> rfl
theorem getB_set (nm v nm' : ByteArray) (l : List Rw) : getB nm' (setL nm v l) = (eqB nm nm' || getB nm' l) := by
  induction l with
  | nil => rfl
  | cons s r ih =>
    unfold setL
    cases h : eqB s.1 nm
    · rw [if_neg (by simp)]
      unfold getB at ih ⊢
      rw [List.any_cons, ih, List.any_cons]
      cases eqB s.1 nm' <;> cases eqB nm nm' <;> rfl
    · have e1 := (eqB_iff _ _).1 h
      rw [if_pos rfl]
      unfold getB
      rw [List.any_cons, List.any_cons, e1]
      cases eqB nm nm' <;> rfl
theorem len_set (nm v : ByteArray) (l : List Rw) : (setL nm v l).length = l.length + if getB nm l = true then 0 else 1 := by
  induction l with
  | nil => rfl
  | cons s r ih =>
    unfold setL
    cases h : eqB s.1 nm
    · rw [if_neg (by simp)]
      have : getB nm (s :: r) = getB nm r := by unfold getB; rw [List.any_cons, h]; rfl
      rw [this, List.length_cons, ih, List.length_cons]; omega
    · rw [if_pos rfl]
      have : getB nm (s :: r) = true := by unfold getB; rw [List.any_cons, h]; rfl
      rw [this]; simp
theorem setE_on {nm v : ByteArray} {l k : List Rw} (h : setE nm v l = 0) (hk : k.length < 64) : setE nm v k = 0 := by
  unfold setE at h ⊢
  split at h
  · cases h
  · split at h
    · cases h
    · rename_i h1 h2
      rw [if_neg h1, if_neg h2, if_neg (by omega)]
theorem setR_on {nm v : ByteArray} {l : List Rw} (h : setE nm v l = 0) : setR nm v l = setL nm v l := by unfold setR; rw [if_pos h]
set_option maxRecDepth 100000 in
set_option maxHeartbeats 8000000 in
theorem walk (a0 : ByteArray) (a1 : ByteArray) (a2 : ByteArray) (a3 : Value) (l3 : List SetM.Rw) (w : World) (w0 : a0.size ≤ maxLen) (w1 : a1.size ≤ maxLen) (w2 : a2.size ≤ maxLen) (w3 : RwAt w a3 l3) (b3 : ∀ s ∈ l3, WfR s) :
    Calls Tryd.prog 3 #[.string a0, .string a1, .string a2, a3] w fun e w' => e = .returned (.bool true) ∧ Below w.heap.size w w' := by
  have HENV : Hid (Calls Tryd.prog 10 #[.int .i64 70, .int .i64 400, a3] w (MuchPost l3 70 400 w)) := hide (env_any a3 l3 70 400 w w3 (by decide) (by decide) b3)
  obtain ⟨vA, vc, rfl⟩ := rwat_len w3
  have H0 := hide w3
  clear w3 b3
  by_cases h0 : 80 < a0.size
  · have g0 : decide ((80 : Int) < (a0.size : Int)) = true := decide_eq_true (by omega)
    have g0' : decide (80 < a0.size) = true := decide_eq_true h0
    clear h0
    go_enter Tryd.func3, Tryd.ntmps3
    go_wp2_with fail
    refine (awake23_any _).mono ?_
    rintro e w9 ⟨rfl, hb9⟩
    go_wp2
    go_ret
    exact ⟨rfl, hb9⟩
  have g0 : decide ((80 : Int) < (a0.size : Int)) = false := decide_eq_false (by omega)
  have g0' : decide (80 < a0.size) = false := decide_eq_false h0
  by_cases h1 : 80 < a1.size
  · have g1 : decide ((80 : Int) < (a1.size : Int)) = true := decide_eq_true (by omega)
    have g1' : decide (80 < a1.size) = true := decide_eq_true h1
    clear h0 h1
    go_enter Tryd.func3, Tryd.ntmps3
    go_wp2_with fail
    refine (awake23_any _).mono ?_
    rintro e w9 ⟨rfl, hb9⟩
    go_wp2
    go_ret
    exact ⟨rfl, hb9⟩
  have g1 : decide ((80 : Int) < (a1.size : Int)) = false := decide_eq_false (by omega)
  have g1' : decide (80 < a1.size) = false := decide_eq_false h1
  by_cases h2 : 80 < a2.size
  · have g2 : decide ((80 : Int) < (a2.size : Int)) = true := decide_eq_true (by omega)
    have g2' : decide (80 < a2.size) = true := decide_eq_true h2
    clear h0 h1 h2
    go_enter Tryd.func3, Tryd.ntmps3
    go_wp2_with fail
    refine (awake23_any _).mono ?_
    rintro e w9 ⟨rfl, hb9⟩
    go_wp2
    go_ret
    exact ⟨rfl, hb9⟩
  have g2 : decide ((80 : Int) < (a2.size : Int)) = false := decide_eq_false (by omega)
  have g2' : decide (80 < a2.size) = false := decide_eq_false h2
  go_enter Tryd.func3, Tryd.ntmps3
  go_wp2_with fail
  refine HENV.out.mono ?_
  rintro e w1 ⟨rr, rfl, hb1, hr⟩
  cases rr
  case true =>
    go_wp2_with fail
    refine (awake23_any _).mono ?_
    rintro e w9 ⟨rfl, hb9⟩
    go_wp2
    go_ret
    exact ⟨rfl, bl_trans hb1 hb9⟩
  have hl70 : l3.length ≤ 70 := (hr.out rfl).1
  have HB1 := hide hb1
  have HS1 := hide (fun (W : World) (v : Value) (h : RwAt W v l3) => set_any a0 a1 v l3 W h (by omega) (by omega))
  have HS2 := hide (fun (W : World) (v : Value) (h : RwAt W v l3) => rset_any a0 a1 v l3 W h (by omega) (by omega))
  have hRl : (setR a0 a1 l3).length ≤ 71 := by
    unfold setR
    split
    · rw [len_set]; split <;> omega
    · simp
  obtain ⟨t, ht⟩ : ∃ t, getV a2 l3 = t := ⟨_, rfl⟩
  obtain ⟨tb, htb⟩ : ∃ t, getB a2 l3 = t := ⟨_, rfl⟩
  have HG1 := hide (fun (W : World) (v : Value) (h : RwAt W v l3) => get_any v l3 a2 t tb W h (by omega) ht htb)
  have HG4 := hide (fun (W : World) (v : Value) (h : RwAt W v l3) => rget_any v l3 a2 t tb W h (by omega) ht htb)
  have HK1 := hide (fun W => known_any a2 W)
  have HK2 := hide (fun W => rknown_any a2 W)
  generalize knB a2 = kb at *
  have q1 : (kb == kb) = true := beq_self_eq_true kb
  have q2 : (tb == tb) = true := beq_self_eq_true tb
  have q3 : (tb != tb) = false := by cases tb <;> rfl
  have q4 : (t.toList == t.toList) = true := beq_self_eq_true _
  have q5 : (t.toList != t.toList) = false := by rw [bne, q4]; rfl
  have q6 : (a1.toList == a1.toList) = true := beq_self_eq_true _
  have q7 : (a1.toList != a1.toList) = false := by rw [bne, q6]; rfl
  clear h0 h1 h2 hr hb1
  rcases he : decide (setE a0 a1 l3 = 0) with _ | _
  case false =>
    have hn := of_decide_eq_false he
    have n1 : (setE a0 a1 l3 == 0) = false := beq_eq_false_iff_ne.2 hn
    have n2 : (setE a0 a1 l3 != setE a0 a1 l3) = false := by simp
    have hP := fun (W : World) (v u : Value) (h : RwAt W v (setR a0 a1 l3)) (g : RwAt W u (setR a0 a1 l3)) => pairs_any v u _ _ W h g (by omega) (by omega)
    rw [show decide (setR a0 a1 l3 = setR a0 a1 l3) = true by simp] at hP
    have HP := hide hP
    clear hP ht htb he hn hRl
    generalize setE a0 a1 l3 = E at *
    generalize setR a0 a1 l3 = R at *
    go_wp2_with fail
    refine (HS1.out _ _ (rwat_below H0.out HB1.out)).mono ?_
    rintro e w2 ⟨v2, rfl, hb2, ho2⟩
    have R2 := own_rwat ho2
    have hb2 := bl_trans HB1.out hb2
    clear ho2
    go_wp2_with fail
    refine (HS2.out _ _ (rwat_below H0.out hb2)).mono ?_
    rintro e w3 ⟨v3, rfl, hb3, ho3⟩
    have R2 := rwat_below R2 hb3
    have R3 := own_rwat ho3
    have hb3 := bl_trans hb2 hb3
    clear ho3
    go_wp2_with fail
    refine (HP.out _ _ _ R2 R3).mono ?_
    rintro e w4 ⟨rfl, nd, rfl⟩
    have hbd : Below w3.heap.size w3 (w3.drewN nd) := bl_drewN (bl_refl w3) nd
    have R2 := rwat_below R2 hbd
    have hb4 := bl_trans hb3 hbd
    generalize w3.drewN nd = w4 at *
    clear R3 hbd
    go_wp2_with fail
    refine (HG1.out _ _ (rwat_below H0.out hb4)).mono ?_
    rintro e w5 ⟨rfl, hb5⟩
    have R2 := rwat_below R2 hb5
    have hb5 := bl_trans hb4 hb5
    clear R2
    go_wp2_with fail
    refine (HG4.out _ _ (rwat_below H0.out hb5)).mono ?_
    rintro e w8 ⟨rfl, hw8⟩
    subst hw8
    go_wp2_with fail
    refine (HK1.out _).mono ?_
    rintro e w10 ⟨rfl, hw10⟩
    subst hw10
    go_wp2_with fail
    refine (HK2.out _).mono ?_
    rintro e w11 ⟨rfl, hb11⟩
    have hb11 := bl_trans hb5 hb11
    go_wp2_with fail
    refine (awake23_any _).mono ?_
    rintro e w9 ⟨rfl, hb9⟩
    go_wp2
    go_ret
    exact ⟨rfl, bl_trans hb11 hb9⟩
  have e1 := of_decide_eq_true he
  have e2 : setR a0 a1 l3 = setL a0 a1 l3 := by unfold setR; rw [if_pos e1]
  rw [e1, e2] at HS1 HS2
  rw [e2] at hRl
  have k1 : getV a0 (setL a0 a1 l3) = a1 := by rw [getV_set, (eqB_iff a0 a0).2 rfl, if_pos rfl]
  have k2 : getB a0 (setL a0 a1 l3) = true := by rw [getB_set, (eqB_iff a0 a0).2 rfl]; rfl
  have HG3 := hide (fun (W : World) (v : Value) (h : RwAt W v (setL a0 a1 l3)) => get_any v _ a0 a1 true W h (by omega) k1 k2)
  have hP := fun (W : World) (v u : Value) (h : RwAt W v (setL a0 a1 l3)) (g : RwAt W u (setL a0 a1 l3)) => pairs_any v u _ _ W h g (by omega) (by omega)
  rw [show decide (setL a0 a1 l3 = setL a0 a1 l3) = true by simp] at hP
  have HP := hide hP
  obtain ⟨t2, ht2⟩ : ∃ t, getV a2 (setL a0 a1 l3) = t := ⟨_, rfl⟩
  obtain ⟨tb2, htb2⟩ : ∃ t, getB a2 (setL a0 a1 l3) = t := ⟨_, rfl⟩
  have HG2 := hide (fun (W : World) (v : Value) (h : RwAt W v (setL a0 a1 l3)) => get_any v _ a2 t2 tb2 W h (by omega) ht2 htb2)
  rcases hab : eqB a2 a0 with _ | _
  case true =>
    have g6 : (a2.toList == a0.toList) = true := hab
    have g7 : (a2.toList != a0.toList) = false := by rw [bne, g6]; rfl
    clear hab ht htb ht2 htb2 k1 k2 e1 e2 he hP hRl
    generalize setL a0 a1 l3 = R at *
    go_wp2_with fail
    refine (HS1.out _ _ (rwat_below H0.out HB1.out)).mono ?_
    rintro e w2 ⟨v2, rfl, hb2, ho2⟩
    have R2 := own_rwat ho2
    have hb2 := bl_trans HB1.out hb2
    clear ho2
    go_wp2_with fail
    refine (HS2.out _ _ (rwat_below H0.out hb2)).mono ?_
    rintro e w3 ⟨v3, rfl, hb3, ho3⟩
    have R2 := rwat_below R2 hb3
    have R3 := own_rwat ho3
    have hb3 := bl_trans hb2 hb3
    clear ho3
    go_wp2_with fail
    refine (HP.out _ _ _ R2 R3).mono ?_
    rintro e w4 ⟨rfl, nd, rfl⟩
    have hbd : Below w3.heap.size w3 (w3.drewN nd) := bl_drewN (bl_refl w3) nd
    have R2 := rwat_below R2 hbd
    have hb4 := bl_trans hb3 hbd
    generalize w3.drewN nd = w4 at *
    clear R3 hbd
    go_wp2_with fail
    refine (HG1.out _ _ (rwat_below H0.out hb4)).mono ?_
    rintro e w5 ⟨rfl, hb5⟩
    have R2 := rwat_below R2 hb5
    have hb5 := bl_trans hb4 hb5
    go_wp2_with fail
    refine (HG2.out _ _ R2).mono ?_
    rintro e w6 ⟨rfl, hb6⟩
    have R2 := rwat_below R2 hb6
    have hb5 := bl_trans hb5 hb6
    go_wp2_with fail
    refine (HG3.out _ _ R2).mono ?_
    rintro e w7 ⟨rfl, hb7⟩
    have hb5 := bl_trans hb5 hb7
    go_wp2_with fail
    refine (HG4.out _ _ (rwat_below H0.out hb5)).mono ?_
    rintro e w8 ⟨rfl, hw8⟩
    subst hw8
    go_wp2_with fail
    refine (HK1.out _).mono ?_
    rintro e w10 ⟨rfl, hw10⟩
    subst hw10
    go_wp2_with fail
    refine (HK2.out _).mono ?_
    rintro e w11 ⟨rfl, hb11⟩
    have hb11 := bl_trans hb5 hb11
    go_wp2_with fail
    refine (awake23_any _).mono ?_
    rintro e w9 ⟨rfl, hb9⟩
    go_wp2
    go_ret
    exact ⟨rfl, bl_trans hb11 hb9⟩
  have g6 : (a2.toList == a0.toList) = false := hab
  have g7 : (a2.toList != a0.toList) = true := by rw [bne, g6]; rfl
  have hba : eqB a0 a2 = false := by
    cases h : eqB a0 a2
    · rfl
    · rw [(eqB_iff _ _).1 h, (eqB_iff a2 a2).2 rfl] at hab; cases hab
  rw [getV_set, hba, if_neg (by simp), ht] at ht2
  rw [getB_set, hba, Bool.false_or, htb] at htb2
  subst ht2 htb2
  clear hab hba k1 k2 e1 e2 he hP hRl
  generalize setL a0 a1 l3 = R at *
  go_wp2_with fail
  refine (HS1.out _ _ (rwat_below H0.out HB1.out)).mono ?_
  rintro e w2 ⟨v2, rfl, hb2, ho2⟩
  have R2 := own_rwat ho2
  have hb2 := bl_trans HB1.out hb2
  clear ho2
  go_wp2_with fail
  refine (HS2.out _ _ (rwat_below H0.out hb2)).mono ?_
  rintro e w3 ⟨v3, rfl, hb3, ho3⟩
  have R2 := rwat_below R2 hb3
  have R3 := own_rwat ho3
  have hb3 := bl_trans hb2 hb3
  clear ho3
  go_wp2_with fail
  refine (HP.out _ _ _ R2 R3).mono ?_
  rintro e w4 ⟨rfl, nd, rfl⟩
  have hbd : Below w3.heap.size w3 (w3.drewN nd) := bl_drewN (bl_refl w3) nd
  have R2 := rwat_below R2 hbd
  have hb4 := bl_trans hb3 hbd
  generalize w3.drewN nd = w4 at *
  clear R3 hbd
  go_wp2_with fail
  refine (HG1.out _ _ (rwat_below H0.out hb4)).mono ?_
  rintro e w5 ⟨rfl, hb5⟩
  have R2 := rwat_below R2 hb5
  have hb5 := bl_trans hb4 hb5
  go_wp2_with fail
  refine (HG2.out _ _ R2).mono ?_
  rintro e w6 ⟨rfl, hb6⟩
  have R2 := rwat_below R2 hb6
  have hb5 := bl_trans hb5 hb6
  go_wp2_with fail
  refine (HG3.out _ _ R2).mono ?_
  rintro e w7 ⟨rfl, hb7⟩
  have hb5 := bl_trans hb5 hb7
  go_wp2_with fail
  refine (HG4.out _ _ (rwat_below H0.out hb5)).mono ?_
  rintro e w8 ⟨rfl, hw8⟩
  subst hw8
  go_wp2_with fail
  refine (HK1.out _).mono ?_
  rintro e w10 ⟨rfl, hw10⟩
  subst hw10
  go_wp2_with fail
  refine (HK2.out _).mono ?_
  rintro e w11 ⟨rfl, hb11⟩
  have hb11 := bl_trans hb5 hb11
  go_wp2_with fail
  refine (awake23_any _).mono ?_
  rintro e w9 ⟨rfl, hb9⟩
  go_wp2
  go_ret
  exact ⟨rfl, bl_trans hb11 hb9⟩

set_option maxRecDepth 100000 in
theorem lifted (os : Os) (started : os.Started) (H : Type) (enc : TypeId × Value → H) :
    ReturnsInHanded {} Tryd.checked os 3 .any (fun w args => (Rows.varsSetSpec.pre enc Tryd.prog Tryd.f3 Rows.varsSetRow.domain false w args ∧ laidMetH Tryd.prog Rows.varsSetRow.laid w) ∧ sizedMet enc Tryd.prog Tryd.f3 (OpenSpec.ofChange Rows.varsSetSpec) false w args) (Rows.varsSetSpec.post enc Tryd.prog Tryd.f3 false true false false) := by
  refine returnsInHanded_of_change_and (C := Tryd.checked) (X := fun w _ => laidMetH Tryd.prog Rows.varsSetRow.laid w) (fun _ _ _ hh h => h.of_heap hh) own started (by kernel_rfl) Tryd.func3
    (ChangeSpec.witness_shaped (enc := enc) (C := Tryd.checked) (os := os) (X := fun w _ => laidMetH Tryd.prog Rows.varsSetRow.laid w) false (World.laidAll Tryd.prog os Rows.varsSetRow.laid) #[.string ByteArray.empty, .string ByteArray.empty, .string ByteArray.empty, .slice none 0 0] 8 (World.laidAll_os _ _ _)
      (World.shaped_of_ZipB (by kernel_rfl) (by kernel_rfl)) (by kernel_rfl) (by kernel_rfl) (by kernel_rfl)
      (by rw [MakeChecks.laidMetH_plain _ _ _ (by kernel_rfl)]; exact laidMet_laidAll _ (by kernel_rfl) (by kernel_rfl))) ?_
  intro W base args ds gs before hval0 hW hcnd _ hL _
  have hval : ∀ (j : Nat) t v, Tryd.f3.params[j]? = some t → args[j]? = some v → Value.okWide Tryd.prog W .any base t v := hval0
  have hW' := hW
  obtain ⟨p, q, hA0, hV, rfl, hfz, hnd⟩ := hW
  have hA : DataW.TrodAll enc Tryd.prog W 0 (fun _ => true) true Tryd.f3.params.toList args.toList ds p := hA0
  rw [Tryd.params3] at hA hval
  obtain ⟨v0, vs0, d0, ds0, p0, q0, hargs, rfl, rfl, h0, r0⟩ := trodAll_cons hA
  obtain ⟨v1, vs1, d1, ds1, p1, q1, rfl, rfl, rfl, h1, r1⟩ := trodAll_cons r0
  obtain ⟨v2, vs2, d2, ds2, p2, q2, rfl, rfl, rfl, h2, r2⟩ := trodAll_cons r1
  obtain ⟨v3, vs3, d3, ds3, p3, q3, rfl, rfl, rfl, h3, r3⟩ := trodAll_cons r2
  obtain ⟨rfl, rfl, rfl⟩ := trodAll_nil r3
  obtain rfl : args = #[v0, v1, v2, v3] := by cases args; simp_all
  obtain ⟨rfl, rfl⟩ := trodVars_none hV
  have k0 := h0
  have lt0 : ∀ x ∈ p0, x.block < W.heap.size := by obtain ⟨m, hm⟩ := k0; exact DataW.trod_lt m _ _ _ hm
  obtain ⟨a0, rfl, hd0, hp0, w0⟩ := open_string Tryd.underlying9 (hval 0 9 v0 rfl rfl) h0
  have k1 := h1
  have lt1 : ∀ x ∈ p1, x.block < W.heap.size := by obtain ⟨m, hm⟩ := k1; exact DataW.trod_lt m _ _ _ hm
  obtain ⟨a1, rfl, hd1, hp1, w1⟩ := open_string Tryd.underlying9 (hval 1 9 v1 rfl rfl) h1
  have k2 := h2
  have lt2 : ∀ x ∈ p2, x.block < W.heap.size := by obtain ⟨m, hm⟩ := k2; exact DataW.trod_lt m _ _ _ hm
  obtain ⟨a2, rfl, hd2, hp2, w2⟩ := open_string Tryd.underlying9 (hval 2 9 v2 rfl rfl) h2
  have k3 := h3
  have lt3 : ∀ x ∈ p3, x.block < W.heap.size := by obtain ⟨m, hm⟩ := k3; exact DataW.trod_lt m _ _ _ hm
  obtain ⟨l3, w3, b3⟩ := open_rows (hval 3 22 v3 rfl rfl) h3
  clear hA0 hval0
  refine (walk a0 a1 a2 v3 l3 W w0 w1 w2 w3 b3).mono fun e W' ⟨he, bel⟩ => ?_
  subst he
  exact ⟨_, rfl, _, _, _, [], _, [], hW', trodAll_mk1 (shut_bool Tryd.underlying4 _), (trodAll_cons_mk (Below.trod laidOut (by kernel_rfl) (of_decide_eq_true (by kernel_rfl)) k0 bel lt0) (trodAll_cons_mk (Below.trod laidOut (by kernel_rfl) (of_decide_eq_true (by kernel_rfl)) k1 bel lt1) (trodAll_cons_mk (Below.trod laidOut (by kernel_rfl) (of_decide_eq_true (by kernel_rfl)) k2 bel lt2) (trodAll_cons_mk (Below.trod laidOut (by kernel_rfl) (of_decide_eq_true (by kernel_rfl)) k3 bel lt3) trodAll_mk0)))), rfl, bel.frame _, fun h => by cases h⟩

theorem over : Rows.varsSetRow.holds Tryd.pinned (OpenSpec.ofChange Rows.varsSetSpec) :=
  OpenClaim.holds_of_wide 3 Tryd.f3 rfl rfl rfl rfl rfl rfl rfl ⟨rfl, rfl, rfl, rfl, rfl⟩ rfl rfl rfl rfl rfl (by kernel_rfl) Tryd.func3 (by kernel_rfl)
    (of_decide_eq_true (by kernel_rfl)) (by unfold Func.isWrapper; first | (rw [if_pos (by decide +kernel)]; kernel_rfl) | (rw [if_neg (by decide +kernel)]; exact ⟨rfl, rfl⟩))
    (fun os started H enc _ => lifted os started H enc)

set_option maxRecDepth 100000 in
theorem proved : Rows.VarsSetCardSaid :=
  Claim7.holds_tied_plain_at .later [] [.data, .data, .data] true (true, "ad88b18fa5cecbf30a26213c9b87035bcf4c1f531589068041e55abbb04c666c") false
    over (fun _ h => by cases h) (by kernel_rfl) (fun _ h => by cases h) varsSet_row_tie rfl ⟨rfl, rfl⟩ (by kernel_rfl) rfl
    (fun f fn hf hfn => by
      obtain rfl : f = 3 := Option.some.inj ((show Tryd.prog.funcNamed "gimlet/gimletlaw23.VarsSet" = some 3 by kernel_rfl).symm.trans hf) |>.symm
      obtain rfl : fn = Tryd.f3 := (Option.some.inj (Tryd.func3.symm.trans hfn)).symm
      refine ⟨by kernel_rfl, fun j t ht => ?_⟩
      rw [Tryd.params3] at ht
      have hm := Array.mem_of_getElem? ht
      simp at hm
      rcases hm with rfl | rfl
      all_goals first | exact (show Tryd.prog.wantsStandIn 9 = false by kernel_rfl) | exact (show Tryd.prog.wantsStandIn 22 = false by kernel_rfl))
    (by kernel_rfl)
end Go.Proofs.YtmjadcjpgcbalaaDoor.varsSet
