/- Any edits of any text: as the document's. Conditions: none beyond the form's own. -/
import Derived.Test.YtbaaciekjpadfaaRows
import Derived.Test.YtbaaciekjpadfaaArgs
import Derived.Test.YtbaaciekjpadfaaRefC
import Derived.Test.YtbaaciekjpadfaaRefD
namespace Go.Proofs.Ytbaaciekjpadfaa.changeTells
open Go.Proofs.Ytbaaciekjpadfaa
open Go.ChangeShapes Go.WideShapes Go.ChangeAt Go.RowKit Go.Deep
open Go.ChangeMaps (open_string shut_string)
set_option linter.unusedVariables false

theorem own : ownKnob Try.prog.godebug = none := by kernel_rfl
theorem laidOut : laidOutB Try.prog = true := by kernel_rfl
-- opt:8000000
open SpanM EdM
attribute [local go_sem ↓] Go.wp_at_zero Go.wp_at_succ
theorem own_len {w : World} {base : Nat} {v : Value} {n : Nat} {l : List Ed} (h : w.ownsRow base 45 3 v n (flatE l)) (hn : n = l.length) : EdAt w v l := by subst hn; exact own_edat h
theorem edat_nil (w : World) : EdAt w (.slice none 0 0) [] := .inl ⟨rfl, rfl⟩
set_option maxRecDepth 100000 in
set_option maxHeartbeats 8000000 in
theorem walk (a0 : ByteArray) (a1 : Value) (l1 : List EdM.Ed) (w : World) (w0 : a0.size ≤ maxLen) (w1 : EdAt w a1 l1) (b1 : ∀ e ∈ l1, WfE e) :
    Calls Try.prog 3 #[.string a0, a1] w fun e w' => e = .returned (.bool true) ∧ Below w.heap.size w w' := by
  by_cases hin : a0.size ≤ 200
  · have g1 : decide (200 < (a0.size : Int)) = false := by simp; omega
    have W1 := hide w1
    have hP := hide (edat_long w1)
    clear w1 w0
    go_enter Try.func3, Try.ntmps3
    go_wp2_with fail
    refine (much_any a1 l1 _ W1.out hP.out).mono ?_
    rintro e u1 ⟨r, rfl, hr, hb1⟩
    have HE1 := hide (edat_below W1.out hb1)
    cases r
    · obtain ⟨hll, hsm⟩ := hr rfl
      have HSL := hide (fun e he => Nat.le_trans (hsm e he) (by decide) : ∀ e ∈ l1, e.2.size ≤ 70000)
      have hb11 : Below u1.heap.size u1 u1 := bl_refl u1
      have hsl : (sortE l1).length = l1.length := sortE_len l1
      have HSOL := hide hsl
      obtain ⟨q, hq⟩ : ∃ q, mayE a0.size l1 = q := ⟨_, rfl⟩
      have HME := hide hq
      have hqq : (q == q) = true := by simp
      clear hr hsm hsl hP
      by_cases h0 : q = 0
      · subst h0
        have HFL := hide (fine_of (by omega) hq)
        clear hq
        obtain ⟨R, hR⟩ : ∃ R, appR (bts a0) (sortE l1) = R := ⟨_, rfl⟩
        obtain ⟨B, hB⟩ : ∃ B, inv (bts a0) 0 (grp (sortE l1)) = B := ⟨_, rfl⟩
        have hBl : B.length ≤ 20 := by rw [← hB, inv_len]; have := grp_le (sortE l1); rw [sortE_len] at this; omega
        have HR := hide hR
        have HB := hide hB
        have HGL : Hid ((grp (sortE l1)).length = B.length) := hide (by rw [← hB, inv_len])
        clear hR hB
        go_wp2_with fail
        refine (apply_fine a0 R _ l1 _ HE1.out hll HSL.out (by omega) HFL.out HR.out).mono ?_
        rintro e u2 ⟨rfl, hb2⟩
        have hb12 := bl_trans hb11 hb2
        go_wp2_with fail
        refine (r6apply_yes a0 R _ l1 _ (edat_below HE1.out hb12) hll HSL.out (by omega) HFL.out HR.out).mono ?_
        rintro e u3 ⟨rfl, hb3⟩
        have hb13 := bl_trans hb12 hb3
        go_wp2_with fail
        refine (back_fine a0 B _ l1 _ (edat_below HE1.out hb13) hll HSL.out (by omega) HFL.out HB.out).mono ?_
        rintro e u4 ⟨vb, rfl, hb4, ho4⟩
        have HB4 := hide (own_edat ho4)
        have hb14 := bl_trans hb13 hb4
        clear ho4
        go_wp2_with fail
        refine (r6back_yes a0 _ l1 _ (edat_below HE1.out hb14) hll HSL.out (by omega) HFL.out).mono ?_
        rintro e u5 ⟨vc, rfl, hb5, ho5⟩
        have HC5 := hide (own_len (l := B) (by rw [← HB.out]; exact ho5) HGL.out)
        have HB5 := hide (edat_below HB4.out hb5)
        have hb15 := bl_trans hb14 hb5
        clear ho5 HB4
        go_wp2_with fail
        refine (may6e_any a0.size 0 _ l1 _ (edat_below HE1.out hb15) (by omega) HSL.out (by omega) HME.out).mono ?_
        rintro e u6 ⟨rfl, hb6⟩
        have hb16 := bl_trans hb15 hb6
        go_wp2_with fail
        refine (r6may_any a0.size 0 _ l1 _ (edat_below HE1.out hb16) (by omega) HSL.out (by omega) HME.out).mono ?_
        rintro e u7 ⟨rfl, hb7⟩
        have hb17 := bl_trans hb16 hb7
        go_wp2_with fail
        refine (sortE_any _ l1 _ (edat_below HE1.out hb17) hll).mono ?_
        rintro e u8 ⟨vs, rfl, hb8, ho8⟩
        have HS8 := hide (own_len (l := sortE l1) ho8 HSOL.out.symm)
        have hb18 := bl_trans hb17 hb8
        clear ho8
        go_wp2_with fail
        refine (r6sort_any _ l1 _ (edat_below HE1.out hb18) (by omega)).mono ?_
        rintro e u9 ⟨vt, rfl, hb9, ho9⟩
        have HT9 := hide (own_len (l := sortE l1) ho9 HSOL.out.symm)
        have hb19 := bl_trans hb18 hb9
        clear ho9
        go_wp2_with fail
        refine (edits_any _ _ (sortE l1) (sortE l1) true _ (edat_below HS8.out hb9) HT9.out (by rw [HSOL.out]; omega) (by rw [HSOL.out]; omega) (by simp)).mono ?_
        rintro e uA ⟨rfl, hbA⟩
        have hb1A := bl_trans hb19 hbA
        clear HS8 HT9
        have hb5A := bl_trans hb6 (bl_trans hb7 (bl_trans hb8 (bl_trans hb9 hbA)))
        go_wp2_with fail
        refine (edits_any _ _ B B true _ (edat_below HB5.out hb5A) (edat_below HC5.out hb5A) (by first | omega | simp) (by first | omega | simp) (by simp)).mono ?_
        rintro e uB ⟨rfl, hbB⟩
        have hb1B := bl_trans hb1A hbB
        go_wp2_with fail
        refine (awake6_any _).mono ?_
        rintro e uC ⟨rfl, hbC⟩
        go_wp2
        go_ret
        exact ⟨rfl, bl_trans hb1 (bl_trans hb1B hbC)⟩
      · clear hq
        go_wp2_with fail
        refine (apply_no a0 q _ l1 _ HE1.out hll HSL.out (by omega) HME.out h0).mono ?_
        rintro e u2 ⟨rfl, hb2⟩
        have hb12 := bl_trans hb11 hb2
        go_wp2_with fail
        refine (r6apply_no a0 q _ l1 _ (edat_below HE1.out hb12) hll HSL.out (by omega) HME.out h0).mono ?_
        rintro e u3 ⟨rfl, hb3⟩
        have hb13 := bl_trans hb12 hb3
        go_wp2_with fail
        refine (back_no a0 q _ l1 _ (edat_below HE1.out hb13) hll HSL.out (by omega) HME.out h0).mono ?_
        rintro e u4 ⟨rfl, hb4⟩
        have hb14 := bl_trans hb13 hb4
        go_wp2_with fail
        refine (r6back_no a0 q _ l1 _ (edat_below HE1.out hb14) hll HSL.out (by omega) HME.out h0).mono ?_
        rintro e u5 ⟨rfl, hb5⟩
        have hb15 := bl_trans hb14 hb5
        go_wp2_with fail
        refine (may6e_any a0.size q _ l1 _ (edat_below HE1.out hb15) (by omega) HSL.out (by omega) HME.out).mono ?_
        rintro e u6 ⟨rfl, hb6⟩
        have hb16 := bl_trans hb15 hb6
        go_wp2_with fail
        refine (r6may_any a0.size q _ l1 _ (edat_below HE1.out hb16) (by omega) HSL.out (by omega) HME.out).mono ?_
        rintro e u7 ⟨rfl, hb7⟩
        have hb17 := bl_trans hb16 hb7
        go_wp2_with fail
        refine (sortE_any _ l1 _ (edat_below HE1.out hb17) hll).mono ?_
        rintro e u8 ⟨vs, rfl, hb8, ho8⟩
        have HS8 := hide (own_len (l := sortE l1) ho8 HSOL.out.symm)
        have hb18 := bl_trans hb17 hb8
        clear ho8
        go_wp2_with fail
        refine (r6sort_any _ l1 _ (edat_below HE1.out hb18) (by omega)).mono ?_
        rintro e u9 ⟨vt, rfl, hb9, ho9⟩
        have HT9 := hide (own_len (l := sortE l1) ho9 HSOL.out.symm)
        have hb19 := bl_trans hb18 hb9
        clear ho9
        go_wp2_with fail
        refine (edits_any _ _ (sortE l1) (sortE l1) true _ (edat_below HS8.out hb9) HT9.out (by rw [HSOL.out]; omega) (by rw [HSOL.out]; omega) (by simp)).mono ?_
        rintro e uA ⟨rfl, hbA⟩
        have hb1A := bl_trans hb19 hbA
        clear HS8 HT9
        have hb5A := bl_trans hb6 (bl_trans hb7 (bl_trans hb8 (bl_trans hb9 hbA)))
        go_wp2_with fail
        refine (edits_any _ _ [] [] true _ (edat_nil _) (edat_nil _) (by first | omega | simp) (by first | omega | simp) (by simp)).mono ?_
        rintro e uB ⟨rfl, hbB⟩
        have hb1B := bl_trans hb1A hbB
        go_wp2_with fail
        refine (awake6_any _).mono ?_
        rintro e uC ⟨rfl, hbC⟩
        go_wp2
        go_ret
        exact ⟨rfl, bl_trans hb1 (bl_trans hb1B hbC)⟩
    · clear hr hP W1
      go_wp2_with fail
      refine (awake6_any _).mono ?_
      rintro e w1 ⟨rfl, hb2⟩
      go_wp2
      go_ret
      exact ⟨rfl, bl_trans hb1 hb2⟩
  · have g1 : decide (200 < (a0.size : Int)) = true := by simp; omega
    clear hin
    go_enter Try.func3, Try.ntmps3
    go_wp2_with fail
    refine (awake6_any _).mono ?_
    rintro e w1 ⟨rfl, hb1⟩
    go_wp2
    go_ret
    exact ⟨rfl, hb1⟩

set_option maxRecDepth 100000 in
theorem lifted (os : Os) (started : os.Started) (H : Type) (enc : TypeId × Value → H) :
    ReturnsInHanded {} Try.checked os 3 .any (Rows.changeTellsSpec.pre6 enc Try.prog Try.f3 Rows.changeTellsRow.domain false) (Rows.changeTellsSpec.post enc Try.prog Try.f3 false true false false) := by
  refine returnsInHanded_of_change (C := Try.checked) own started (by kernel_rfl) Try.func3
    (ChangeSpec.witness6 (enc := enc) (C := Try.checked) false ⟨#[], #[.string ByteArray.empty, .slice none 0 0], []⟩ 8 (by kernel_rfl) (by kernel_rfl) (by kernel_rfl) (by kernel_rfl)) ?_
  intro W base args ds gs before hval0 hW hcnd _
  have hval : ∀ (j : Nat) t v, Try.f3.params[j]? = some t → args[j]? = some v → Value.okWide Try.prog W .any base t v := hval0
  have hW' := hW
  obtain ⟨p, q, hA0, hV, rfl, hfz, hnd⟩ := hW
  have hA : DataW.TrodAll enc Try.prog W 0 (fun _ => true) true Try.f3.params.toList args.toList ds p := hA0
  rw [Try.params3] at hA hval
  obtain ⟨v0, vs0, d0, ds0, p0, q0, hargs, rfl, rfl, h0, r0⟩ := trodAll_cons hA
  obtain ⟨v1, vs1, d1, ds1, p1, q1, rfl, rfl, rfl, h1, r1⟩ := trodAll_cons r0
  obtain ⟨rfl, rfl, rfl⟩ := trodAll_nil r1
  obtain rfl : args = #[v0, v1] := by cases args; simp_all
  obtain ⟨rfl, rfl⟩ := trodVars_none hV
  have k0 := h0
  have lt0 : ∀ x ∈ p0, x.block < W.heap.size := by obtain ⟨m, hm⟩ := k0; exact DataW.trod_lt m _ _ _ hm
  obtain ⟨a0, rfl, hd0, hp0, w0⟩ := open_string Try.underlying9 (hval 0 9 v0 rfl rfl) h0
  have k1 := h1
  have lt1 : ∀ x ∈ p1, x.block < W.heap.size := by obtain ⟨m, hm⟩ := k1; exact DataW.trod_lt m _ _ _ hm
  obtain ⟨l1, w1, b1⟩ := open_edits (hval 1 22 v1 rfl rfl) h1
  clear hA0 hval0
  refine (walk a0 v1 l1 W w0 w1 b1).mono fun e W' ⟨he, bel⟩ => ?_
  subst he
  exact ⟨_, rfl, _, _, _, [], _, [], hW', trodAll_mk1 (shut_bool Try.underlying4 _), (trodAll_cons_mk (Below.trod laidOut (by kernel_rfl) (of_decide_eq_true (by kernel_rfl)) k0 bel lt0) (trodAll_cons_mk (Below.trod laidOut (by kernel_rfl) (of_decide_eq_true (by kernel_rfl)) k1 bel lt1) trodAll_mk0)), rfl, bel.frame _, fun h => by cases h⟩

theorem over : Rows.changeTellsRow.holds Try.pinned (OpenSpec.ofChange Rows.changeTellsSpec) :=
  OpenClaim.holds_of_wide 3 Try.f3 rfl rfl rfl rfl rfl rfl rfl ⟨rfl, rfl, rfl, rfl, rfl⟩ rfl rfl rfl rfl rfl (by kernel_rfl) Try.func3 (by kernel_rfl)
    (of_decide_eq_true (by kernel_rfl)) (by unfold Func.isWrapper; first | (rw [if_pos (by decide +kernel)]; kernel_rfl) | (rw [if_neg (by decide +kernel)]; exact ⟨rfl, rfl⟩))
    (fun os started H enc _ => lifted os started H enc)

theorem proved : Rows.ChangeTellsSaid := over
end Go.Proofs.Ytbaaciekjpadfaa.changeTells
