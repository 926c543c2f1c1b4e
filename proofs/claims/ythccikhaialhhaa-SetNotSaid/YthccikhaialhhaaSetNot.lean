/- Not turns the answer; fold adds, and takes none away; what has no letters is in it or not, whatever fold is. Conditions: none beyond the form's own. -/
import Derived.Test.YthccikhaialhhaaRows
import Derived.Test.YthccikhaialhhaaArgs
import Derived.Test.YthccikhaialhhaaRowK
import Derived.Test.YthccikhaialhhaaRowArgs
namespace Go.Proofs.Ythccikhaialhhaa.setNot
open Go.Proofs.Ythccikhaialhhaa
open Go.ChangeShapes Go.WideShapes Go.ChangeAt Go.RowKit Go.Deep
open Go.ChangeMaps (open_string shut_string)
set_option linter.unusedVariables false

theorem own : ownKnob Try.prog.godebug = none := by kernel_rfl
theorem laidOut : laidOutB Try.prog = true := by kernel_rfl
-- opt:16000000
open SetM
attribute [local go_sem ↓] Go.wp_at_zero Go.wp_at_succ
attribute [local go_sem] lt_bl le_bl
set_option maxRecDepth 100000 in
set_option maxHeartbeats 16000000 in
theorem walk (a0 : Value) (l0 : List SetM.Rw) (a1 : Bool) (a2 : ByteArray) (w : World) (w0 : RwAt w a0 l0) (b0 : ∀ s ∈ l0, WfR s) (w2 : a2.size ≤ maxLen) :
    Calls Try.prog 7 #[a0, .bool a1, .string a2] w fun e w' => e = .returned (.bool true) ∧ Below w.heap.size w w' := by
  have HB := hide b0
  obtain ⟨aA, cA, rfl⟩ := rwat_len w0
  have W0 := hide w0
  clear w0 b0
  go_enter Try.func7, Try.ntmps7
  go_wp2_with fail
  refine (much_any _ l0 20 200 _ W0.out (by omega) (by omega) (fun s hs => HB.out s hs)).mono ?_
  rintro e w1 ⟨r, rfl, hb1, HM⟩
  have W1 := hide (rwat_below W0.out hb1)
  cases r
  · obtain ⟨hm1, hm2⟩ := HM.out rfl
    have HSH := hide (show ∀ s ∈ l0, Short s from fun s hs => ⟨by have := (hm2 s hs).1; omega, by have := (hm2 s hs).2; omega⟩)
    have HS2 := hide hm2
    clear hm2 HM W0 HB
    by_cases hc : a2.size ≤ 20
    · obtain ⟨q, hq⟩ : ∃ q, hasF l0 false a1 a2 = q := ⟨_, rfl⟩
      obtain ⟨q0, hq0⟩ : ∃ q, hasF l0 false false a2 = q := ⟨_, rfl⟩
      obtain ⟨q1, hq1⟩ : ∃ q, hasF l0 false true a2 = q := ⟨_, rfl⟩
      obtain ⟨q2, hq2⟩ : ∃ q, hasF l0 false (!a1) a2 = q := ⟨_, rfl⟩
      obtain ⟨d, hd⟩ : ∃ d, mapS downB a2 = d := ⟨_, rfl⟩
      obtain ⟨u, hu⟩ : ∃ u, mapS upB a2 = u := ⟨_, rfl⟩
      have hqn : hasF l0 true a1 a2 = !q := by rw [← hq]; unfold hasF; cases inB l0 a2 <;> cases a1 <;> cases inB l0 (mapS downB a2) <;> cases inB l0 (mapS upB a2) <;> rfl
      have h01 : q0 = true → q1 = true := fun h => by
        rw [← hq1]; rw [← hq0] at h; unfold hasF at h ⊢
        cases h0 : inB l0 a2
        · rw [h0] at h; cases h
        · rfl
      have hsame : d = a2 → u = a2 → q2 = q := fun h1 h2 => by
        rw [← hq, ← hq2]; unfold hasF; rw [hd, hu, h1, h2]; cases inB l0 a2 <;> cases a1 <;> rfl
      have HQ := hide hq
      have HQ0 := hide hq0
      have HQ1 := hide hq1
      have HQ2 := hide hq2
      have HQN := hide hqn
      have H01 := hide h01
      have HSAME := hide hsame
      have HD := hide hd
      have HU := hide hu
      clear hq hq0 hq1 hq2 hqn h01 hsame hd hu
      go_wp2_with fail
      refine (hass_any _ l0 false a1 a2 q _ W1.out (by omega) (by omega) HQ.out).mono ?_
      rintro e w2 ⟨rfl, hb2⟩
      have W2 := hide (rwat_below W1.out hb2)
      go_wp2_with fail
      refine (hass_any _ l0 true a1 a2 (!q) _ W2.out (by omega) (by omega) HQN.out).mono ?_
      rintro e w3 ⟨rfl, hb3⟩
      have W3 := hide (rwat_below W2.out hb3)
      have hnq : ((!q) == q) = false := by cases q <;> rfl
      have hbA := bl_trans (bl_trans hb1 hb2) hb3
      go_wp2_with fail
      refine (hass_any _ l0 false false a2 q0 _ W3.out (by omega) (by omega) HQ0.out).mono ?_
      rintro e w4 ⟨rfl, hb4⟩
      have W4 := hide (rwat_below W3.out hb4)
      have hbB := bl_trans hbA hb4
      by_cases hd1 : d = a2
      · have e1 : (d.toList == a2.toList) = true := by rw [hd1]; simp
        by_cases hu1 : u = a2
        · have e2 : (u.toList == a2.toList) = true := by rw [hu1]; simp
          have HS := hide (HSAME.out hd1 hu1)
          clear hd1 hu1 HSAME
          cases q0
          · have W5 := W4
            have hbC := hbB
            go_wp2_with fail
            refine (rfolde_any a2 d _ (by omega) HD.out).mono ?_
            rintro e w6 ⟨rfl, hb6⟩
            have W6 := hide (rwat_below W5.out hb6)
            have hbD := bl_trans hbC hb6
            go_wp2_with fail
            refine (ruppere_any a2 u _ (by omega) HU.out).mono ?_
            rintro e w7 ⟨rfl, hb7⟩
            have W7 := hide (rwat_below W6.out hb7)
            have hbE := bl_trans hbD hb7
            obtain rfl := HS.out
            go_wp2_with fail
            refine (hass_any _ l0 false (!a1) a2 q2 _ W7.out (by omega) (by omega) HQ2.out).mono ?_
            rintro e w8 ⟨rfl, hb8⟩
            go_wp2_with fail
            refine (awake12_any _).mono ?_
            rintro e wz ⟨rfl, hbz⟩
            go_wp2
            go_ret
            exact ⟨rfl, bl_trans (bl_trans hbE hb8) hbz⟩
          · obtain rfl := H01.out rfl
            go_wp2_with fail
            refine (hass_any _ l0 false true a2 true _ W4.out (by omega) (by omega) HQ1.out).mono ?_
            rintro e w5 ⟨rfl, hb5⟩
            have W5 := hide (rwat_below W4.out hb5)
            have hbC := bl_trans hbB hb5
            go_wp2_with fail
            refine (rfolde_any a2 d _ (by omega) HD.out).mono ?_
            rintro e w6 ⟨rfl, hb6⟩
            have W6 := hide (rwat_below W5.out hb6)
            have hbD := bl_trans hbC hb6
            go_wp2_with fail
            refine (ruppere_any a2 u _ (by omega) HU.out).mono ?_
            rintro e w7 ⟨rfl, hb7⟩
            have W7 := hide (rwat_below W6.out hb7)
            have hbE := bl_trans hbD hb7
            obtain rfl := HS.out
            go_wp2_with fail
            refine (hass_any _ l0 false (!a1) a2 q2 _ W7.out (by omega) (by omega) HQ2.out).mono ?_
            rintro e w8 ⟨rfl, hb8⟩
            go_wp2_with fail
            refine (awake12_any _).mono ?_
            rintro e wz ⟨rfl, hbz⟩
            go_wp2
            go_ret
            exact ⟨rfl, bl_trans (bl_trans hbE hb8) hbz⟩
        · have e2 : (u.toList == a2.toList) = false := by
            have := eqB_d u a2
            simp only [hu1, decide_false] at this; exact this
          clear hd1 hu1 HSAME
          cases q0
          · have W5 := W4
            have hbC := hbB
            go_wp2_with fail
            refine (rfolde_any a2 d _ (by omega) HD.out).mono ?_
            rintro e w6 ⟨rfl, hb6⟩
            have W6 := hide (rwat_below W5.out hb6)
            have hbD := bl_trans hbC hb6
            go_wp2_with fail
            refine (ruppere_any a2 u _ (by omega) HU.out).mono ?_
            rintro e w7 ⟨rfl, hb7⟩
            have W7 := hide (rwat_below W6.out hb7)
            have hbE := bl_trans hbD hb7
            go_wp2_with fail
            refine (awake12_any _).mono ?_
            rintro e wz ⟨rfl, hbz⟩
            go_wp2
            go_ret
            exact ⟨rfl, bl_trans hbE hbz⟩
          · obtain rfl := H01.out rfl
            go_wp2_with fail
            refine (hass_any _ l0 false true a2 true _ W4.out (by omega) (by omega) HQ1.out).mono ?_
            rintro e w5 ⟨rfl, hb5⟩
            have W5 := hide (rwat_below W4.out hb5)
            have hbC := bl_trans hbB hb5
            go_wp2_with fail
            refine (rfolde_any a2 d _ (by omega) HD.out).mono ?_
            rintro e w6 ⟨rfl, hb6⟩
            have W6 := hide (rwat_below W5.out hb6)
            have hbD := bl_trans hbC hb6
            go_wp2_with fail
            refine (ruppere_any a2 u _ (by omega) HU.out).mono ?_
            rintro e w7 ⟨rfl, hb7⟩
            have W7 := hide (rwat_below W6.out hb7)
            have hbE := bl_trans hbD hb7
            go_wp2_with fail
            refine (awake12_any _).mono ?_
            rintro e wz ⟨rfl, hbz⟩
            go_wp2
            go_ret
            exact ⟨rfl, bl_trans hbE hbz⟩
      · have e1 : (d.toList == a2.toList) = false := by
          have := eqB_d d a2
          simp only [hd1, decide_false] at this; exact this
        clear hd1 HSAME
        cases q0
        · have W5 := W4
          have hbC := hbB
          go_wp2_with fail
          refine (rfolde_any a2 d _ (by omega) HD.out).mono ?_
          rintro e w6 ⟨rfl, hb6⟩
          have W6 := hide (rwat_below W5.out hb6)
          have hbD := bl_trans hbC hb6
          go_wp2_with fail
          refine (awake12_any _).mono ?_
          rintro e wz ⟨rfl, hbz⟩
          go_wp2
          go_ret
          exact ⟨rfl, bl_trans hbD hbz⟩
        · obtain rfl := H01.out rfl
          go_wp2_with fail
          refine (hass_any _ l0 false true a2 true _ W4.out (by omega) (by omega) HQ1.out).mono ?_
          rintro e w5 ⟨rfl, hb5⟩
          have W5 := hide (rwat_below W4.out hb5)
          have hbC := bl_trans hbB hb5
          go_wp2_with fail
          refine (rfolde_any a2 d _ (by omega) HD.out).mono ?_
          rintro e w6 ⟨rfl, hb6⟩
          have W6 := hide (rwat_below W5.out hb6)
          have hbD := bl_trans hbC hb6
          go_wp2_with fail
          refine (awake12_any _).mono ?_
          rintro e wz ⟨rfl, hbz⟩
          go_wp2
          go_ret
          exact ⟨rfl, bl_trans hbD hbz⟩
    · go_wp2_with fail
      refine (awake12_any _).mono ?_
      rintro e wz ⟨rfl, hbz⟩
      go_wp2
      go_ret
      exact ⟨rfl, bl_trans hb1 hbz⟩
  · go_wp2_with fail
    refine (awake12_any _).mono ?_
    rintro e wz ⟨rfl, hbz⟩
    go_wp2
    go_ret
    exact ⟨rfl, bl_trans hb1 hbz⟩

set_option maxRecDepth 100000 in
theorem lifted (os : Os) (started : os.Started) (H : Type) (enc : TypeId × Value → H) :
    ReturnsInHanded {} Try.checked os 7 .any (Rows.setNotSpec.pre6 enc Try.prog Try.f7 Rows.setNotRow.domain false) (Rows.setNotSpec.post enc Try.prog Try.f7 false true false false) := by
  refine returnsInHanded_of_change (C := Try.checked) own started (by kernel_rfl) Try.func7
    (ChangeSpec.witness6 (enc := enc) (C := Try.checked) false ⟨#[], #[.slice none 0 0, .bool false, .string ByteArray.empty], []⟩ 8 (by kernel_rfl) (by kernel_rfl) (by kernel_rfl) (by kernel_rfl)) ?_
  intro W base args ds gs before hval0 hW hcnd _
  have hval : ∀ (j : Nat) t v, Try.f7.params[j]? = some t → args[j]? = some v → Value.okWide Try.prog W .any base t v := hval0
  have hW' := hW
  obtain ⟨p, q, hA0, hV, rfl, hfz, hnd⟩ := hW
  have hA : DataW.TrodAll enc Try.prog W 0 (fun _ => true) true Try.f7.params.toList args.toList ds p := hA0
  rw [Try.params7] at hA hval
  obtain ⟨v0, vs0, d0, ds0, p0, q0, hargs, rfl, rfl, h0, r0⟩ := trodAll_cons hA
  obtain ⟨v1, vs1, d1, ds1, p1, q1, rfl, rfl, rfl, h1, r1⟩ := trodAll_cons r0
  obtain ⟨v2, vs2, d2, ds2, p2, q2, rfl, rfl, rfl, h2, r2⟩ := trodAll_cons r1
  obtain ⟨rfl, rfl, rfl⟩ := trodAll_nil r2
  obtain rfl : args = #[v0, v1, v2] := by cases args; simp_all
  obtain ⟨rfl, rfl⟩ := trodVars_none hV
  have k0 := h0
  have lt0 : ∀ x ∈ p0, x.block < W.heap.size := by obtain ⟨m, hm⟩ := k0; exact DataW.trod_lt m _ _ _ hm
  obtain ⟨l0, w0, b0⟩ := open_rows (hval 0 22 v0 rfl rfl) h0
  have k1 := h1
  have lt1 : ∀ x ∈ p1, x.block < W.heap.size := by obtain ⟨m, hm⟩ := k1; exact DataW.trod_lt m _ _ _ hm
  obtain ⟨a1, rfl, hd1, hp1⟩ := open_bool Try.underlying4 (hval 1 4 v1 rfl rfl) h1
  have k2 := h2
  have lt2 : ∀ x ∈ p2, x.block < W.heap.size := by obtain ⟨m, hm⟩ := k2; exact DataW.trod_lt m _ _ _ hm
  obtain ⟨a2, rfl, hd2, hp2, w2⟩ := open_string Try.underlying9 (hval 2 9 v2 rfl rfl) h2
  clear hA0 hval0
  refine (walk v0 l0 a1 a2 W w0 b0 w2).mono fun e W' ⟨he, bel⟩ => ?_
  subst he
  exact ⟨_, rfl, _, _, _, [], _, [], hW', trodAll_mk1 (shut_bool Try.underlying4 _), (trodAll_cons_mk (Below.trod laidOut (by kernel_rfl) (of_decide_eq_true (by kernel_rfl)) k0 bel lt0) (trodAll_cons_mk (Below.trod laidOut (by kernel_rfl) (of_decide_eq_true (by kernel_rfl)) k1 bel lt1) (trodAll_cons_mk (Below.trod laidOut (by kernel_rfl) (of_decide_eq_true (by kernel_rfl)) k2 bel lt2) trodAll_mk0))), rfl, bel.frame _, fun h => by cases h⟩

theorem over : Rows.setNotRow.holds Try.pinned (OpenSpec.ofChange Rows.setNotSpec) :=
  OpenClaim.holds_of_wide 7 Try.f7 rfl rfl rfl rfl rfl rfl rfl ⟨rfl, rfl, rfl, rfl, rfl⟩ rfl rfl rfl rfl rfl (by kernel_rfl) Try.func7 (by kernel_rfl)
    (of_decide_eq_true (by kernel_rfl)) (by unfold Func.isWrapper; first | (rw [if_pos (by decide +kernel)]; kernel_rfl) | (rw [if_neg (by decide +kernel)]; exact ⟨rfl, rfl⟩))
    (fun os started H enc _ => lifted os started H enc)

theorem proved : Rows.SetNotSaid := over
end Go.Proofs.Ythccikhaialhhaa.setNot
