/- What is out of range changes nothing and takes no piece. Condition: none but the law's own. Conditions: none beyond the form's own. -/
import Derived.Test.YtidfpnedbcaicaaRows
import Derived.Test.YtidfpnedbcaicaaArgs
import Derived.Test.YtidfpnedbcaicaaRopX
namespace Go.Proofs.Ytidfpnedbcaicaa.ropeRefuses
open Go.Proofs.Ytidfpnedbcaicaa
open Go.ChangeShapes Go.WideShapes Go.ChangeAt Go.RowKit Go.Deep
open Go.ChangeMaps (open_string shut_string)
set_option linter.unusedVariables false

theorem own : ownKnob Try.prog.godebug = none := by kernel_rfl
theorem laidOut : laidOutB Try.prog = true := by kernel_rfl
-- opt:8000000
attribute [local go_sem ↓] Go.wp_at_zero Go.wp_at_succ
attribute [local go_sem] eqg_pd
attribute [local go_sem ↓] neq_pd
set_option maxRecDepth 100000 in
set_option maxHeartbeats 8000000 in
theorem walk (a0 : ByteArray) (a1 : Int) (a2 : Int) (w : World) (w0 : a0.size ≤ maxLen) (w1 : (Lit.int .i64 a1).wf = true) (w2 : (Lit.int .i64 a2).wf = true) :
    Calls Try.prog 7 #[.string a0, .int .i64 a1, .int .i64 a2] w fun e w' => e = .returned (.bool true) ∧ Below w.heap.size w w' := by
  by_cases hs : a0.size ≤ 300 ∧ ¬ (0 ≤ a1 ∧ a1 ≤ a0.size)
  · obtain ⟨h0, hat⟩ := hs
    have g0 : decide (300 < (a0.size : Int)) = false := decide_eq_false (by omega)
    have hg : decide (0 ≤ a1) = false ∨ (decide (0 ≤ a1) = true ∧ decide (a1 ≤ (a0.size : Int)) = false) := by
      by_cases h : 0 ≤ a1
      · exact .inr ⟨decide_eq_true h, decide_eq_false (fun k => hat ⟨h, k⟩)⟩
      · exact .inl (decide_eq_false h)
    have hbad : a1 < 0 ∨ (a0.size : Int) < a1 := by omega
    have HBAD := hide hbad
    clear hat hbad
    rcases hg with g1 | ⟨g1, g2⟩
    all_goals
      go_enter Try.func7, Try.ntmps7
      go_wp2_with fail
      refine (rst_dnew (rst_start w) [3, 1, 4] _ rfl (by decide) (by decide) 3 rfl).mono ?_
      rintro e w1 ⟨d1, b1, rfl, hR1, _⟩
      have HN1 := hide (rst_new1 hR1 (d := d1) (g := b1) (by simp) a0 (by omega))
      clear hR1
      go_wp2_with fail
      refine HN1.out.mono ?_
      rintro e w2 ⟨r, t1, rfl, _, htx, hR2⟩
      have hcr : RpC w2 r d1 t1 := hR2.rp (r, d1, t1) (by simp)
      have hat : t1.At w2 ∧ Fit t1 := hR2.at' (q := (r, d1, t1)) (by simp)
      have hps := t1.ps_le hat.2.ok
      rw [htx.len] at hps
      have hpn : (t1.pd 0).length = t1.ps.length := T.pd_len t1 0
      have HP := hide (pieces_r hcr hat.1 (by omega))
      have HPS := hide hps
      have HPN := hide hpn
      have HR2 := hide hR2
      have HX := hide htx
      clear htx hR2 HN1 hcr hat hps hpn
      go_wp2_with fail
      refine HP.out.mono ?_
      rintro e w3 ⟨v, rfl, hv, hb3⟩
      obtain ⟨aP, cP, rfl⟩ := own_slice hv
      have hpd := own_pdat hv HPN.out.symm
      have hR3 := HR2.out.bl hb3
      have hcr : RpC w3 r d1 t1 := hR3.rp (r, d1, t1) (by simp)
      have hat : t1.At w3 ∧ Fit t1 := hR3.at' (q := (r, d1, t1)) (by simp)
      have HI := hide (insert_no hcr hat.1 a1 ⟨#[120]⟩ (by rw [HX.out.len]; omega) (by decide) 3 (by rw [HX.out.len, if_pos HBAD.out]) (fun h => absurd (by rw [HX.out.len]; exact HBAD.out) h))
      have HD := hide (delete_no hcr hat.1 a1 a2 (by rw [HX.out.len]; unfold mayR; have := HBAD.out; rw [if_pos (by omega)]))
      have HC := hide (cut_no hcr hat.1 a1 (by rw [HX.out.len]; exact HBAD.out))
      have HT := hide (count_no hcr hat.1 a1 (by rw [HX.out.len]; exact HBAD.out))
      have HPD := hide hpd
      have HR3 := hide hR3
      clear hv hpd hR3 hcr hat HP HR2
      go_wp2_with fail
      refine HI.out.mono ?_
      rintro e w4 ⟨rfl, rfl⟩
      go_wp2_with fail
      refine HD.out.mono ?_
      rintro e w4 ⟨rfl, rfl⟩
      go_wp2_with fail
      refine (join_none _ _).mono ?_
      rintro e w4 ⟨rfl, rfl⟩
      go_wp2_with fail
      refine HC.out.mono ?_
      rintro e w4 ⟨rfl, rfl⟩
      go_wp2_with fail
      refine HT.out.mono ?_
      rintro e w4 ⟨rfl, hb4⟩
      clear HI HD HC HT
      go_wp2_with fail
      refine (join_self _ _).mono ?_
      rintro e w5 ⟨rfl, hw5⟩
      have hb5 : Below w3.heap.size w3 w5 := by rw [← hw5]; exact (by repeat (first | exact bl_refl _ | assumption | refine bl_alloc ?_ _ | refine bl_drewN ?_ _ | refine bl_drew ?_ | refine bl_trans ?_ (by assumption)))
      clear hw5
      have hR5 := HR3.out.bl hb5
      have HP := hide (pieces_r (show RpC w5 r d1 t1 from hR5.rp (r, d1, t1) (by simp)) (show t1.At w5 from (hR5.at' (q := (r, d1, t1)) (by simp)).1) (by have := HPS.out; omega))
      have HR5 := hide hR5
      clear hR5
      go_wp2_with fail
      refine HP.out.mono ?_
      rintro e w6 ⟨v, rfl, hv, hb6⟩
      obtain ⟨aQ, cQ, rfl⟩ := own_slice hv
      have hpd := own_pdat hv HPN.out.symm
      have HPE := hide hpd
      have HPD6 := hide (pdat_bl HPD.out (bl_trans hb5 hb6))
      have HR6 := hide (HR5.out.bl hb6)
      clear hv hpd HP HR5 HPD
      generalize hL : t1.pd 0 = L at *
      clear hL
      generalize hN : t1.ps.length = n at *
      clear hN
      go_wp2
      go_loopw [18] (fun i wr => ∃ k : Nat, i = .int .i64 k ∧ k ≤ n ∧ Below w6.heap.size w6 wr) (fun i _ => n - (intOf i).toNat)
      case atStart => exact ⟨0, rfl, Nat.zero_le _, bl_refl _⟩
      case round =>
        obtain ⟨k, rfl, hk, hbl⟩ := hrel
        by_cases hlt : k < n
        · have hkL : k < L.length := by rw [HPN.out]; exact hlt
          rcases HPE.out with h | ⟨g, rfl, hg1, hg2, hg3, hg4⟩
          · subst h; exact absurd hkL (by simp)
          rcases HPD6.out with h | ⟨q, rfl, hq1, hq2, hq3, hq4⟩
          · subst h; exact absurd hkL (by simp)
          obtain ⟨y0, y1, y2⟩ := hg4 k hkL
          obtain ⟨z0, z1, z2⟩ := hq4 k hkL
          have y0 := cell_later hbl y0
          have y1 := cell_later hbl y1
          have y2 := cell_later hbl y2
          have z0 := cell_later hbl z0
          have z1 := cell_later hbl z1
          have z2 := cell_later hbl z2
          unfold maxLen at hg3 hq3
          rw [HPN.out] at hg2 hq2
          generalize L[k] = pc at *
          obtain ⟨x, p, dp⟩ := pc
          simp only at y0 y1 y2 z0 z1 z2
          clear hg4 hq4 hkL
          go_wp2_with (go_quiet (fail))
          refine ⟨?_, by first | (simp [intOf]; done) | (simp [intOf]; omega)⟩
          exact ⟨k + 1, by go_num, by omega, bl_drewN hbl _⟩
        · obtain rfl : k = n := by omega
          go_wp2_with fail
          refine (rst_text (HR6.out.bl hbl) (r := r) (d := d1) (t := t1) (by simp) HX.out (by omega)).mono ?_
          rintro e w7 ⟨rfl, hb7, hR7⟩
          have HR7 := hide hR7
          clear hR7
          go_wp2_with fail
          refine (awake3_any _).mono ?_
          rintro e w8 ⟨rfl, hb8⟩
          have hb := bl_trans HR7.out.bel hb8
          go_wp2
          go_ret
          exact ⟨rfl, hb⟩
  · by_cases h0 : a0.size ≤ 300
    · have g0 : decide (300 < (a0.size : Int)) = false := decide_eq_false (by omega)
      have g1 : decide (0 ≤ a1) = true := decide_eq_true (by omega)
      have g2 : decide (a1 ≤ (a0.size : Int)) = true := decide_eq_true (by omega)
      clear hs
      go_enter Try.func7, Try.ntmps7
      go_wp2_with fail
      refine (awake3_any _).mono ?_
      rintro e w13 ⟨rfl, hb9⟩
      go_wp2
      go_ret
      exact ⟨rfl, hb9⟩
    · have g0 : decide (300 < (a0.size : Int)) = true := decide_eq_true (by omega)
      clear hs
      go_enter Try.func7, Try.ntmps7
      go_wp2_with fail
      refine (awake3_any _).mono ?_
      rintro e w13 ⟨rfl, hb9⟩
      go_wp2
      go_ret
      exact ⟨rfl, hb9⟩

set_option maxRecDepth 100000 in
theorem lifted (os : Os) (started : os.Started) (H : Type) (enc : TypeId × Value → H) :
    ReturnsInHanded {} Try.checked os 7 .any (Rows.ropeRefusesSpec.pre6 enc Try.prog Try.f7 Rows.ropeRefusesRow.domain false) (Rows.ropeRefusesSpec.post enc Try.prog Try.f7 false true false false) := by
  refine returnsInHanded_of_change (C := Try.checked) own started (by kernel_rfl) Try.func7
    (ChangeSpec.witness6 (enc := enc) (C := Try.checked) false ⟨#[], #[.string ByteArray.empty, .int .i64 0, .int .i64 0], []⟩ 8 (by kernel_rfl) (by kernel_rfl) (by kernel_rfl) (by kernel_rfl)) ?_
  intro W base args ds gs before hval0 hW hcnd _
  have hval : ∀ (j : Nat) t v, Try.f7.params[j]? = some t → args[j]? = some v → Value.okWide Try.prog W .any base t v := hval0
  have hW' := hW
  obtain ⟨p, q, hA0, hV, rfl, hfz, hnd⟩ := hW
  have hA : DataW.TrodAll enc Try.prog W 0 (fun _ => true) true Try.f7.params.toList args.toList ds p := hA0
  rw [Try.params7] at hA hval
  obtain ⟨v0, vs0, d0, ds0, p0, q0, hargs, rfl, rfl, h0, r0⟩ := trodAll_cons hA
  obtain ⟨v1, vs1, d1, ds1, p1, q1, rfl, rfl, rfl, h1, r1⟩ := trodAll_cons r0
  obtain ⟨v2, vs2, d2, ds2, p2, q2, rfl, rfl, rfl, h2, r2⟩ := trodAll_cons r1
  obtain ⟨rfl, rfl, rfl⟩ := trodAll_nil r2
  obtain rfl : args = #[v0, v1, v2] := by cases args; simp_all
  obtain ⟨rfl, rfl⟩ := trodVars_none hV
  have k0 := h0
  have lt0 : ∀ x ∈ p0, x.block < W.heap.size := by obtain ⟨m, hm⟩ := k0; exact DataW.trod_lt m _ _ _ hm
  obtain ⟨a0, rfl, hd0, hp0, w0⟩ := open_string Try.underlying9 (hval 0 9 v0 rfl rfl) h0
  have k1 := h1
  have lt1 : ∀ x ∈ p1, x.block < W.heap.size := by obtain ⟨m, hm⟩ := k1; exact DataW.trod_lt m _ _ _ hm
  obtain ⟨a1, rfl, hd1, hp1, w1⟩ := open_int Try.underlying3 (hval 1 3 v1 rfl rfl) h1
  have k2 := h2
  have lt2 : ∀ x ∈ p2, x.block < W.heap.size := by obtain ⟨m, hm⟩ := k2; exact DataW.trod_lt m _ _ _ hm
  obtain ⟨a2, rfl, hd2, hp2, w2⟩ := open_int Try.underlying3 (hval 2 3 v2 rfl rfl) h2
  clear hA0 hval0
  refine (walk a0 a1 a2 W w0 w1 w2).mono fun e W' ⟨he, bel⟩ => ?_
  subst he
  exact ⟨_, rfl, _, _, _, [], _, [], hW', trodAll_mk1 (shut_bool Try.underlying4 _), (trodAll_cons_mk (Below.trod laidOut (by kernel_rfl) (of_decide_eq_true (by kernel_rfl)) k0 bel lt0) (trodAll_cons_mk (Below.trod laidOut (by kernel_rfl) (of_decide_eq_true (by kernel_rfl)) k1 bel lt1) (trodAll_cons_mk (Below.trod laidOut (by kernel_rfl) (of_decide_eq_true (by kernel_rfl)) k2 bel lt2) trodAll_mk0))), rfl, bel.frame _, fun h => by cases h⟩

theorem over : Rows.ropeRefusesRow.holds Try.pinned (OpenSpec.ofChange Rows.ropeRefusesSpec) :=
  OpenClaim.holds_of_wide 7 Try.f7 rfl rfl rfl rfl rfl rfl rfl ⟨rfl, rfl, rfl, rfl, rfl⟩ rfl rfl rfl rfl rfl (by kernel_rfl) Try.func7 (by kernel_rfl)
    (of_decide_eq_true (by kernel_rfl)) (by unfold Func.isWrapper; first | (rw [if_pos (by decide +kernel)]; kernel_rfl) | (rw [if_neg (by decide +kernel)]; exact ⟨rfl, rfl⟩))
    (fun os started H enc _ => lifted os started H enc)

theorem proved : Rows.RopeRefusesSaid := over
end Go.Proofs.Ytidfpnedbcaicaa.ropeRefuses
