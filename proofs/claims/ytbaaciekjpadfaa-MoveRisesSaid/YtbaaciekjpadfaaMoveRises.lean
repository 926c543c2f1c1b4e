/- Offsets stay in their order, right is no less than left, the end goes to the end. Conditions: none beyond the form's own. -/
import Derived.Test.YtbaaciekjpadfaaRows
import Derived.Test.YtbaaciekjpadfaaArgs
import Derived.Test.YtbaaciekjpadfaaEdL
namespace Go.Proofs.Ytbaaciekjpadfaa.moveRises
open Go.Proofs.Ytbaaciekjpadfaa
open Go.ChangeShapes Go.WideShapes Go.ChangeAt Go.RowKit Go.Deep
open Go.ChangeMaps (open_string shut_string)
set_option linter.unusedVariables false

theorem own : ownKnob Try.prog.godebug = none := by kernel_rfl
theorem laidOut : laidOutB Try.prog = true := by kernel_rfl
-- opt:8000000
open SpanM EdM
attribute [local go_sem ↓] Go.wp_at_zero Go.wp_at_succ
set_option maxRecDepth 100000 in
set_option maxHeartbeats 8000000 in
theorem walk (a0 : ByteArray) (a1 : Int) (a2 : Int) (a3 : Value) (l3 : List EdM.Ed) (w : World) (w0 : a0.size ≤ maxLen) (w1 : (Lit.int .i64 a1).wf = true) (w2 : (Lit.int .i64 a2).wf = true) (w3 : EdAt w a3 l3) (b3 : ∀ e ∈ l3, WfE e) :
    Calls Try.prog 8 #[.string a0, .int .i64 a1, .int .i64 a2, a3] w fun e w' => e = .returned (.bool true) ∧ Below w.heap.size w w' := by
  by_cases hin : a0.size ≤ 200
  · have g1 : decide (200 < (a0.size : Int)) = false := by simp; omega
    have W1 := hide w3
    have hP := hide (edat_long w3)
    clear w3 w1 w2
    have hL1 := fun W => low_any a1 (a0.size + 1) W (by omega) (by omega)
    have hL2 := fun W => low_any a2 (a0.size + 1) W (by omega) (by omega)
    have hx := lowN_lt a1 (a0.size + 1) (by omega)
    have hy := lowN_lt a2 (a0.size + 1) (by omega)
    rw [show ((a0.size + 1 : Nat) : Int) = (a0.size : Int) + 1 by omega] at hL1 hL2
    generalize lowN a1 (a0.size + 1) = x at *
    generalize lowN a2 (a0.size + 1) = y at *
    have HL1 := hide hL1
    have HL2 := hide hL2
    clear hL1 hL2
    go_enter Try.func8, Try.ntmps8
    go_wp2_with fail
    refine (apart6_any a0.size a3 l3 _ W1.out (by omega) hP.out).mono ?_
    rintro e w1 ⟨v1, l, rfl, hap, hb1, ho1⟩
    have hll := hap.len
    have HE := hide (own_edat ho1)
    have HG := hide (ap_good hap (by omega) (.refl l))
    have HD := hide (good_D (ap_good hap (by omega) (.refl l)))
    have hfl : ∀ e ∈ l, e.1.1 ≤ e.1.2 := fun e he => (chain_mem hap.chain e he).2.1
    obtain ⟨aE, cE, rfl⟩ := edat_len HE.out
    have hm : ∀ (right : Bool) (a r : Int), (-1099511627776 ≤ a ∧ a ≤ 1099511627776) → ∀ W, EdAt W (.slice aE l.length cE) l → mvR right l a = r → Calls Try.prog 27 #[.int .i64 a, .bool right, .slice aE l.length cE] W fun e w' => e = .returned (.int .i64 r) ∧ Below W.heap.size W w' := fun right a r ha W hW hr =>
      move_good a r right _ l W hW hll HG.out (by omega) (by rw [ap_sort hap (.refl l)]; exact hr)
    have HM := hide hm
    obtain ⟨lo, hlo⟩ : ∃ lo, min (x : Int) (y : Int) = lo := ⟨_, rfl⟩
    obtain ⟨hi, hhi⟩ : ∃ hi, max (x : Int) (y : Int) = hi := ⟨_, rfl⟩
    obtain ⟨n, hn⟩ : ∃ n, grown a0.size l = n := ⟨_, rfl⟩
    have hq1 : 0 ≤ lo := by omega
    have hq2 : lo ≤ hi := by omega
    have hq3 : hi ≤ a0.size := by omega
    have hmin : ∀ c : Bool, (if c = true then lo else lo) = lo := fun c => by simp
    have e1 := mvR_past (n := a0.size) l 0 a0.size hap.chain (fun e he => (chain_mem hap.chain e he).2.2) (by omega)
    have hend : mvR true l a0.size = n := by rw [e1.1, ← hn, grown_add]
    have hbeg : mvR false l 0 = 0 := mvR_ahead' l 0 (fun e he => by have := chain_mem hap.chain e he; omega)
    obtain ⟨A0, hA0⟩ : ∃ r, mvR false l lo = r := ⟨_, rfl⟩
    obtain ⟨B0, hB0⟩ : ∃ r, mvR false l hi = r := ⟨_, rfl⟩
    obtain ⟨A1, hA1⟩ : ∃ r, mvR true l lo = r := ⟨_, rfl⟩
    obtain ⟨B1, hB1⟩ : ∃ r, mvR true l hi = r := ⟨_, rfl⟩
    have c1 : A0 ≤ B0 := by rw [← hA0, ← hB0]; exact mvR_mono false l hfl hq2
    have c2 : A1 ≤ B1 := by rw [← hA1, ← hB1]; exact mvR_mono true l hfl hq2
    have c3 : A0 ≤ A1 := by rw [← hA0, ← hA1]; exact mvR_side l hfl (Int.le_refl _)
    have c4 : 0 ≤ A0 := by rw [← hA0, ← hbeg]; exact mvR_mono false l hfl hq1
    have c5 : B1 ≤ n := by rw [← hB1, ← hend]; exact mvR_mono true l hfl hq3
    have c6 : B0 ≤ B1 := by rw [← hB0, ← hB1]; exact mvR_side l hfl (Int.le_refl _)
    have d1 : decide (B0 < A0) = false := by simp; omega
    have d2 : decide (B1 < A1) = false := by simp; omega
    have d3 : decide (A0 < 0) = false := by simp; omega
    have d4 : decide (A1 < 0) = false := by simp; omega
    have d5 : decide (n < B0) = false := by simp; omega
    have d6 : decide (n < B1) = false := by simp; omega
    have d7 : decide (A1 < A0) = false := by simp; omega
    have HA0 := hide hA0
    have HA1 := hide hA1
    have HB0 := hide hB0
    have HB1 := hide hB1
    have HEND := hide hend
    have HBEG := hide hbeg
    have HN := hide hn
    have bl1 := bl_refl w1
    clear hap hm ho1 hfl e1 hend hbeg hA0 hA1 hB0 hB1 hn c1 c2 c3 c4 c5 c6 hmin
    go_wp2_with fail
    refine (HL1.out _).mono ?_
    rintro e w8 ⟨rfl, rfl⟩
    go_wp2_with fail
    refine (HL2.out _).mono ?_
    rintro e w9 ⟨rfl, rfl⟩
    go_wp2_with fail
    refine (growne_any a0.size n _ l _ (edat_below HE.out bl1) (by omega) HD.out (by omega) HN.out).mono ?_
    rintro e w2 ⟨rfl, hb2⟩
    have bl2 := bl_trans bl1 hb2
    go_wp2
    refine wp_loop_rounds 3 ?_
    rw [rounds_succ]
    go_wp2_with fail
    refine (HM.out false lo _ (by omega) _ (edat_below HE.out bl2) HA0.out).mono ?_
    rintro e w3 ⟨rfl, hb3⟩
    have bl3 := bl_trans bl2 hb3
    go_wp2_with fail
    refine (HM.out false hi _ (by omega) _ (edat_below HE.out bl3) HB0.out).mono ?_
    rintro e w4 ⟨rfl, hb4⟩
    have bl4 := bl_trans bl3 hb4
    go_wp2_with fail
    refine (HM.out false lo _ (by omega) _ (edat_below HE.out bl4) HA0.out).mono ?_
    rintro e w5 ⟨rfl, hb5⟩
    have bl5 := bl_trans bl4 hb5
    go_wp2_with fail
    refine (HM.out true lo _ (by omega) _ (edat_below HE.out bl5) HA1.out).mono ?_
    rintro e w6 ⟨rfl, hb6⟩
    have bl6 := bl_trans bl5 hb6
    go_wp2
    rw [rounds_succ]
    go_wp2_with fail
    refine (HM.out true lo _ (by omega) _ (edat_below HE.out bl6) HA1.out).mono ?_
    rintro e w7 ⟨rfl, hb7⟩
    have bl7 := bl_trans bl6 hb7
    go_wp2_with fail
    refine (HM.out true hi _ (by omega) _ (edat_below HE.out bl7) HB1.out).mono ?_
    rintro e w8 ⟨rfl, hb8⟩
    have bl8 := bl_trans bl7 hb8
    go_wp2_with fail
    refine (HM.out false lo _ (by omega) _ (edat_below HE.out bl8) HA0.out).mono ?_
    rintro e w9 ⟨rfl, hb9⟩
    have bl9 := bl_trans bl8 hb9
    go_wp2_with fail
    refine (HM.out true lo _ (by omega) _ (edat_below HE.out bl9) HA1.out).mono ?_
    rintro e w10 ⟨rfl, hb10⟩
    have bl10 := bl_trans bl9 hb10
    go_wp2
    rw [rounds_succ]
    go_wp2_with fail
    refine (HM.out true a0.size _ (by omega) _ (edat_below HE.out bl10) HEND.out).mono ?_
    rintro e w11 ⟨rfl, hb11⟩
    have bl11 := bl_trans bl10 hb11
    go_wp2_with fail
    refine (HM.out false 0 _ (by omega) _ (edat_below HE.out bl11) HBEG.out).mono ?_
    rintro e w12 ⟨rfl, hb12⟩
    have bl12 := bl_trans bl11 hb12
    go_wp2_with fail
    refine (awake6_any _).mono ?_
    rintro e wz ⟨rfl, hbz⟩
    go_wp2
    go_ret
    exact ⟨rfl, bl_trans hb1 (bl_trans bl12 hbz)⟩
  · have g1 : decide (200 < (a0.size : Int)) = true := by simp; omega
    clear hin
    go_enter Try.func8, Try.ntmps8
    go_wp2_with fail
    refine (awake6_any _).mono ?_
    rintro e w1 ⟨rfl, hb1⟩
    go_wp2
    go_ret
    exact ⟨rfl, hb1⟩

set_option maxRecDepth 100000 in
theorem lifted (os : Os) (started : os.Started) (H : Type) (enc : TypeId × Value → H) :
    ReturnsInHanded {} Try.checked os 8 .any (Rows.moveRisesSpec.pre6 enc Try.prog Try.f8 Rows.moveRisesRow.domain false) (Rows.moveRisesSpec.post enc Try.prog Try.f8 false true false false) := by
  refine returnsInHanded_of_change (C := Try.checked) own started (by kernel_rfl) Try.func8
    (ChangeSpec.witness6 (enc := enc) (C := Try.checked) false ⟨#[], #[.string ByteArray.empty, .int .i64 0, .int .i64 0, .slice none 0 0], []⟩ 8 (by kernel_rfl) (by kernel_rfl) (by kernel_rfl) (by kernel_rfl)) ?_
  intro W base args ds gs before hval0 hW hcnd _
  have hval : ∀ (j : Nat) t v, Try.f8.params[j]? = some t → args[j]? = some v → Value.okWide Try.prog W .any base t v := hval0
  have hW' := hW
  obtain ⟨p, q, hA0, hV, rfl, hfz, hnd⟩ := hW
  have hA : DataW.TrodAll enc Try.prog W 0 (fun _ => true) true Try.f8.params.toList args.toList ds p := hA0
  rw [Try.params8] at hA hval
  obtain ⟨v0, vs0, d0, ds0, p0, q0, hargs, rfl, rfl, h0, r0⟩ := trodAll_cons hA
  obtain ⟨v1, vs1, d1, ds1, p1, q1, rfl, rfl, rfl, h1, r1⟩ := trodAll_cons r0
  obtain ⟨v2, vs2, d2, ds2, p2, q2, rfl, rfl, rfl, h2, r2⟩ := trodAll_cons r1
  obtain ⟨v3, vs3, d3, ds3, p3, q3, rfl, rfl, rfl, h3, r3⟩ := trodAll_cons r2
  obtain ⟨rfl, rfl, rfl⟩ := trodAll_nil r3
  obtain rfl : args = #[v0, v1, v2, v3] := by cases args; simp_all
  obtain ⟨rfl, rfl⟩ := trodVars_none hV
  have k0 := h0
  have lt0 : ∀ x ∈ p0, x.block < W.heap.size := by obtain ⟨m, hm⟩ := k0; exact DataW.trod_lt m _ _ _ hm
  obtain ⟨a0, rfl, hd0, hp0, w0⟩ := open_string Try.underlying9 (hval 0 9 v0 rfl rfl) h0
  have k1 := h1
  have lt1 : ∀ x ∈ p1, x.block < W.heap.size := by obtain ⟨m, hm⟩ := k1; exact DataW.trod_lt m _ _ _ hm
  obtain ⟨a1, rfl, hd1, hp1, w1⟩ := open_int Try.underlying3 (hval 1 3 v1 rfl rfl) h1
  have k2 := h2
  have lt2 : ∀ x ∈ p2, x.block < W.heap.size := by obtain ⟨m, hm⟩ := k2; exact DataW.trod_lt m _ _ _ hm
  obtain ⟨a2, rfl, hd2, hp2, w2⟩ := open_int Try.underlying3 (hval 2 3 v2 rfl rfl) h2
  have k3 := h3
  have lt3 : ∀ x ∈ p3, x.block < W.heap.size := by obtain ⟨m, hm⟩ := k3; exact DataW.trod_lt m _ _ _ hm
  obtain ⟨l3, w3, b3⟩ := open_pieces (hval 3 38 v3 rfl rfl) h3
  clear hA0 hval0
  refine (walk a0 a1 a2 v3 l3 W w0 w1 w2 w3 b3).mono fun e W' ⟨he, bel⟩ => ?_
  subst he
  exact ⟨_, rfl, _, _, _, [], _, [], hW', trodAll_mk1 (shut_bool Try.underlying4 _), (trodAll_cons_mk (Below.trod laidOut (by kernel_rfl) (of_decide_eq_true (by kernel_rfl)) k0 bel lt0) (trodAll_cons_mk (Below.trod laidOut (by kernel_rfl) (of_decide_eq_true (by kernel_rfl)) k1 bel lt1) (trodAll_cons_mk (Below.trod laidOut (by kernel_rfl) (of_decide_eq_true (by kernel_rfl)) k2 bel lt2) (trodAll_cons_mk (Below.trod laidOut (by kernel_rfl) (of_decide_eq_true (by kernel_rfl)) k3 bel lt3) trodAll_mk0)))), rfl, bel.frame _, fun h => by cases h⟩

theorem over : Rows.moveRisesRow.holds Try.pinned (OpenSpec.ofChange Rows.moveRisesSpec) :=
  OpenClaim.holds_of_wide 8 Try.f8 rfl rfl rfl rfl rfl rfl rfl ⟨rfl, rfl, rfl, rfl, rfl⟩ rfl rfl rfl rfl rfl (by kernel_rfl) Try.func8 (by kernel_rfl)
    (of_decide_eq_true (by kernel_rfl)) (by unfold Func.isWrapper; first | (rw [if_pos (by decide +kernel)]; kernel_rfl) | (rw [if_neg (by decide +kernel)]; exact ⟨rfl, rfl⟩))
    (fun os started H enc _ => lifted os started H enc)

theorem proved : Rows.MoveRisesSaid := over
end Go.Proofs.Ytbaaciekjpadfaa.moveRises
