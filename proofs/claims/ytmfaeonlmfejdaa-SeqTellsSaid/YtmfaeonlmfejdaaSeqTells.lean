/- Any trees one behind the other, and as alternatives, are the document's. Conditions: none beyond the form's own. -/
import Derived.Test.YtmfaeonlmfejdaaRows
import Derived.Test.YtmfaeonlmfejdaaArgs
import Derived.Test.YtmfaeonlmfejdaaRyH
import Derived.Test.YtmfaeonlmfejdaaRxArgs
namespace Go.Proofs.Ytmfaeonlmfejdaa.seqTells
open Go.Proofs.Ytmfaeonlmfejdaa
open Go.ChangeShapes Go.WideShapes Go.ChangeAt Go.RowKit Go.Deep
open Go.ChangeMaps (open_string shut_string)
set_option linter.unusedVariables false

theorem own : ownKnob Try.prog.godebug = none := by kernel_rfl
theorem laidOut : laidOutB Try.prog = true := by kernel_rfl
open SetM
attribute [local go_sem ↓] Go.wp_at_zero Go.wp_at_succ
set_option maxRecDepth 100000 in
set_option maxHeartbeats 1000000 in
theorem walk (a0 : Value) (l0 : List Rt) (w : World) (w0 : KsAt w a0 l0) (x0 : ∀ i (h : i < l0.length), RxAt w l0[i]) (b0 : ∀ x ∈ l0, WfX x) :
    Calls Try.prog 5 #[a0] w fun e w' => e = .returned (.bool true) ∧ Below w.heap.size w w' := by
  obtain ⟨A, c, rfl⟩ := ksat_len w0
  have hx : RxAt w (.mk 0 ⟨#[]⟩ false (.slice none 0 0) [] 0 0 false (.slice A l0.length c) l0) := .mk _ (.inl ⟨rfl, rfl⟩) w0 x0
  have hwf : WfX (.mk 0 ⟨#[]⟩ false (.slice none 0 0) [] 0 0 false (.slice A l0.length c) l0) := .mk _ (show (Lit.int .i64 0).wf = true by decide) (Nat.zero_le _) (fun s hs => by cases hs) (show (Lit.int .i64 0).wf = true by decide) (show (Lit.int .i64 0).wf = true by decide) b0
  have HG := hide (fun W hb => rxl_any hx hwf 100 (by decide) (by decide) W hb)
  have hsm : sM (.mk 0 ⟨#[]⟩ false (.slice none 0 0) [] 0 0 false (.slice A l0.length c) l0) = 1 + sL l0 := by rw [sM_eq]; rfl
  have HS := hide (fun (hz : sL l0 ≤ 100000) W (hb : Below w.heap.size w W) => seq_any _ l0 W (ksat_below w0 hb) (fun i hi => rx_below (x0 i hi) hb) hz)
  have HRS := hide (fun (hz : sL l0 ≤ 100000) W (hb : Below w.heap.size w W) => rseq_any _ l0 W (ksat_below w0 hb) (fun i hi => rx_below (x0 i hi) hb) hz)
  have HA := hide (fun (hz : sL l0 ≤ 100000) W (hb : Below w.heap.size w W) => alt_any _ l0 W (ksat_below w0 hb) (fun i hi => rx_below (x0 i hi) hb) hz)
  have HRA := hide (fun (hz : sL l0 ≤ 100000) W (hb : Below w.heap.size w W) => ralt_any _ l0 W (ksat_below w0 hb) (fun i hi => rx_below (x0 i hi) hb) hz)
  unfold GuPost at HG
  unfold SqPost at HS HRS HA HRA
  rw [hsm] at HG
  unfold Rt.v Rt.cs Rt.k Rt.ch Rt.nt Rt.rv Rt.mi Rt.ma Rt.lz Rt.kv at HG
  clear hx hwf hsm w0 x0 b0
  generalize seqX (flK 0 l0) = sx at *
  generalize altX (flK 1 l0) = ax at *
  generalize sL l0 = sl at *
  generalize l0.length = n at *
  go_enter Try.func5, Try.ntmps5
  go_wp2_with fail
  refine (HG.out _ (bl_refl w)).mono ?_
  rintro e w2 ⟨r, rfl, hr0, hr1, hr2, hb2⟩
  have HB2 := hide hb2
  clear hb2 hr0 hr1
  by_cases hn : r < 0
  case pos =>
    have d1 : decide (r < 0) = true := decide_eq_true hn
    clear hr2 hn
    go_wp2_with fail
    refine (awake13_any _).mono ?_
    rintro e w3 ⟨rfl, hb3⟩
    have HB3 := hide (bl_trans HB2.out hb3)
    clear hb3
    go_wp2
    go_ret
    exact ⟨rfl, HB3.out⟩
  have d1 : decide (r < 0) = false := decide_eq_false hn
  by_cases hm : n ≤ 10
  case neg =>
    have d2 : decide ((10 : Int) < (n : Int)) = true := decide_eq_true (by omega)
    have d2' : decide ((n : Int) > 10) = true := d2
    have d2'' : decide (10 < n) = true := decide_eq_true (by omega)
    clear hr2 hn hm
    go_wp2_with fail
    refine (awake13_any _).mono ?_
    rintro e w3 ⟨rfl, hb3⟩
    have HB3 := hide (bl_trans HB2.out hb3)
    clear hb3
    go_wp2
    go_ret
    exact ⟨rfl, HB3.out⟩
  have d2 : decide ((10 : Int) < (n : Int)) = false := decide_eq_false (by omega)
  have d2' : decide ((n : Int) > 10) = false := d2
  have d2'' : decide (10 < n) = false := decide_eq_false (by omega)
  have hz := hr2.out (by omega)
  have HS1 := hide (HS.out (by omega))
  have HS2 := hide (HRS.out (by omega))
  have HA1 := hide (HA.out (by omega))
  have HA2 := hide (HRA.out (by omega))
  clear hr2 hn hm hz HS HRS HA HRA HG
  go_wp2_with fail
  refine (HS1.out _ HB2.out).mono ?_
  rintro e w3 ⟨t1, rfl, hb3, hx1, he1⟩
  have HB3 := hide (bl_trans HB2.out hb3)
  clear hb3
  go_wp2_with fail
  refine (HS2.out _ HB3.out).mono ?_
  rintro e w4 ⟨t2, rfl, hb4, hx2, he2⟩
  have HB4 := hide (bl_trans HB3.out hb4)
  have HC := hide (same_any (rx_below hx1 hb4) hx2 w4 (bl_refl w4))
  rw [sameM_of (he1.trans he2.symm)] at HC
  unfold SmPost at HC
  clear hb4 hx1 hx2 he1 he2
  go_wp2_with fail
  refine HC.out.mono ?_
  rintro e w5 ⟨rfl, hb5⟩
  have HB5 := hide (bl_trans HB4.out hb5)
  clear hb5 HC
  go_wp2_with fail
  refine (HA1.out _ HB5.out).mono ?_
  rintro e w6 ⟨t3, rfl, hb6, hx3, he3⟩
  have HB6 := hide (bl_trans HB5.out hb6)
  clear hb6
  go_wp2_with fail
  refine (HA2.out _ HB6.out).mono ?_
  rintro e w7 ⟨t4, rfl, hb7, hx4, he4⟩
  have HB7 := hide (bl_trans HB6.out hb7)
  have HC := hide (same_any (rx_below hx3 hb7) hx4 w7 (bl_refl w7))
  rw [sameM_of (he3.trans he4.symm)] at HC
  unfold SmPost at HC
  clear hb7 hx3 hx4 he3 he4
  go_wp2_with fail
  refine HC.out.mono ?_
  rintro e w8 ⟨rfl, hb8⟩
  have HB8 := hide (bl_trans HB7.out hb8)
  clear hb8 HC
  go_wp2_with fail
  refine (awake13_any _).mono ?_
  rintro e w9 ⟨rfl, hb9⟩
  have HB9 := hide (bl_trans HB8.out hb9)
  clear hb9
  go_wp2
  go_ret
  exact ⟨rfl, HB9.out⟩

set_option maxRecDepth 100000 in
theorem lifted (os : Os) (started : os.Started) (H : Type) (enc : TypeId × Value → H) :
    ReturnsInHanded {} Try.checked os 5 .any (Rows.seqTellsSpec.pre6 enc Try.prog Try.f5 Rows.seqTellsRow.domain false) (Rows.seqTellsSpec.post enc Try.prog Try.f5 false true false false) := by
  refine returnsInHanded_of_change (C := Try.checked) own started (by kernel_rfl) Try.func5
    (ChangeSpec.witness6 (enc := enc) (C := Try.checked) false ⟨#[], #[.slice none 0 0], []⟩ 8 (by kernel_rfl) (by kernel_rfl) (by kernel_rfl) (by kernel_rfl)) ?_
  intro W base args ds gs before hval0 hW hcnd _
  have hval : ∀ (j : Nat) t v, Try.f5.params[j]? = some t → args[j]? = some v → Value.okWide Try.prog W .any base t v := hval0
  have hW' := hW
  obtain ⟨p, q, hA0, hV, rfl, hfz, hnd⟩ := hW
  have hA : DataW.TrodAll enc Try.prog W 0 (fun _ => true) true Try.f5.params.toList args.toList ds p := hA0
  rw [Try.params5] at hA hval
  obtain ⟨v0, vs0, d0, ds0, p0, q0, hargs, rfl, rfl, h0, r0⟩ := trodAll_cons hA
  obtain ⟨rfl, rfl, rfl⟩ := trodAll_nil r0
  obtain rfl : args = #[v0] := by cases args; simp_all
  obtain ⟨rfl, rfl⟩ := trodVars_none hV
  have k0 := h0
  have lt0 : ∀ x ∈ p0, x.block < W.heap.size := by obtain ⟨m, hm⟩ := k0; exact DataW.trod_lt m _ _ _ hm
  obtain ⟨l0, w0, x0, b0⟩ := open_rxs (hval 0 23 v0 rfl rfl) h0
  clear hA0 hval0
  refine (walk v0 l0 W w0 x0 b0).mono fun e W' ⟨he, bel⟩ => ?_
  subst he
  exact ⟨_, rfl, _, _, _, [], _, [], hW', trodAll_mk1 (shut_bool Try.underlying4 _), (trodAll_cons_mk (Below.trod laidOut (by kernel_rfl) (of_decide_eq_true (by kernel_rfl)) k0 bel lt0) trodAll_mk0), rfl, bel.frame _, fun h => by cases h⟩

theorem over : Rows.seqTellsRow.holds Try.pinned (OpenSpec.ofChange Rows.seqTellsSpec) :=
  OpenClaim.holds_of_wide 5 Try.f5 rfl rfl rfl rfl rfl rfl rfl ⟨rfl, rfl, rfl, rfl, rfl⟩ rfl rfl rfl rfl rfl (by kernel_rfl) Try.func5 (by kernel_rfl)
    (of_decide_eq_true (by kernel_rfl)) (by unfold Func.isWrapper; first | (rw [if_pos (by decide +kernel)]; kernel_rfl) | (rw [if_neg (by decide +kernel)]; exact ⟨rfl, rfl⟩))
    (fun os started H enc _ => lifted os started H enc)

theorem proved : Rows.SeqTellsSaid := over
end Go.Proofs.Ytmfaeonlmfejdaa.seqTells
