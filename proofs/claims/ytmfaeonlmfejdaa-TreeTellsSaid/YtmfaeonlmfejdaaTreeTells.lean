/- Of any tree, may it be, how many parts and groups has it, how deep is it: as the document tells. Conditions: none beyond the form's own. -/
import Derived.Test.YtmfaeonlmfejdaaRows
import Derived.Test.YtmfaeonlmfejdaaArgs
import Derived.Test.YtmfaeonlmfejdaaRyH
import Derived.Test.YtmfaeonlmfejdaaRxArgs
namespace Go.Proofs.Ytmfaeonlmfejdaa.treeTells
open Go.Proofs.Ytmfaeonlmfejdaa
open Go.ChangeShapes Go.WideShapes Go.ChangeAt Go.RowKit Go.Deep
open Go.ChangeMaps (open_string shut_string)
set_option linter.unusedVariables false

theorem own : ownKnob Try.prog.godebug = none := by kernel_rfl
theorem laidOut : laidOutB Try.prog = true := by kernel_rfl
open SetM
attribute [local go_sem ↓] Go.wp_at_zero Go.wp_at_succ
attribute [local go_sem] later_cell later_frozen
set_option maxRecDepth 100000 in
set_option maxHeartbeats 1000000 in
theorem walk (t0 : Rt) (w : World) (w0 : RxAt w t0) (b0 : WfX t0) :
    Calls Try.prog 3 #[t0.v] w fun e w' => e = .returned (.bool true) ∧ Below w.heap.size w w' := by
  obtain ⟨rA, rc, kA, kc, hrv, hkv, hv⟩ := rx_v w0
  have HG := hide (fun W hb => rxl_any w0 b0 120 (by decide) (by decide) W hb)
  have HM := hide (fun (hz : sM t0 ≤ 100000) W hb => rxmay_any w0 hz W hb)
  have HRM := hide (fun (hz : sM t0 ≤ 100000) W hb => rxrmay_any w0 hz W hb)
  have HP := hide (fun (hz : pM t0 ≤ 100000) W hb => parts_any w0 hz W hb)
  have HRP := hide (fun (hz : pM t0 ≤ 100000) W hb => rparts_any w0 hz W hb)
  have HQ := hide (fun (hz : pM t0 ≤ 100000) W hb => groups_any w0 hz W hb)
  have HRQ := hide (fun (hz : pM t0 ≤ 100000) W hb => rgroups_any w0 hz W hb)
  have HD := hide (fun (hz : pM t0 ≤ 100000) W hb => deep_any w0 hz W hb)
  have HRD := hide (fun (hz : pM t0 ≤ 100000) W hb => rdeep_any w0 hz W hb)
  have hpm := pM_sM t0
  unfold SmPost at HM HRM
  unfold GuPost at HG
  rw [hv] at HG HM HRM HP HRP HQ HRQ HD HRD ⊢
  generalize pM t0 = pm at *
  generalize sM t0 = sm at *
  generalize gM t0 = gm at *
  generalize dM t0 = dm at *
  generalize cnB t0 16 512 = cn at *
  clear hrv hkv hv w0 b0
  generalize t0.kids.length = kl at *
  generalize t0.rows.length = rl at *
  generalize t0.k = k at *
  generalize t0.ch = ch at *
  generalize t0.nt = nt at *
  generalize t0.mi = mi at *
  generalize t0.ma = ma at *
  generalize t0.lz = lz at *
  have HBA := hide (fun o => bl_alloc (bl_refl w) o)
  have FJ := hide (fun W (hb : Below (w.alloc (.cells #[.int .i64 k, .string ch, .bool nt, .slice rA rl rc, .int .i64 mi, .int .i64 ma, .bool lz, .slice kA kl kc] 25)).heap.size (w.alloc (.cells #[.int .i64 k, .string ch, .bool nt, .slice rA rl rc, .int .i64 mi, .int .i64 ma, .bool lz, .slice kA kl kc] 25)) W) j u hu => cell_later hb (lit_at w #[.int .i64 k, .string ch, .bool nt, .slice rA rl rc, .int .i64 mi, .int .i64 ma, .bool lz, .slice kA kl kc] 25 j u hu))
  go_enter Try.func3, Try.ntmps3
  go_wp2_with fail
  refine (HG.out _ (HBA.out _)).mono ?_
  rintro e w2 ⟨r, rfl, hr0, hr1, hr2, hb2⟩
  have HB2 := hide (bl_trans (HBA.out _) hb2)
  by_cases hn : r < 0
  case pos =>
    have d1 : decide (r < 0) = true := decide_eq_true hn
    clear hr0 hr1 hr2 hb2 hpm hn
    go_wp2_with fail
    refine (awake13_any _).mono ?_
    rintro e w3 ⟨rfl, hb3⟩
    have HB3 := hide (bl_trans HB2.out hb3)
    clear hb3
    go_wp2
    go_ret
    exact ⟨rfl, HB3.out⟩
  case neg =>
    have d1 : decide (r < 0) = false := decide_eq_false hn
    have hz := hr2.out (by omega)
    have HM1 := hide (HM.out (by omega))
    have HM2 := hide (HRM.out (by omega))
    have HP1 := hide (HP.out (by omega))
    have HP2 := hide (HRP.out (by omega))
    have HQ1 := hide (HQ.out (by omega))
    have HQ2 := hide (HRQ.out (by omega))
    have HD1 := hide (HD.out (by omega))
    have HD2 := hide (HRD.out (by omega))
    have c0 := FJ.out _ hb2 0 _ rfl
    have c1 := FJ.out _ hb2 1 _ rfl
    have c2 := FJ.out _ hb2 2 _ rfl
    have c3 := FJ.out _ hb2 3 _ rfl
    have c4 := FJ.out _ hb2 4 _ rfl
    have c5 := FJ.out _ hb2 5 _ rfl
    have c6 := FJ.out _ hb2 6 _ rfl
    have c7 := FJ.out _ hb2 7 _ rfl
    have hlt : w.heap.size < w2.heap.size := World.block_lt_of_cell? _ _ c0
    clear hr0 hr1 hr2 hb2 hpm hn hz HM HRM HP HRP HQ HRQ HD HRD FJ HG
    go_wp2
    refine wp_region_later (by kernel_rfl) (by kernel_rfl) ?_
    repeat (go_big_quiet_step (first
      | (go_at_call 11; exact later_call (HM1.out _ (bl_trans HB2.out (Later.below _))))
      | (go_at_call 12; exact later_call (HM2.out _ (bl_trans HB2.out (Later.below _))))
      | (go_at_call 13; exact later_call (HP1.out _ (bl_trans HB2.out (Later.below _))))
      | (go_at_call 14; exact later_call (HP2.out _ (bl_trans HB2.out (Later.below _))))
      | (go_at_call 15; exact later_call (HQ1.out _ (bl_trans HB2.out (Later.below _))))
      | (go_at_call 16; exact later_call (HQ2.out _ (bl_trans HB2.out (Later.below _))))
      | (go_at_call 17; exact later_call (HD1.out _ (bl_trans HB2.out (Later.below _))))
      | (go_at_call 18; exact later_call (HD2.out _ (bl_trans HB2.out (Later.below _))))
      | (go_at_call 10; exact later_call (awake13_any _))
      | exact rfl))
    refine wpQuiet_nil ?_
    rintro w9 ⟨⟨_, hb9⟩, rfl⟩
    have HB9 := hide (bl_trans HB2.out hb9)
    clear hb9
    go_wp2
    go_ret
    exact ⟨rfl, HB9.out⟩

set_option maxRecDepth 100000 in
theorem lifted (os : Os) (started : os.Started) (H : Type) (enc : TypeId × Value → H) :
    ReturnsInHanded {} Try.checked os 3 .any (Rows.treeTellsSpec.pre6 enc Try.prog Try.f3 Rows.treeTellsRow.domain false) (Rows.treeTellsSpec.post enc Try.prog Try.f3 false true false false) := by
  refine returnsInHanded_of_change (C := Try.checked) own started (by kernel_rfl) Try.func3
    (ChangeSpec.witness6 (enc := enc) (C := Try.checked) false ⟨#[], #[.agg #[.int .i64 0, .string ByteArray.empty, .bool false, .slice none 0 0, .int .i64 0, .int .i64 0, .bool false, .slice none 0 0]], []⟩ 8 (by kernel_rfl) (by kernel_rfl) (by kernel_rfl) (by kernel_rfl)) ?_
  intro W base args ds gs before hval0 hW hcnd _
  have hval : ∀ (j : Nat) t v, Try.f3.params[j]? = some t → args[j]? = some v → Value.okWide Try.prog W .any base t v := hval0
  have hW' := hW
  obtain ⟨p, q, hA0, hV, rfl, hfz, hnd⟩ := hW
  have hA : DataW.TrodAll enc Try.prog W 0 (fun _ => true) true Try.f3.params.toList args.toList ds p := hA0
  rw [Try.params3] at hA hval
  obtain ⟨v0, vs0, d0, ds0, p0, q0, hargs, rfl, rfl, h0, r0⟩ := trodAll_cons hA
  obtain ⟨rfl, rfl, rfl⟩ := trodAll_nil r0
  obtain rfl : args = #[v0] := by cases args; simp_all
  obtain ⟨rfl, rfl⟩ := trodVars_none hV
  have k0 := h0
  have lt0 : ∀ x ∈ p0, x.block < W.heap.size := by obtain ⟨m, hm⟩ := k0; exact DataW.trod_lt m _ _ _ hm
  obtain ⟨t0, rfl, w0, b0⟩ := open_rx (hval 0 25 v0 rfl rfl) h0
  clear hA0 hval0
  refine (walk t0 W w0 b0).mono fun e W' ⟨he, bel⟩ => ?_
  subst he
  exact ⟨_, rfl, _, _, _, [], _, [], hW', trodAll_mk1 (shut_bool Try.underlying4 _), (trodAll_cons_mk (Below.trod laidOut (by kernel_rfl) (of_decide_eq_true (by kernel_rfl)) k0 bel lt0) trodAll_mk0), rfl, bel.frame _, fun h => by cases h⟩

theorem over : Rows.treeTellsRow.holds Try.pinned (OpenSpec.ofChange Rows.treeTellsSpec) :=
  OpenClaim.holds_of_wide 3 Try.f3 rfl rfl rfl rfl rfl rfl rfl ⟨rfl, rfl, rfl, rfl, rfl⟩ rfl rfl rfl rfl rfl (by kernel_rfl) Try.func3 (by kernel_rfl)
    (of_decide_eq_true (by kernel_rfl)) (by unfold Func.isWrapper; first | (rw [if_pos (by decide +kernel)]; kernel_rfl) | (rw [if_neg (by decide +kernel)]; exact ⟨rfl, rfl⟩))
    (fun os started H enc _ => lifted os started H enc)

theorem proved : Rows.TreeTellsSaid := over
end Go.Proofs.Ytmfaeonlmfejdaa.treeTells
