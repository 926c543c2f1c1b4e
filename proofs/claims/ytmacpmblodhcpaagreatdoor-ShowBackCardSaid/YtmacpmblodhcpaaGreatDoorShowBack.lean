/- Each tree that may be is read from what it is told as, if that has at most MaxRx bytes; one that may not be is ErrForm. Conditions: none beyond the form's own. -/
import Derived.Test.YtmacpmblodhcpaaGreatDoorRows
import Derived.Test.YtmacpmblodhcpaaGreatDoorCards
import Derived.Test.YtmacpmblodhcpaaGreatDoorTie
import Derived.Lay
import Derived.LaidMore
import Derived.MakeChecks
import Derived.Stop.Joined
import Derived.SevenTiedAt
import Derived.Test.YtmacpmblodhcpaaGreatDoorArgs
import Derived.Test.YtmacpmblodhcpaaGreatDoorPcC
namespace Go.Proofs.YtmacpmblodhcpaaGreatDoor.showBack
open Go.Proofs.YtmacpmblodhcpaaGreatDoor
open Go.ChangeShapes Go.WideShapes Go.ChangeAt Go.RowKit Go.Deep
open Go.ChangeMaps (open_string shut_string)
set_option linter.unusedVariables false

theorem own : ownKnob Tryz.prog.godebug = none := by kernel_rfl
theorem laidOut : laidOutB Tryz.prog = true := by kernel_rfl
-- opt: 4000000
-- tied
open SetM
attribute [local go_sem ↓] Go.wp_at_zero Go.wp_at_succ
set_option maxRecDepth 100000 in
set_option maxHeartbeats 4000000 in
theorem walk (t0 : Rt) (w : World) (w0 : RxAt w t0) (b0 : WfX t0) (hT : laidMetH Tryz.prog Rows.showBackRow.laid w) :
    Calls Tryz.prog 3 #[t0.v] w fun e w' => e = .returned (.bool true) ∧ Below w.heap.size w w' := by
  have HTAB := hide (pow_tab hT)
  have HAW := hide (fun W hb => awake15_any HTAB.out W hb)
  obtain ⟨tA, ta, tB, tb, hrv, hkv, hv⟩ := rx_vv w0
  have HG := hide (fun W hb => rxl_any w0 b0 120 (by decide) (by decide) W hb)
  unfold GuPost at HG
  have TR := hide hrv
  have TK := hide hkv
  have HTV := hide hv
  have HRX := hide w0
  rw [hv] at HG ⊢
  have HCX := hide (cx_new w t0 hrv hkv)
  obtain ⟨W1, hW1⟩ : ∃ W, w.alloc (.cells #[.int .i64 t0.k, .string t0.ch, .bool t0.nt, .slice tA t0.rows.length ta, .int .i64 t0.mi, .int .i64 t0.ma, .bool t0.lz, .slice tB t0.kids.length tb] 25) = W := ⟨_, rfl⟩
  have HB1 := hide (show Below w.heap.size w W1 by rw [← hW1]; exact bl_alloc (bl_refl w) _)
  rw [hW1] at HCX
  have HRX1 := hide (rx_below w0 HB1.out)
  obtain ⟨tc0, tc1, tc2, tc3, tc4, tc5, tc6, tc7⟩ := cx_8 HCX.out TR.out TK.out
  have hlt : w.heap.size < W1.heap.size := World.block_lt_of_cell? _ _ tc0
  clear w0 b0 hrv hkv hv hT
  go_enter Tryz.func3, Tryz.ntmps3
  go_wp2_with fail
  refine (HG.out _ HB1.out).mono ?_
  rintro e w2 ⟨r, rfl, hr0, hr1, hr2, hb2⟩
  have HB2 := hide hb2
  have HB02 := hide (bl_trans HB1.out hb2)
  by_cases hn : r < 0
  case pos =>
    have d1 : decide (r < 0) = true := decide_eq_true hn
    clear hr0 hr1 hr2 hb2 hn tc0 tc1 tc2 tc3 tc4 tc5 tc6 tc7 hlt
    go_wp2_with fail
    refine (HAW.out _ HB02.out).mono ?_
    rintro e w3 ⟨rfl, hb3⟩
    have HB3 := hide (bl_trans HB02.out hb3)
    clear hb3
    go_wp2
    go_ret
    exact ⟨rfl, HB3.out⟩
  case neg =>
    have d1 : decide (r < 0) = false := decide_eq_false hn
    have hz := hr2.out (by omega)
    have hsm : sM t0 ≤ 120 := by omega
    have hsh := fun W (hb : Below W1.heap.size W1 W) => rxshow_any HTAB.out HB1.out HRX1.out (by omega) W hb
    have hmy := fun W (hb : Below W1.heap.size W1 W) => rxmay_any HRX1.out (by omega) W hb
    unfold ShowPost at hsh
    unfold SmPost at hmy
    rw [HTV.out] at hsh hmy
    obtain ⟨cn, hcn⟩ : ∃ c, cnB t0 16 512 = c := ⟨_, rfl⟩
    rw [hcn] at hmy
    have HMY := hide hmy
    obtain ⟨S, hS⟩ : ∃ S, shwS t0 = S := ⟨_, rfl⟩
    rw [hS] at hsh
    obtain ⟨tc0, tc1, tc2, tc3, tc4, tc5, tc6, tc7⟩ := cx_8 (cx_below HCX.out HB2.out) TR.out TK.out
    have hlt2 : w.heap.size < w2.heap.size := World.block_lt_of_cell? _ _ tc0
    clear hr0 hr1 hr2 hb2 hn hz hlt hmy
    cases cn
    case false =>
      obtain ⟨s1, s2⟩ := shwS_no hcn
      rw [s1] at hS
      subst hS
      rw [s2] at hsh
      have HSH := hide hsh
      clear hsh s1 s2 hcn hsm
      go_wp2_with fail
      refine (HSH.out _ HB2.out).mono ?_
      rintro e w3 ⟨rfl, hb3⟩
      have HB3 := hide (bl_trans HB2.out hb3)
      obtain ⟨vc0, vc1, vc2, vc3, vc4, vc5, vc6, vc7⟩ := cx_8 (cx_below HCX.out HB3.out) TR.out TK.out
      clear hb3 tc0 tc1 tc2 tc3 tc4 tc5 tc6 tc7
      go_wp2_with fail
      refine (HMY.out _ HB3.out).mono ?_
      rintro e w4 ⟨rfl, hb4⟩
      have HB4 := hide (bl_trans HB1.out (bl_trans HB3.out hb4))
      clear hb4 vc0 vc1 vc2 vc3 vc4 vc5 vc6 vc7
      go_wp2_with fail
      refine (HAW.out _ HB4.out).mono ?_
      rintro e w5 ⟨rfl, hb5⟩
      have HB5 := hide (bl_trans HB4.out hb5)
      clear hb5
      go_wp2
      go_ret
      exact ⟨rfl, HB5.out⟩
    case true =>
      have he0 : shwE t0 = 0 := (shwS_yes hcn).2
      have hlen := shwS_len hcn (by omega)
      have hrd := shw_read hcn
      rw [he0] at hsh
      rw [hS] at hlen hrd
      have HSH := hide hsh
      clear hsh he0 hS
      go_wp2_with fail
      refine (HSH.out _ HB2.out).mono ?_
      rintro e w3 ⟨rfl, hb3⟩
      have HB3 := hide (bl_trans HB2.out hb3)
      obtain ⟨vc0, vc1, vc2, vc3, vc4, vc5, vc6, vc7⟩ := cx_8 (cx_below HCX.out HB3.out) TR.out TK.out
      clear hb3 tc0 tc1 tc2 tc3 tc4 tc5 tc6 tc7
      go_wp2_with fail
      refine (HMY.out _ HB3.out).mono ?_
      rintro e w4 ⟨rfl, hb4⟩
      have HB4 := hide (bl_trans HB3.out hb4)
      clear hb4 vc0 vc1 vc2 vc3 vc4 vc5 vc6 vc7
      by_cases hl : 256 < S.size
      case pos =>
        have g2 : decide (256 < S.size) = true := decide_eq_true hl
        have g2' : decide (256 < (S.size : Int)) = true := decide_eq_true (by omega)
        rw [if_pos hl] at hrd
        have HRD := hide (fun W => read_any S (by omega) W _ hrd)
        unfold RdPost at HRD
        clear hlen hrd hl hcn hsm
        go_wp2_with fail
        refine (HRD.out _).mono ?_
        rintro e w5 ⟨rfl, hb5⟩
        rw [show rt0.v = .agg #[.int .i64 0, .string ⟨#[]⟩, .bool false, .slice none 0 0, .int .i64 0, .int .i64 0, .bool false, .slice none 0 0] from rfl]
        have HB5 := hide (bl_alloc (bl_trans HB1.out (bl_trans HB4.out hb5)) (.cells #[.int .i64 0, .string ⟨#[]⟩, .bool false, .slice none 0 0, .int .i64 0, .int .i64 0, .bool false, .slice none 0 0] 25))
        clear hb5
        go_wp2_with fail
        refine (HAW.out _ HB5.out).mono ?_
        rintro e w6 ⟨rfl, hb6⟩
        have HB6 := hide (bl_trans HB5.out hb6)
        clear hb6
        go_wp2
        go_ret
        exact ⟨rfl, HB6.out⟩
      case neg =>
        have g2 : decide (256 < S.size) = false := decide_eq_false hl
        have g2' : decide (256 < (S.size : Int)) = false := decide_eq_false (by omega)
        rw [if_neg hl] at hrd
        have HRD := hide (fun W => read_any S (by omega) W _ hrd)
        unfold RdPost at HRD
        clear hlen hrd hl hcn hsm
        go_wp2_with fail
        refine (HRD.out _).mono ?_
        rintro e w5 ⟨u, rfl, hb5, hru, -, hue⟩
        obtain ⟨uA, ua, uB, ub, hurv, hukv, huv⟩ := rx_vv hru
        rw [huv]
        have UR := hide hurv
        have UK := hide hukv
        have HUV := hide huv
        obtain ⟨W3, hW3⟩ : ∃ W, w5.alloc (.cells #[.int .i64 u.k, .string u.ch, .bool u.nt, .slice uA u.rows.length ua, .int .i64 u.mi, .int .i64 u.ma, .bool u.lz, .slice uB u.kids.length ub] 25) = W := ⟨_, rfl⟩
        have hbc : Below w5.heap.size w5 W3 := by rw [← hW3]; exact bl_alloc (bl_refl w5) _
        have HCU := hide (show CxAt W3 w5.heap.size u by rw [← hW3]; exact cx_new w5 u hurv hukv)
        have HB5 := hide (bl_trans HB4.out (bl_trans hb5 hbc))
        have HSM := hide (same_any (rx_below HRX1.out HB5.out) (rx_below hru hbc) W3 (bl_refl W3))
        rw [sameM_of hue.symm, HTV.out, HUV.out] at HSM
        unfold SmPost at HSM
        obtain ⟨tc0, tc1, tc2, tc3, tc4, tc5, tc6, tc7⟩ := cx_8 (cx_below HCX.out HB5.out) TR.out TK.out
        obtain ⟨vc0, vc1, vc2, vc3, vc4, vc5, vc6, vc7⟩ := cx_8 HCU.out UR.out UK.out
        have hlt3 : w5.heap.size < W3.heap.size := World.block_lt_of_cell? _ _ vc0
        clear hb5 hru hue hurv hukv huv hbc
        go_wp2_with fail
        refine HSM.out.mono ?_
        rintro e w6 ⟨rfl, hb6⟩
        have HB6 := hide (bl_trans HB1.out (bl_trans HB5.out hb6))
        clear hb6 tc0 tc1 tc2 tc3 tc4 tc5 tc6 tc7 vc0 vc1 vc2 vc3 vc4 vc5 vc6 vc7
        go_wp2_with fail
        refine (HAW.out _ HB6.out).mono ?_
        rintro e w7 ⟨rfl, hb7⟩
        have HB7 := hide (bl_trans HB6.out hb7)
        clear hb7
        go_wp2
        go_ret
        exact ⟨rfl, HB7.out⟩

set_option maxRecDepth 100000 in
theorem lifted (os : Os) (started : os.Started) (H : Type) (enc : TypeId × Value → H) :
    ReturnsInHanded {} Tryz.checked os 3 .any (fun w args => (Rows.showBackSpec.pre enc Tryz.prog Tryz.f3 Rows.showBackRow.domain false w args ∧ laidMetH Tryz.prog Rows.showBackRow.laid w) ∧ sizedMet enc Tryz.prog Tryz.f3 (OpenSpec.ofChange Rows.showBackSpec) false w args) (Rows.showBackSpec.post enc Tryz.prog Tryz.f3 false true false false) := by
  refine returnsInHanded_of_change_and (C := Tryz.checked) (X := fun w _ => laidMetH Tryz.prog Rows.showBackRow.laid w) (fun _ _ _ hh h => h.of_heap hh) own started (by kernel_rfl) Tryz.func3
    (ChangeSpec.witness_shaped (enc := enc) (C := Tryz.checked) (os := os) (X := fun w _ => laidMetH Tryz.prog Rows.showBackRow.laid w) false (World.laidAll Tryz.prog os Rows.showBackRow.laid) #[.agg #[.int .i64 0, .string ByteArray.empty, .bool false, .slice none 0 0, .int .i64 0, .int .i64 0, .bool false, .slice none 0 0]] 8 (World.laidAll_os _ _ _)
      (World.shaped_of_ZipB (by kernel_rfl) (by kernel_rfl)) (by kernel_rfl) (by kernel_rfl) (by kernel_rfl)
      (by rw [MakeChecks.laidMetH_plain _ _ _ (by kernel_rfl)]; exact laidMet_laidAll _ (by kernel_rfl) (by kernel_rfl))) ?_
  intro W base args ds gs before hval0 hW hcnd _ hL _
  have hval : ∀ (j : Nat) t v, Tryz.f3.params[j]? = some t → args[j]? = some v → Value.okWide Tryz.prog W .any base t v := hval0
  have hW' := hW
  obtain ⟨p, q, hA0, hV, rfl, hfz, hnd⟩ := hW
  have hA : DataW.TrodAll enc Tryz.prog W 0 (fun _ => true) true Tryz.f3.params.toList args.toList ds p := hA0
  rw [Tryz.params3] at hA hval
  obtain ⟨v0, vs0, d0, ds0, p0, q0, hargs, rfl, rfl, h0, r0⟩ := trodAll_cons hA
  obtain ⟨rfl, rfl, rfl⟩ := trodAll_nil r0
  obtain rfl : args = #[v0] := by cases args; simp_all
  obtain ⟨rfl, rfl⟩ := trodVars_none hV
  have k0 := h0
  have lt0 : ∀ x ∈ p0, x.block < W.heap.size := by obtain ⟨m, hm⟩ := k0; exact DataW.trod_lt m _ _ _ hm
  obtain ⟨t0, rfl, w0, b0⟩ := open_rx (hval 0 25 v0 rfl rfl) h0
  clear hA0 hval0
  refine (walk t0 W w0 b0 hL).mono fun e W' ⟨he, bel⟩ => ?_
  subst he
  exact ⟨_, rfl, _, _, _, [], _, [], hW', trodAll_mk1 (shut_bool Tryz.underlying4 _), (trodAll_cons_mk (Below.trod laidOut (by kernel_rfl) (of_decide_eq_true (by kernel_rfl)) k0 bel lt0) trodAll_mk0), rfl, bel.frame _, fun h => by cases h⟩

theorem over : Rows.showBackRow.holds Tryz.pinned (OpenSpec.ofChange Rows.showBackSpec) :=
  OpenClaim.holds_of_wide 3 Tryz.f3 rfl rfl rfl rfl rfl rfl rfl ⟨rfl, rfl, rfl, rfl, rfl⟩ rfl rfl rfl rfl rfl (by kernel_rfl) Tryz.func3 (by kernel_rfl)
    (of_decide_eq_true (by kernel_rfl)) (by unfold Func.isWrapper; first | (rw [if_pos (by decide +kernel)]; kernel_rfl) | (rw [if_neg (by decide +kernel)]; exact ⟨rfl, rfl⟩))
    (fun os started H enc _ => lifted os started H enc)

set_option maxRecDepth 100000 in
theorem proved : Rows.ShowBackCardSaid :=
  Claim7.holds_tied_plain_at .later [] [.data, .data, .data] true (true, "0b14b1e7891513a005332d515165d8773ecaaafd2dcfb3e3ccda27e83b91e4a8") false
    over (fun _ h => by cases h) (by kernel_rfl) (fun _ h => by cases h) showBack_row_tie rfl ⟨rfl, rfl⟩ (by kernel_rfl) rfl
    (fun f fn hf hfn => by
      obtain rfl : f = 3 := Option.some.inj ((show Tryz.prog.funcNamed "gimlet/gimletlaw15.ShowBack" = some 3 by kernel_rfl).symm.trans hf) |>.symm
      obtain rfl : fn = Tryz.f3 := (Option.some.inj (Tryz.func3.symm.trans hfn)).symm
      refine ⟨by kernel_rfl, fun j t ht => ?_⟩
      rw [Tryz.params3] at ht
      have hm := Array.mem_of_getElem? ht
      simp at hm
      first
        | (rcases hm with rfl <;> first  | exact (show Tryz.prog.wantsStandIn 25 = false by kernel_rfl)))
    (by kernel_rfl)
end Go.Proofs.YtmacpmblodhcpaaGreatDoor.showBack
