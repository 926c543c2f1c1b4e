/- What is read of a text, told and read again, is the same, and told the same. Conditions: none beyond the form's own. -/
import Derived.Test.YtmacpmblodhcpaaGreatDoorRows
import Derived.Test.YtmacpmblodhcpaaGreatDoorCards
import Derived.Test.YtmacpmblodhcpaaGreatDoorTie
import Derived.Lay
import Derived.LaidMore
import Derived.MakeChecks
import Derived.Stop.Joined
import Derived.SevenTiedAt
import Derived.Test.YtmacpmblodhcpaaGreatDoorArgs
import Derived.Test.YtmacpmblodhcpaaGreatDoorPcC
namespace Go.Proofs.YtmacpmblodhcpaaGreatDoor.showRead
open Go.Proofs.YtmacpmblodhcpaaGreatDoor
open Go.ChangeShapes Go.WideShapes Go.ChangeAt Go.RowKit Go.Deep
open Go.ChangeMaps (open_string shut_string)
set_option linter.unusedVariables false

theorem own : ownKnob Tryz.prog.godebug = none := by kernel_rfl
theorem laidOut : laidOutB Tryz.prog = true := by kernel_rfl
-- opt: 4000000
-- tied
open SetM
attribute [local go_sem ↓] Go.wp_at_zero Go.wp_at_succ
set_option maxRecDepth 100000 in
set_option maxHeartbeats 4000000 in
theorem walk (a0 : ByteArray) (w : World) (w0 : a0.size ≤ maxLen) (hT : laidMetH Tryz.prog Rows.showReadRow.laid w) :
    Calls Tryz.prog 4 #[.string a0] w fun e w' => e = .returned (.bool true) ∧ Below w.heap.size w w' := by
  have HTAB := hide (pow_tab hT)
  have HAW := hide (fun W hb => awake15_any HTAB.out W hb)
  by_cases h1 : 120 < a0.size
  case pos =>
    have g1 : decide (120 < a0.size) = true := decide_eq_true h1
    have g1' : decide (120 < (a0.size : Int)) = true := decide_eq_true (by omega)
    clear h1
    go_enter Tryz.func4, Tryz.ntmps4
    go_wp2_with fail
    refine (HAW.out _ (bl_refl w)).mono ?_
    rintro e w1 ⟨rfl, hb1⟩
    have HB1 := hide (bl_trans (bl_refl w) hb1)
    clear hb1
    go_wp2
    go_ret
    exact ⟨rfl, HB1.out⟩
  have g1 : decide (120 < a0.size) = false := decide_eq_false h1
  have g1' : decide (120 < (a0.size : Int)) = false := decide_eq_false (by omega)
  obtain ⟨n1, hn1⟩ : ∃ n, rdN (readP a0.data.toList) = n := ⟨_, rfl⟩
  by_cases q1 : n1 = 0
  case neg =>
    have HW1 := hide (fun W => read_w a0 (by omega) n1 hn1 W)
    unfold RdwPost at HW1
    have k1 : (n1 == 0) = false := by rw [Bool.eq_false_iff]; intro h; exact q1 (beq_iff_eq.1 h)
    clear h1 hn1
    go_enter Tryz.func4, Tryz.ntmps4
    go_wp2_with fail
    refine (HW1.out _).mono ?_
    rintro e w1 ⟨p0, p1, p2, p3, p4, p5, p6, p7, p8, p9, pa, pb, rfl, hb1⟩
    have HB1 := hide (bl_alloc hb1 (.cells #[.int .i64 p0, .string p1, .bool p2, .slice p3 p4 p5, .int .i64 p6, .int .i64 p7, .bool p8, .slice p9 pa pb] 25))
    clear hb1
    go_wp2_with fail
    refine (HAW.out _ HB1.out).mono ?_
    rintro e w2 ⟨rfl, hb2⟩
    have HB2 := hide (bl_trans HB1.out hb2)
    clear hb2
    go_wp2
    go_ret
    exact ⟨rfl, HB2.out⟩
  subst q1
  obtain ⟨x, hx⟩ := rdN_ok hn1
  have HX := hide (fun W => read_any a0 (by omega) W _ hx)
  unfold RdPost at HX
  have HXV := hide hx
  have HZ := hide (show a0.size ≤ 120 by omega)
  clear h1 hn1 hx
  go_enter Tryz.func4, Tryz.ntmps4
  go_wp2_with fail
  refine (HX.out _).mono ?_
  rintro e w1 ⟨t, rfl, hb1, hrx, -, her⟩
  obtain ⟨tA, ta, tB, tb, hrv, hkv, hv⟩ := rx_vv hrx
  rw [hv]
  have TR := hide hrv
  have TK := hide hkv
  have HTV := hide hv
  have hcn : cnB t 16 512 = true := by rw [cnB_er2 her]; exact readP_cn HXV.out
  have hsm : sM t ≤ 5000 := by
    have h2 := (readP_va HXV.out).2.2.2.2.2.2.2.2.2.1
    have h3 : a0.data.toList.length = a0.size := Array.length_toList
    have h4 := HZ.out
    rw [← sM_er, her]; omega
  have hlen := shwS_len hcn hsm
  have hrd := shw_read hcn
  have he0 : shwE t = 0 := (shwS_yes hcn).2
  have HTE := hide her
  have HB0 := hide hb1
  have HB1 := hide (bl_alloc hb1 (.cells #[.int .i64 t.k, .string t.ch, .bool t.nt, .slice tA t.rows.length ta, .int .i64 t.mi, .int .i64 t.ma, .bool t.lz, .slice tB t.kids.length tb] 25))
  have HRX := hide hrx
  have HCX := hide (cx_new w1 t hrv hkv)
  obtain ⟨W1, hW1⟩ : ∃ W, w1.alloc (.cells #[.int .i64 t.k, .string t.ch, .bool t.nt, .slice tA t.rows.length ta, .int .i64 t.mi, .int .i64 t.ma, .bool t.lz, .slice tB t.kids.length tb] 25) = W := ⟨_, rfl⟩
  have HBA := hide (show Below w1.heap.size w1 W1 by rw [← hW1]; exact bl_alloc (bl_refl w1) _)
  rw [hW1] at HB1 HCX
  have HRX1 := hide (rx_below hrx HBA.out)
  have hsh := fun W (hb : Below W1.heap.size W1 W) => rxshow_any HTAB.out HB1.out HRX1.out (by omega) W hb
  unfold ShowPost at hsh
  rw [hv, he0] at hsh
  obtain ⟨S, hS⟩ : ∃ S, shwS t = S := ⟨_, rfl⟩
  rw [hS] at hsh hlen hrd
  have HSH := hide hsh
  have HSS := hide hS
  obtain ⟨tc0, tc1, tc2, tc3, tc4, tc5, tc6, tc7⟩ := cx_8 HCX.out TR.out TK.out
  have hlt : w1.heap.size < W1.heap.size := World.block_lt_of_cell? _ _ tc0
  clear hb1 hrx hrv hkv hv hcn hsm he0 hsh hS
  go_wp2_with fail
  refine (HSH.out _ (bl_refl _)).mono ?_
  rintro e w2 ⟨rfl, hb2⟩
  have HB2 := hide hb2
  clear hb2 tc0 tc1 tc2 tc3 tc4 tc5 tc6 tc7 hlt
  by_cases hl : 256 < S.size
  case pos =>
    have g2 : decide (256 < S.size) = true := decide_eq_true hl
    have g2' : decide (256 < (S.size : Int)) = true := decide_eq_true (by omega)
    clear hlen hrd hl her
    go_wp2_with fail
    refine (HAW.out _ (bl_trans HB1.out HB2.out)).mono ?_
    rintro e w3 ⟨rfl, hb3⟩
    have HB3 := hide (bl_trans (bl_trans HB1.out HB2.out) hb3)
    clear hb3
    go_wp2
    go_ret
    exact ⟨rfl, HB3.out⟩
  case neg =>
    have g2 : decide (256 < S.size) = false := decide_eq_false hl
    have g2' : decide (256 < (S.size : Int)) = false := decide_eq_false (by omega)
    rw [if_neg hl] at hrd
    have HRD := hide (fun W => read_any S (by omega) W _ hrd)
    unfold RdPost at HRD
    have HL := hide (show S.size ≤ 256 by omega)
    clear hlen hrd hl her
    go_wp2_with fail
    refine (HRD.out _).mono ?_
    rintro e w3 ⟨u, rfl, hb3, hru, -, hue⟩
    obtain ⟨uA, ua, uB, ub, hurv, hukv, huv⟩ := rx_vv hru
    rw [huv]
    have UR := hide hurv
    have UK := hide hukv
    have HUV := hide huv
    have HB3 := hide hb3
    obtain ⟨W3, hW3⟩ : ∃ W, w3.alloc (.cells #[.int .i64 u.k, .string u.ch, .bool u.nt, .slice uA u.rows.length ua, .int .i64 u.mi, .int .i64 u.ma, .bool u.lz, .slice uB u.kids.length ub] 25) = W := ⟨_, rfl⟩
    have HBC := hide (show Below w3.heap.size w3 W3 by rw [← hW3]; exact bl_alloc (bl_refl w3) _)
    have HCU := hide (show CxAt W3 w3.heap.size u by rw [← hW3]; exact cx_new w3 u hurv hukv)
    have HRU := hide (rx_below hru HBC.out)
    have HB13 := hide (show Below W1.heap.size W1 W3 from bl_trans HB2.out (bl_trans HB3.out HBC.out))
    have hsmu : sM u ≤ 100000 := by
      have h2 := (readP_va HXV.out).2.2.2.2.2.2.2.2.2.1
      have h3 : a0.data.toList.length = a0.size := Array.length_toList
      have h4 := HZ.out
      have h5 : sM u = sM t := by rw [← sM_er, hue, sM_er]
      have h6 : sM t = sM x := by rw [← sM_er, HTE.out]
      omega
    have hsh2 := fun W (hb : Below W3.heap.size W3 W) => rxshow_any HTAB.out (bl_trans HB1.out HB13.out) HRU.out hsmu W hb
    unfold ShowPost at hsh2
    obtain ⟨e1, e2⟩ := shw_er hue
    have hcn2 : cnB t 16 512 = true := by rw [cnB_er2 HTE.out]; exact readP_cn HXV.out
    rw [e1, e2, HSS.out, (shwS_yes hcn2).2, huv] at hsh2
    have HSH2 := hide hsh2
    have HUE := hide hue
    obtain ⟨uc0, uc1, uc2, uc3, uc4, uc5, uc6, uc7⟩ := cx_8 HCU.out UR.out UK.out
    have hlt : w3.heap.size < W3.heap.size := World.block_lt_of_cell? _ _ uc0
    clear hb3 hru hue hurv hukv huv hsmu hsh2 e1 e2 hcn2
    go_wp2_with fail
    refine (HSH2.out _ (bl_refl _)).mono ?_
    rintro e w4 ⟨rfl, hb4⟩
    have HB4 := hide hb4
    have HB14 := hide (bl_trans HB13.out hb4)
    obtain ⟨tc0, tc1, tc2, tc3, tc4, tc5, tc6, tc7⟩ := cx_8 (cx_below HCX.out HB14.out) TR.out TK.out
    obtain ⟨vc0, vc1, vc2, vc3, vc4, vc5, vc6, vc7⟩ := cx_8 (cx_below HCU.out hb4) UR.out UK.out
    have HSM := hide (same_any (rx_below HRX1.out HB14.out) (rx_below HRU.out hb4) w4 (bl_refl w4))
    rw [sameM_of HUE.out.symm, HTV.out, HUV.out] at HSM
    unfold SmPost at HSM
    have gs : (S.toList == S.toList) = true := by simp
    clear hb4 uc0 uc1 uc2 uc3 uc4 uc5 uc6 uc7 hlt
    go_wp2_with fail
    refine HSM.out.mono ?_
    rintro e w5 ⟨rfl, hb5⟩
    have HB5 := hide (bl_trans HB1.out (bl_trans HB14.out hb5))
    clear hb5 tc0 tc1 tc2 tc3 tc4 tc5 tc6 tc7 vc0 vc1 vc2 vc3 vc4 vc5 vc6 vc7
    go_wp2_with fail
    refine (HAW.out _ HB5.out).mono ?_
    rintro e w6 ⟨rfl, hb6⟩
    have HB6 := hide (bl_trans HB5.out hb6)
    clear hb6
    go_wp2
    go_ret
    exact ⟨rfl, HB6.out⟩

set_option maxRecDepth 100000 in
theorem lifted (os : Os) (started : os.Started) (H : Type) (enc : TypeId × Value → H) :
    ReturnsInHanded {} Tryz.checked os 4 .any (fun w args => (Rows.showReadSpec.pre enc Tryz.prog Tryz.f4 Rows.showReadRow.domain false w args ∧ laidMetH Tryz.prog Rows.showReadRow.laid w) ∧ sizedMet enc Tryz.prog Tryz.f4 (OpenSpec.ofChange Rows.showReadSpec) false w args) (Rows.showReadSpec.post enc Tryz.prog Tryz.f4 false true false false) := by
  refine returnsInHanded_of_change_and (C := Tryz.checked) (X := fun w _ => laidMetH Tryz.prog Rows.showReadRow.laid w) (fun _ _ _ hh h => h.of_heap hh) own started (by kernel_rfl) Tryz.func4
    (ChangeSpec.witness_shaped (enc := enc) (C := Tryz.checked) (os := os) (X := fun w _ => laidMetH Tryz.prog Rows.showReadRow.laid w) false (World.laidAll Tryz.prog os Rows.showReadRow.laid) #[.string ByteArray.empty] 8 (World.laidAll_os _ _ _)
      (World.shaped_of_ZipB (by kernel_rfl) (by kernel_rfl)) (by kernel_rfl) (by kernel_rfl) (by kernel_rfl)
      (by rw [MakeChecks.laidMetH_plain _ _ _ (by kernel_rfl)]; exact laidMet_laidAll _ (by kernel_rfl) (by kernel_rfl))) ?_
  intro W base args ds gs before hval0 hW hcnd _ hL _
  have hval : ∀ (j : Nat) t v, Tryz.f4.params[j]? = some t → args[j]? = some v → Value.okWide Tryz.prog W .any base t v := hval0
  have hW' := hW
  obtain ⟨p, q, hA0, hV, rfl, hfz, hnd⟩ := hW
  have hA : DataW.TrodAll enc Tryz.prog W 0 (fun _ => true) true Tryz.f4.params.toList args.toList ds p := hA0
  rw [Tryz.params4] at hA hval
  obtain ⟨v0, vs0, d0, ds0, p0, q0, hargs, rfl, rfl, h0, r0⟩ := trodAll_cons hA
  obtain ⟨rfl, rfl, rfl⟩ := trodAll_nil r0
  obtain rfl : args = #[v0] := by cases args; simp_all
  obtain ⟨rfl, rfl⟩ := trodVars_none hV
  have k0 := h0
  have lt0 : ∀ x ∈ p0, x.block < W.heap.size := by obtain ⟨m, hm⟩ := k0; exact DataW.trod_lt m _ _ _ hm
  obtain ⟨a0, rfl, hd0, hp0, w0⟩ := open_string Tryz.underlying9 (hval 0 9 v0 rfl rfl) h0
  clear hA0 hval0
  refine (walk a0 W w0 hL).mono fun e W' ⟨he, bel⟩ => ?_
  subst he
  exact ⟨_, rfl, _, _, _, [], _, [], hW', trodAll_mk1 (shut_bool Tryz.underlying4 _), (trodAll_cons_mk (Below.trod laidOut (by kernel_rfl) (of_decide_eq_true (by kernel_rfl)) k0 bel lt0) trodAll_mk0), rfl, bel.frame _, fun h => by cases h⟩

theorem over : Rows.showReadRow.holds Tryz.pinned (OpenSpec.ofChange Rows.showReadSpec) :=
  OpenClaim.holds_of_wide 4 Tryz.f4 rfl rfl rfl rfl rfl rfl rfl ⟨rfl, rfl, rfl, rfl, rfl⟩ rfl rfl rfl rfl rfl (by kernel_rfl) Tryz.func4 (by kernel_rfl)
    (of_decide_eq_true (by kernel_rfl)) (by unfold Func.isWrapper; first | (rw [if_pos (by decide +kernel)]; kernel_rfl) | (rw [if_neg (by decide +kernel)]; exact ⟨rfl, rfl⟩))
    (fun os started H enc _ => lifted os started H enc)

set_option maxRecDepth 100000 in
theorem proved : Rows.ShowReadCardSaid :=
  Claim7.holds_tied_plain_at .later [] [.data, .data, .data] true (true, "0b14b1e7891513a005332d515165d8773ecaaafd2dcfb3e3ccda27e83b91e4a8") false
    over (fun _ h => by cases h) (by kernel_rfl) (fun _ h => by cases h) showRead_row_tie rfl ⟨rfl, rfl⟩ (by kernel_rfl) rfl
    (fun f fn hf hfn => by
      obtain rfl : f = 4 := Option.some.inj ((show Tryz.prog.funcNamed "gimlet/gimletlaw15.ShowRead" = some 4 by kernel_rfl).symm.trans hf) |>.symm
      obtain rfl : fn = Tryz.f4 := (Option.some.inj (Tryz.func4.symm.trans hfn)).symm
      refine ⟨by kernel_rfl, fun j t ht => ?_⟩
      rw [Tryz.params4] at ht
      have hm := Array.mem_of_getElem? ht
      simp at hm
      first
        | (rcases hm with rfl <;> first  | exact (show Tryz.prog.wantsStandIn 9 = false by kernel_rfl)))
    (by kernel_rfl)
end Go.Proofs.YtmacpmblodhcpaaGreatDoor.showRead
