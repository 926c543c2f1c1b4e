/- A group around all takes what is in it, for one of the fuel more; its own part is all that is taken, the others are as they were. Conditions: none beyond the form's own. -/
import Derived.Test.YtcnliipkfccohaaGreatRows
import Derived.Test.YtcnliipkfccohaaGreatRnD
namespace Go.Proofs.YtcnliipkfccohaaGreat.runGroup
open Go.Proofs.YtcnliipkfccohaaGreat
open Go.ChangeShapes Go.WideShapes Go.ChangeAt Go.RowKit Go.Deep
open Go.ChangeMaps (open_string shut_string)
set_option linter.unusedVariables false

theorem own : ownKnob Tryz.prog.godebug = none := by kernel_rfl
theorem laidOut : laidOutB Tryz.prog = true := by kernel_rfl
-- opt: 16000000
open SetM SpanM
attribute [local go_sem ↓] Go.wp_at_zero Go.wp_at_succ
attribute [local go_sem] later_cell later_frozen eqge_s4 eqgn_s4
attribute [local go_sem ↓] eql_s4 neq_s4
set_option maxRecDepth 100000 in
set_option maxHeartbeats 16000000 in
theorem walk (a0 : ByteArray) (a1 : Bool) (a2 : ByteArray) (a3 : Int) (a4 : Int) (w : World) (w0 : a0.size ≤ maxLen) (w2 : a2.size ≤ maxLen) (w3 : (Lit.int .i64 a3).wf = true) (w4 : (Lit.int .i64 a4).wf = true) :
    Calls Tryz.prog 13 #[.string a0, .bool a1, .string a2, .int .i64 a3, .int .i64 a4] w fun e w' => e = .returned (.bool true) ∧ Below w.heap.size w w' := by
  obtain ⟨o, HRD, hox⟩ := read_o a0
  have HRD := hide HRD
  obtain ⟨i0, hi0, hz0', hz1, hz2⟩ := info_parts info_sp
  cases o with
  | none =>
    clear hox
    go_enter Tryz.func13, Tryz.ntmps13
    go_wp2_with fail
    refine (HRD.out _).mono ?_
    rintro e w5 ⟨n, hn, rfl, hb5⟩
    have k0 : (n != 0) = true := by simp [hn]
    have k0' : (n == 0) = false := by simp [hn]
    have HB := hide (bl_alloc hb5 (.cells #[.int .i64 0, .string ⟨#[]⟩, .bool false, .slice none 0 0, .int .i64 0, .int .i64 0, .bool false, .slice none 0 0] 25))
    clear hb5 hn
    by_cases h1 : 30 < a0.size
    · have dh1 : decide (30 < a0.size) = true := decide_eq_true h1
      have dh1' : decide (30 < (a0.size : Int)) = true := decide_eq_true (by omega)
      go_wp2_with fail
      refine (awake16_any _).mono ?_
      rintro e w99 ⟨rfl, hb99⟩
      have HBE := hide (bl_trans HB.out hb99)
      clear hb99
      go_wp2
      go_ret
      exact ⟨rfl, HBE.out⟩
    have dh1 : decide (30 < a0.size) = false := decide_eq_false h1
    have dh1' : decide (30 < (a0.size : Int)) = false := decide_eq_false (by omega)
    by_cases h2 : 40 < a2.size
    · have dh2 : decide (40 < a2.size) = true := decide_eq_true h2
      have dh2' : decide (40 < (a2.size : Int)) = true := decide_eq_true (by omega)
      go_wp2_with fail
      refine (awake16_any _).mono ?_
      rintro e w99 ⟨rfl, hb99⟩
      have HBE := hide (bl_trans HB.out hb99)
      clear hb99
      go_wp2
      go_ret
      exact ⟨rfl, HBE.out⟩
    have dh2 : decide (40 < a2.size) = false := decide_eq_false h2
    have dh2' : decide (40 < (a2.size : Int)) = false := decide_eq_false (by omega)
    go_wp2_with fail
    refine (awake16_any _).mono ?_
    rintro e w99 ⟨rfl, hb99⟩
    have HBE := hide (bl_trans HB.out hb99)
    clear hb99
    go_wp2
    go_ret
    exact ⟨rfl, HBE.out⟩
  | some x =>
    have HV := hide (hox x rfl)
    clear hox
    obtain ⟨U, hU⟩ : ∃ n, lowN a4 2001 = n := ⟨_, rfl⟩
    obtain ⟨K, hK⟩ : ∃ n, lowN a3 (a2.size + 1) = n := ⟨_, rfl⟩
    have HUV := hide (show U < 2001 by rw [← hU]; exact lowN_lt _ _ (by decide))
    have HL1 := hide (fun W => low_r a4 2001 2001 U W rfl (by decide) (by decide) hU)
    have HL3 := hide (fun W (h : a2.size ≤ 40) => low_r a3 ((a2.size : Int) + 1) (a2.size + 1) K W (by omega) (by omega) (by omega) hK)
    have eU : IntKind.i64.wrap (((U : Nat) : Int) + 1) = ((U : Nat) : Int) + 1 := by have := HUV.out; rw [IntKind.wrap_i64]; omega
    clear hU hK
    go_enter Tryz.func13, Tryz.ntmps13
    go_wp2_with fail
    refine (HRD.out _).mono ?_
    rintro e w5 ⟨t, rfl, hb5, hrx, her⟩
    obtain ⟨tA, tc, htrv⟩ := rwat_len hrx.rows
    obtain ⟨tB, td, htkv⟩ := ksat_len hrx.ks
    have HTV := hide (show t.v = .agg #[.int .i64 t.k, .string t.ch, .bool t.nt, .slice tA t.rows.length tc, .int .i64 t.mi, .int .i64 t.ma, .bool t.lz, .slice tB t.kids.length td] by unfold Rt.v Rt.cs; rw [htrv, htkv])
    rw [HTV.out]
    have HRX := hide hrx
    have HER := hide her
    have HGM0 := hide (fun (h100 : a0.size ≤ 100) => show gM t ≤ 1000 ∧ sM t ≤ 1000 ∧ cnB t 16 512 = true from ⟨by have h1 := gM_le t; have h2 := pM_er t; rw [her] at h2; have := HV.out; omega, by rw [← sM_er, her]; have := HV.out; omega, by rw [cnB_er her]; exact HV.out.2.1⟩)
    have HB := hide (bl_alloc hb5 (.cells #[.int .i64 t.k, .string t.ch, .bool t.nt, .slice tA t.rows.length tc, .int .i64 t.mi, .int .i64 t.ma, .bool t.lz, .slice tB t.kids.length td] 25))
    have K5 := hide (show Cl (w5.alloc (.cells #[.int .i64 t.k, .string t.ch, .bool t.nt, .slice tA t.rows.length tc, .int .i64 t.mi, .int .i64 t.ma, .bool t.lz, .slice tB t.kids.length td] 25)) w5.heap.size [.int .i64 t.k, .string t.ch, .bool t.nt, .slice tA t.rows.length tc, .int .i64 t.mi, .int .i64 t.ma, .bool t.lz, .slice tB t.kids.length td] from cl_alloc w5 [.int .i64 t.k, .string t.ch, .bool t.nt, .slice tA t.rows.length tc, .int .i64 t.mi, .int .i64 t.ma, .bool t.lz, .slice tB t.kids.length td] _)
    clear hb5 hrx her htrv htkv
    by_cases h1 : 30 < a0.size
    · have dh1 : decide (30 < a0.size) = true := decide_eq_true h1
      have dh1' : decide (30 < (a0.size : Int)) = true := decide_eq_true (by omega)
      go_wp2_with fail
      refine (awake16_any _).mono ?_
      rintro e w99 ⟨rfl, hb99⟩
      have HBE := hide (bl_trans HB.out hb99)
      clear hb99
      go_wp2
      go_ret
      exact ⟨rfl, HBE.out⟩
    have dh1 : decide (30 < a0.size) = false := decide_eq_false h1
    have dh1' : decide (30 < (a0.size : Int)) = false := decide_eq_false (by omega)
    by_cases h2 : 40 < a2.size
    · have dh2 : decide (40 < a2.size) = true := decide_eq_true h2
      have dh2' : decide (40 < (a2.size : Int)) = true := decide_eq_true (by omega)
      go_wp2_with fail
      refine (awake16_any _).mono ?_
      rintro e w99 ⟨rfl, hb99⟩
      have HBE := hide (bl_trans HB.out hb99)
      clear hb99
      go_wp2
      go_ret
      exact ⟨rfl, HBE.out⟩
    have dh2 : decide (40 < a2.size) = false := decide_eq_false h2
    have dh2' : decide (40 < (a2.size : Int)) = false := decide_eq_false (by omega)
    have HGM := hide (HGM0.out (by omega))
    have HPM := hide (show pM t ≤ 61 ∧ sM t ≤ 300 ∧ dM t ≤ 16 from ⟨by rw [← pM_er, HER.out]; have := HV.out; omega, by rw [← sM_er, HER.out]; have := HV.out; omega, by rw [← dM_er, HER.out]; exact HV.out.2.2.2.2⟩)
    have h240 : a2.size ≤ 40 := by omega
    have HL4 := hide (fun W => HL3.out W h240)
    have es : IntKind.i64.wrap ((a2.size : Int) + 1) = (a2.size : Int) + 1 := by rw [IntKind.wrap_i64]; omega
    have HDP := hide (fun W (hb : Below w5.heap.size w5 W) => deep_any HRX.out (by have := HPM.out.1; omega) W hb)
    rw [HTV.out] at HDP
    obtain ⟨k0, k1, k2, k3, k4, k5, k6, k7⟩ := (K5.out).eight
    go_wp2_with fail
    refine (HDP.out _ (bl_alloc (bl_refl w5) _)).mono ?_
    clear k0 k1 k2 k3 k4 k5 k6 k7
    rintro e w6 ⟨rfl, hb6⟩
    have HB0 := hide (bl_trans HB.out hb6)
    have HN6 := hide hb6
    clear hb6 HB
    have HB := HB0
    by_cases hd : 16 ≤ dM t
    · have d6 : decide ((16 : Int) ≤ ((dM t : Nat) : Int)) = true := decide_eq_true (by omega)
      have d6' : decide (16 ≤ dM t) = true := decide_eq_true hd
      go_wp2_with fail
      refine (awake16_any _).mono ?_
      rintro e w99 ⟨rfl, hb99⟩
      have HBE := hide (bl_trans HB.out hb99)
      clear hb99
      go_wp2
      go_ret
      exact ⟨rfl, HBE.out⟩
    have d6 : decide ((16 : Int) ≤ ((dM t : Nat) : Int)) = false := decide_eq_false (by omega)
    have d6' : decide (16 ≤ dM t) = false := decide_eq_false hd
    have HCG := hide (fun kv => grp_ok (kv := kv) HGM.out.2.2 (by have := HPM.out.1; omega) (by omega))
    clear hd
    have HRX6 := hide (rx_below (rx_below HRX.out (bl_alloc (bl_refl w5) _)) HN6.out)
    have K6 := hide (K5.out.bl HN6.out)
    go_wp2_with fail
    refine (HL4.out _).mono ?_
    rintro e _ ⟨rfl, rfl⟩
    go_wp2_with fail
    refine (HL1.out _).mono ?_
    rintro e _ ⟨rfl, rfl⟩
    clear d6 d6'
    have HAT := hide (at_any HRX6.out HGM.out.2.1 a1 a2 (by omega) ((K : Nat) : Int) ((U : Nat) : Int))
    rw [HTV.out] at HAT
    obtain ⟨k0, k1, k2, k3, k4, k5, k6, k7⟩ := (K6.out).eight
    go_wp2_with fail
    refine HAT.out.mono ?_
    clear k0 k1 k2 k3 k4 k5 k6 k7
    rintro e w8 hp
    obtain ⟨q, hq, A6, c6, rfl, hb8, hsp⟩ := at_form hp
    rw [fuC_nat U (by have := HUV.out; omega)] at hq
    obtain ⟨qa, qb, qp, qf, qok, qn⟩ := q
    simp only at hsp ⊢
    have HQ := hide hq
    have HPL := hide (show qp.length ≤ 1000 from Nat.le_trans (atq_len hq) HGM.out.1)
    obtain ⟨w9, hw9⟩ : ∃ W, (w8.alloc (.cells #[.int .i64 qa, .int .i64 qb, .slice A6 qp.length c6] 32)) = W := ⟨_, rfl⟩
    have HN9 : Hid (Below w8.heap.size w8 w9) := hide (by rw [← hw9]; exact bl_alloc (bl_refl _) _)
    have M9 : Hid (Cl w9 w8.heap.size [.int .i64 qa, .int .i64 qb, .slice A6 qp.length c6]) := hide (by rw [← hw9]; exact cl_alloc w8 [.int .i64 qa, .int .i64 qb, .slice A6 qp.length c6] _)
    have S9 := hide (spat_below hsp HN9.out)
    have HB9 := hide (bl_trans (bl_trans HB.out hb8) HN9.out)
    have HB69 := hide (bl_trans hb8 HN9.out)
    have K9 := hide (K6.out.bl HB69.out)
    obtain ⟨wa, hwa⟩ : ∃ W, (w9.alloc (.cells #[.int .i64 t.k, .string t.ch, .bool t.nt, .slice tA t.rows.length tc, .int .i64 t.mi, .int .i64 t.ma, .bool t.lz, .slice tB t.kids.length td] 25)) = W := ⟨_, rfl⟩
    have HNa : Hid (Below w9.heap.size w9 wa) := hide (by rw [← hwa]; exact bl_alloc (bl_refl _) _)
    have Ka : Hid (Cl wa w9.heap.size [.int .i64 t.k, .string t.ch, .bool t.nt, .slice tA t.rows.length tc, .int .i64 t.mi, .int .i64 t.ma, .bool t.lz, .slice tB t.kids.length td]) := hide (by rw [← hwa]; exact cl_alloc w9 [.int .i64 t.k, .string t.ch, .bool t.nt, .slice tA t.rows.length tc, .int .i64 t.mi, .int .i64 t.ma, .bool t.lz, .slice tB t.kids.length td] _)
    have HCS := hide (show t.cs = [.int .i64 t.k, .string t.ch, .bool t.nt, .slice tA t.rows.length tc, .int .i64 t.mi, .int .i64 t.ma, .bool t.lz, .slice tB t.kids.length td] from by
      have h1 := HTV.out
      unfold Rt.v at h1
      injection h1 with h1
      have h2 := congrArg Array.toList h1
      simpa using h2)
    have HRXa := hide (grp_at (g := w9.heap.size) (rx_below (rx_below HRX6.out HB69.out) HNa.out) (fun j u hu => Ka.out.c j u (by rw [← HCS.out]; exact hu)))
    have HAT2 := hide (at_any HRXa.out (show sM (grpT (.slice (some ⟨w9.heap.size, 0, none⟩) 1 1) t) ≤ 1000 from by rw [sM_eq]; show 1 + 0 + 0 + (sM t + 0) ≤ 1000; have := HPM.out; omega) a1 a2 (by omega) ((K : Nat) : Int) (((U : Nat) : Int) + 1))
    rw [show (grpT (.slice (some ⟨w9.heap.size, 0, none⟩) 1 1) t).v = .agg #[.int .i64 5, .string ⟨#[]⟩, .bool false, .slice none 0 0, .int .i64 0, .int .i64 0, .bool false, .slice (some ⟨w9.heap.size, 0, none⟩) 1 1] from rfl] at HAT2
    clear hp hq hb8 hsp
    obtain ⟨k0, k1, k2, k3, k4, k5, k6, k7⟩ := (K9.out).eight
    go_wp2_with fail
    refine HAT2.out.mono ?_
    clear k0 k1 k2 k3 k4 k5 k6 k7
    rintro e wb hp
    obtain ⟨q', hq', A7, c7, rfl, hbb, hsp⟩ := at_form hp
    rw [show fuC (((U : Nat) : Int) + 1) = U + 1 by have := HUV.out; unfold fuC; omega] at hq'
    have hgr := atq_grp HGM.out.2.2 (HCG.out _) HQ.out hq'
    have HBB := hide (bl_trans HNa.out hbb)
    clear hw9 hwa
    obtain ⟨ra, rb, rp, rf, rok, rn⟩ := q'
    simp only at hgr hsp ⊢
    rcases hgr with ⟨e1, e2, e3, e4⟩ | ⟨e1, e2⟩
    · subst e1 e2 e3 e4
      have HB := hide (bl_alloc (bl_trans HB9.out HBB.out) (.cells #[.int .i64 ra, .int .i64 rb, .slice A7 rp.length c7] 32))
      clear hp hq' hbb hsp
      go_wp2_with fail
      refine (awake16_any _).mono ?_
      rintro e w99 ⟨rfl, hb99⟩
      have HBE := hide (bl_trans HB.out hb99)
      clear hb99
      go_wp2
      go_ret
      exact ⟨rfl, HBE.out⟩
    injection e2 with e2 e3 e4 e5 e6 e7
    replace e2 := e2.symm
    replace e3 := e3.symm
    replace e5 := e5.symm
    replace e6 := e6.symm
    replace e7 := e7.symm
    subst e2 e3 e4 e5 e6 e7 e1
    obtain ⟨L, hL⟩ : ∃ n, ((qa, qb) :: qp).length = n := ⟨_, rfl⟩
    rw [hL] at hsp
    rw [hL]
    obtain ⟨wc, hwc⟩ : ∃ W, (wb.alloc (.cells #[.int .i64 qa, .int .i64 qb, .slice A7 L c7] 32)) = W := ⟨_, rfl⟩
    have HNc : Hid (Below wb.heap.size wb wc) := hide (by rw [← hwc]; exact bl_alloc (bl_refl _) _)
    have Mc : Hid (Cl wc wb.heap.size [.int .i64 qa, .int .i64 qb, .slice A7 L c7]) := hide (by rw [← hwc]; exact cl_alloc wb [.int .i64 qa, .int .i64 qb, .slice A7 L c7] _)
    have Sc := hide (spat_below hsp HNc.out)
    have HBC := hide (bl_trans (bl_trans HB9.out HBB.out) HNc.out)
    have m90 := ((M9.out.bl HBB.out).bl HNc.out).c 0 _ rfl
    have m91 := ((M9.out.bl HBB.out).bl HNc.out).c 1 _ rfl
    have m92 := ((M9.out.bl HBB.out).bl HNc.out).c 2 _ rfl
    have s9 := ((M9.out.bl HBB.out).bl HNc.out).s
    have n90 := Mc.out.c 0 _ rfl
    have n91 := Mc.out.c 1 _ rfl
    have n92 := Mc.out.c 2 _ rfl
    have sc := Mc.out.s
    obtain ⟨gb, go, gc, hgv, hg1, hg2, hg3, hgc⟩ := spat_some Sc.out (by simp)
    rw [hL] at hgv
    injection hgv with hA _ hc7
    subst hA hc7
    obtain ⟨p0, p1⟩ := hgc 0 (by simp)
    simp only [Nat.zero_mul, Nat.add_zero, List.getElem_cons_zero] at p0 p1
    have eL : IntKind.i64.wrap (((qp.length : Nat) : Int) + 1) = ((L : Nat) : Int) := by have := HPL.out; simp at hL; rw [IntKind.wrap_i64]; omega
    have hL1 : 1 ≤ L := by simp at hL; omega
    have hL2 : (0 : Int) < (L : Int) := by omega
    have i00 : (0 : Int) ≤ 0 := by omega
    have STL := hide (spat_tail hL Sc.out)
    obtain ⟨sv, hsv⟩ : ∃ v, (Value.slice (if c7 = 1 then (some ⟨gb, go, none⟩ : Option Addr) else (some ⟨gb, go, none⟩ : Option Addr).map (·.add (1 * 2))) (L - 1) (c7 - 1)) = v := ⟨_, rfl⟩
    rw [hsv] at STL
    have hshi := fun (W : World) => run_slice_from (P := Tryz.prog) 30 29 i0 Tryz.underlying30 hi0 (some ⟨gb, go, none⟩) L c7 1 1 rfl hL1 W
    rw [hz1, hsv] at hshi
    have HSPU := hide (fun (u : Later wc) => (spans_any sv (.slice A6 qp.length c6) qp qp u.now (spat_below STL.out u.below) (spat_below (spat_below (spat_below S9.out HBB.out) HNc.out) u.below) HPL.out HPL.out).mono (fun e w' (h : e = .returned (.bool (decide (qp = qp))) ∧ ∃ n, w' = u.now.drewN n) => (show e = .returned (.bool true) ∧ Below u.now.heap.size u.now w' from ⟨by rw [h.1]; simp, by obtain ⟨n, hn⟩ := h.2; rw [hn]; exact bl_drewN (bl_refl _) n⟩)))
    have HAWU := hide (fun (u : Later wc) => awake16_any u.now)
    have lgb : gb < wc.heap.size := hg3
    clear hp hq' hbb hsp hgc hg1 hg2 hg3 hL hsv
    go_wp2_with fail
    refine wp_region_later (by kernel_rfl) (by kernel_rfl) ?_
    repeat (go_big_quiet_step (first | (go_at_call 26; exact later_call (HSPU.out _)) | (go_at_call 15; exact later_call (HAWU.out _)) | exact rfl))
    refine wpQuiet_nil ?_
    rintro wz ⟨⟨_, hbz⟩, rfl⟩
    have HBZ := hide (bl_trans HBC.out hbz)
    go_wp2
    go_ret
    exact ⟨rfl, HBZ.out⟩

set_option maxRecDepth 100000 in
theorem lifted (os : Os) (started : os.Started) (H : Type) (enc : TypeId × Value → H) :
    ReturnsInHanded {} Tryz.checked os 13 .any (Rows.runGroupSpec.pre6 enc Tryz.prog Tryz.f13 Rows.runGroupRow.domain false) (Rows.runGroupSpec.post enc Tryz.prog Tryz.f13 false true false false) := by
  refine returnsInHanded_of_change (C := Tryz.checked) own started (by kernel_rfl) Tryz.func13
    (ChangeSpec.witness6 (enc := enc) (C := Tryz.checked) false ⟨#[], #[.string ByteArray.empty, .bool false, .string ByteArray.empty, .int .i64 0, .int .i64 0], []⟩ 8 (by kernel_rfl) (by kernel_rfl) (by kernel_rfl) (by kernel_rfl)) ?_
  intro W base args ds gs before hval0 hW hcnd _
  have hval : ∀ (j : Nat) t v, Tryz.f13.params[j]? = some t → args[j]? = some v → Value.okWide Tryz.prog W .any base t v := hval0
  have hW' := hW
  obtain ⟨p, q, hA0, hV, rfl, hfz, hnd⟩ := hW
  have hA : DataW.TrodAll enc Tryz.prog W 0 (fun _ => true) true Tryz.f13.params.toList args.toList ds p := hA0
  rw [Tryz.params13] at hA hval
  obtain ⟨v0, vs0, d0, ds0, p0, q0, hargs, rfl, rfl, h0, r0⟩ := trodAll_cons hA
  obtain ⟨v1, vs1, d1, ds1, p1, q1, rfl, rfl, rfl, h1, r1⟩ := trodAll_cons r0
  obtain ⟨v2, vs2, d2, ds2, p2, q2, rfl, rfl, rfl, h2, r2⟩ := trodAll_cons r1
  obtain ⟨v3, vs3, d3, ds3, p3, q3, rfl, rfl, rfl, h3, r3⟩ := trodAll_cons r2
  obtain ⟨v4, vs4, d4, ds4, p4, q4, rfl, rfl, rfl, h4, r4⟩ := trodAll_cons r3
  obtain ⟨rfl, rfl, rfl⟩ := trodAll_nil r4
  obtain rfl : args = #[v0, v1, v2, v3, v4] := by cases args; simp_all
  obtain ⟨rfl, rfl⟩ := trodVars_none hV
  have k0 := h0
  have lt0 : ∀ x ∈ p0, x.block < W.heap.size := by obtain ⟨m, hm⟩ := k0; exact DataW.trod_lt m _ _ _ hm
  obtain ⟨a0, rfl, hd0, hp0, w0⟩ := open_string Tryz.underlying9 (hval 0 9 v0 rfl rfl) h0
  have k1 := h1
  have lt1 : ∀ x ∈ p1, x.block < W.heap.size := by obtain ⟨m, hm⟩ := k1; exact DataW.trod_lt m _ _ _ hm
  obtain ⟨a1, rfl, hd1, hp1⟩ := open_bool Tryz.underlying4 (hval 1 4 v1 rfl rfl) h1
  have k2 := h2
  have lt2 : ∀ x ∈ p2, x.block < W.heap.size := by obtain ⟨m, hm⟩ := k2; exact DataW.trod_lt m _ _ _ hm
  obtain ⟨a2, rfl, hd2, hp2, w2⟩ := open_string Tryz.underlying9 (hval 2 9 v2 rfl rfl) h2
  have k3 := h3
  have lt3 : ∀ x ∈ p3, x.block < W.heap.size := by obtain ⟨m, hm⟩ := k3; exact DataW.trod_lt m _ _ _ hm
  obtain ⟨a3, rfl, hd3, hp3, w3⟩ := open_int Tryz.underlying3 (hval 3 3 v3 rfl rfl) h3
  have k4 := h4
  have lt4 : ∀ x ∈ p4, x.block < W.heap.size := by obtain ⟨m, hm⟩ := k4; exact DataW.trod_lt m _ _ _ hm
  obtain ⟨a4, rfl, hd4, hp4, w4⟩ := open_int Tryz.underlying3 (hval 4 3 v4 rfl rfl) h4
  clear hA0 hval0
  refine (walk a0 a1 a2 a3 a4 W w0 w2 w3 w4).mono fun e W' ⟨he, bel⟩ => ?_
  subst he
  exact ⟨_, rfl, _, _, _, [], _, [], hW', trodAll_mk1 (shut_bool Tryz.underlying4 _), (trodAll_cons_mk (Below.trod laidOut (by kernel_rfl) (of_decide_eq_true (by kernel_rfl)) k0 bel lt0) (trodAll_cons_mk (Below.trod laidOut (by kernel_rfl) (of_decide_eq_true (by kernel_rfl)) k1 bel lt1) (trodAll_cons_mk (Below.trod laidOut (by kernel_rfl) (of_decide_eq_true (by kernel_rfl)) k2 bel lt2) (trodAll_cons_mk (Below.trod laidOut (by kernel_rfl) (of_decide_eq_true (by kernel_rfl)) k3 bel lt3) (trodAll_cons_mk (Below.trod laidOut (by kernel_rfl) (of_decide_eq_true (by kernel_rfl)) k4 bel lt4) trodAll_mk0))))), rfl, bel.frame _, fun h => by cases h⟩

theorem over : Rows.runGroupRow.holds Tryz.pinned (OpenSpec.ofChange Rows.runGroupSpec) :=
  OpenClaim.holds_of_wide 13 Tryz.f13 rfl rfl rfl rfl rfl rfl rfl ⟨rfl, rfl, rfl, rfl, rfl⟩ rfl rfl rfl rfl rfl (by kernel_rfl) Tryz.func13 (by kernel_rfl)
    (of_decide_eq_true (by kernel_rfl)) (by unfold Func.isWrapper; first | (rw [if_pos (by decide +kernel)]; kernel_rfl) | (rw [if_neg (by decide +kernel)]; exact ⟨rfl, rfl⟩))
    (fun os started H enc _ => lifted os started H enc)

theorem proved : Rows.RunGroupSaid := over
end Go.Proofs.YtcnliipkfccohaaGreat.runGroup
