/- Between first and last what is found is all of the text; it is found where the first taking is all. Conditions: none beyond the form's own. -/
import Derived.Test.YtcnliipkfccohabGreatRows
import Derived.Test.YtcnliipkfccohabGreatSnI
namespace Go.Proofs.YtcnliipkfccohabGreat.runWhole
open Go.Proofs.YtcnliipkfccohabGreat
open Go.ChangeShapes Go.WideShapes Go.ChangeAt Go.RowKit Go.Deep
open Go.ChangeMaps (open_string shut_string)
set_option linter.unusedVariables false

theorem own : ownKnob Tryz.prog.godebug = none := by kernel_rfl
theorem laidOut : laidOutB Tryz.prog = true := by kernel_rfl
-- opt: 16000000
open SetM SpanM
attribute [local go_sem ↓] Go.wp_at_zero Go.wp_at_succ
attribute [local go_sem] later_cell later_frozen eqge_s4 eqgn_s4
attribute [local go_sem ↓] eql_s4 neq_s4
set_option maxRecDepth 100000 in
set_option maxHeartbeats 16000000 in
theorem walk (a0 : ByteArray) (a1 : Bool) (a2 : ByteArray) (w : World) (w0 : a0.size ≤ maxLen) (w2 : a2.size ≤ maxLen) :
    Calls Tryz.prog 3 #[.string a0, .bool a1, .string a2] w fun e w' => e = .returned (.bool true) ∧ Below w.heap.size w w' := by
  obtain ⟨o, HRD, hox⟩ := read_o a0
  have HRD := hide HRD
  cases o with
  | none =>
    clear hox
    go_enter Tryz.func3, Tryz.ntmps3
    go_wp2_with fail
    refine (HRD.out _).mono ?_
    rintro e w5 ⟨n, hn, rfl, hb5⟩
    have k0 : (n != 0) = true := by simp [hn]
    have k0' : (n == 0) = false := by simp [hn]
    have HB := hide (bl_alloc hb5 (.cells #[.int .i64 0, .string ⟨#[]⟩, .bool false, .slice none 0 0, .int .i64 0, .int .i64 0, .bool false, .slice none 0 0] 25))
    clear hb5 hn
    by_cases h1 : 30 < a0.size
    · have dh1 : decide (30 < a0.size) = true := decide_eq_true h1
      have dh1' : decide (30 < (a0.size : Int)) = true := decide_eq_true (by omega)
      go_wp2_with fail
      refine (awake16_any _).mono ?_
      rintro e w99 ⟨rfl, hb99⟩
      have HBE := hide (bl_trans HB.out hb99)
      clear hb99
      go_wp2
      go_ret
      exact ⟨rfl, HBE.out⟩
    have dh1 : decide (30 < a0.size) = false := decide_eq_false h1
    have dh1' : decide (30 < (a0.size : Int)) = false := decide_eq_false (by omega)
    by_cases h2 : 40 < a2.size
    · have dh2 : decide (40 < a2.size) = true := decide_eq_true h2
      have dh2' : decide (40 < (a2.size : Int)) = true := decide_eq_true (by omega)
      go_wp2_with fail
      refine (awake16_any _).mono ?_
      rintro e w99 ⟨rfl, hb99⟩
      have HBE := hide (bl_trans HB.out hb99)
      clear hb99
      go_wp2
      go_ret
      exact ⟨rfl, HBE.out⟩
    have dh2 : decide (40 < a2.size) = false := decide_eq_false h2
    have dh2' : decide (40 < (a2.size : Int)) = false := decide_eq_false (by omega)
    go_wp2_with fail
    refine (awake16_any _).mono ?_
    rintro e w99 ⟨rfl, hb99⟩
    have HBE := hide (bl_trans HB.out hb99)
    clear hb99
    go_wp2
    go_ret
    exact ⟨rfl, HBE.out⟩
  | some x =>
    have HV := hide (hox x rfl)
    clear hox
    go_enter Tryz.func3, Tryz.ntmps3
    go_wp2_with fail
    refine (HRD.out _).mono ?_
    rintro e w5 ⟨t, rfl, hb5, hrx, her⟩
    obtain ⟨tA, tc, htrv⟩ := rwat_len hrx.rows
    obtain ⟨tB, td, htkv⟩ := ksat_len hrx.ks
    have HTV := hide (show t.v = .agg #[.int .i64 t.k, .string t.ch, .bool t.nt, .slice tA t.rows.length tc, .int .i64 t.mi, .int .i64 t.ma, .bool t.lz, .slice tB t.kids.length td] by unfold Rt.v Rt.cs; rw [htrv, htkv])
    rw [HTV.out]
    have HRX := hide hrx
    have HER := hide her
    have HGM0 := hide (fun (h100 : a0.size ≤ 100) => show gM t ≤ 1000 ∧ sM t ≤ 1000 ∧ cnB t 16 512 = true from ⟨by have h1 := gM_le t; have h2 := pM_er t; rw [her] at h2; have := HV.out; omega, by rw [← sM_er, her]; have := HV.out; omega, by rw [cnB_er her]; exact HV.out.2.1⟩)
    have HB := hide (bl_alloc hb5 (.cells #[.int .i64 t.k, .string t.ch, .bool t.nt, .slice tA t.rows.length tc, .int .i64 t.mi, .int .i64 t.ma, .bool t.lz, .slice tB t.kids.length td] 25))
    have K5 := hide (show Cl (w5.alloc (.cells #[.int .i64 t.k, .string t.ch, .bool t.nt, .slice tA t.rows.length tc, .int .i64 t.mi, .int .i64 t.ma, .bool t.lz, .slice tB t.kids.length td] 25)) w5.heap.size [.int .i64 t.k, .string t.ch, .bool t.nt, .slice tA t.rows.length tc, .int .i64 t.mi, .int .i64 t.ma, .bool t.lz, .slice tB t.kids.length td] from cl_alloc w5 [.int .i64 t.k, .string t.ch, .bool t.nt, .slice tA t.rows.length tc, .int .i64 t.mi, .int .i64 t.ma, .bool t.lz, .slice tB t.kids.length td] _)
    clear hb5 hrx her htrv htkv
    by_cases h1 : 30 < a0.size
    · have dh1 : decide (30 < a0.size) = true := decide_eq_true h1
      have dh1' : decide (30 < (a0.size : Int)) = true := decide_eq_true (by omega)
      go_wp2_with fail
      refine (awake16_any _).mono ?_
      rintro e w99 ⟨rfl, hb99⟩
      have HBE := hide (bl_trans HB.out hb99)
      clear hb99
      go_wp2
      go_ret
      exact ⟨rfl, HBE.out⟩
    have dh1 : decide (30 < a0.size) = false := decide_eq_false h1
    have dh1' : decide (30 < (a0.size : Int)) = false := decide_eq_false (by omega)
    by_cases h2 : 40 < a2.size
    · have dh2 : decide (40 < a2.size) = true := decide_eq_true h2
      have dh2' : decide (40 < (a2.size : Int)) = true := decide_eq_true (by omega)
      go_wp2_with fail
      refine (awake16_any _).mono ?_
      rintro e w99 ⟨rfl, hb99⟩
      have HBE := hide (bl_trans HB.out hb99)
      clear hb99
      go_wp2
      go_ret
      exact ⟨rfl, HBE.out⟩
    have dh2 : decide (40 < a2.size) = false := decide_eq_false h2
    have dh2' : decide (40 < (a2.size : Int)) = false := decide_eq_false (by omega)
    have HGM := hide (HGM0.out (by omega))
    have HPM := hide (show sM t ≤ 300 from by rw [← sM_er, HER.out]; have := HV.out; omega)
    have h240 : a2.size ≤ 40 := by omega
    obtain ⟨w6, hw6⟩ : ∃ W, (w5.alloc (.cells #[.int .i64 t.k, .string t.ch, .bool t.nt, .slice tA t.rows.length tc, .int .i64 t.mi, .int .i64 t.ma, .bool t.lz, .slice tB t.kids.length td] 25)) = W := ⟨_, rfl⟩
    have HN6 : Hid (Below w5.heap.size w5 w6) := hide (by rw [← hw6]; exact bl_alloc (bl_refl _) _)
    have HB6 : Hid (Below w.heap.size w w6) := hide (by rw [← hw6]; exact HB.out)
    have K6 : Hid (Cl w6 w5.heap.size [.int .i64 t.k, .string t.ch, .bool t.nt, .slice tA t.rows.length tc, .int .i64 t.mi, .int .i64 t.ma, .bool t.lz, .slice tB t.kids.length td]) := hide (by rw [← hw6]; exact K5.out)
    have HRX6 := hide (rx_below HRX.out HN6.out)
    obtain ⟨wa, hwa⟩ : ∃ W, (w6.alloc (.cells #[.int .i64 t.k, .string t.ch, .bool t.nt, .slice tA t.rows.length tc, .int .i64 t.mi, .int .i64 t.ma, .bool t.lz, .slice tB t.kids.length td] 25)) = W := ⟨_, rfl⟩
    have HNa : Hid (Below w6.heap.size w6 wa) := hide (by rw [← hwa]; exact bl_alloc (bl_refl _) _)
    have Ka : Hid (Cl wa w6.heap.size [.int .i64 t.k, .string t.ch, .bool t.nt, .slice tA t.rows.length tc, .int .i64 t.mi, .int .i64 t.ma, .bool t.lz, .slice tB t.kids.length td]) := hide (by rw [← hwa]; exact cl_alloc w6 [.int .i64 t.k, .string t.ch, .bool t.nt, .slice tA t.rows.length tc, .int .i64 t.mi, .int .i64 t.ma, .bool t.lz, .slice tB t.kids.length td] _)
    have HCS := hide (show t.cs = [.int .i64 t.k, .string t.ch, .bool t.nt, .slice tA t.rows.length tc, .int .i64 t.mi, .int .i64 t.ma, .bool t.lz, .slice tB t.kids.length td] from by
      have h1 := HTV.out
      unfold Rt.v at h1
      injection h1 with h1
      have h2 := congrArg Array.toList h1
      simpa using h2)
    have HRXa := hide (bar_at (g := w6.heap.size) (rx_below HRX6.out HNa.out) (fun j u hu => Ka.out.c j u (by rw [← HCS.out]; exact hu)))
    obtain ⟨wb, hwb⟩ : ∃ W, (wa.alloc (.cells #[.int .i64 8, .string ⟨#[]⟩, .bool false, .slice none 0 0, .int .i64 0, .int .i64 0, .bool false, .slice none 0 0, .int .i64 6, .string ⟨#[]⟩, .bool false, .slice none 0 0, .int .i64 0, .int .i64 0, .bool false, .slice (some ⟨w6.heap.size, 0, none⟩) 1 1, .int .i64 9, .string ⟨#[]⟩, .bool false, .slice none 0 0, .int .i64 0, .int .i64 0, .bool false, .slice none 0 0] 25)) = W := ⟨_, rfl⟩
    have HNb : Hid (Below wa.heap.size wa wb) := hide (by rw [← hwb]; exact bl_alloc (bl_refl _) _)
    have Kb : Hid (Cl wb wa.heap.size [.int .i64 8, .string ⟨#[]⟩, .bool false, .slice none 0 0, .int .i64 0, .int .i64 0, .bool false, .slice none 0 0, .int .i64 6, .string ⟨#[]⟩, .bool false, .slice none 0 0, .int .i64 0, .int .i64 0, .bool false, .slice (some ⟨w6.heap.size, 0, none⟩) 1 1, .int .i64 9, .string ⟨#[]⟩, .bool false, .slice none 0 0, .int .i64 0, .int .i64 0, .bool false, .slice none 0 0]) := hide (by rw [← hwb]; exact cl_alloc wa [.int .i64 8, .string ⟨#[]⟩, .bool false, .slice none 0 0, .int .i64 0, .int .i64 0, .bool false, .slice none 0 0, .int .i64 6, .string ⟨#[]⟩, .bool false, .slice none 0 0, .int .i64 0, .int .i64 0, .bool false, .slice (some ⟨w6.heap.size, 0, none⟩) 1 1, .int .i64 9, .string ⟨#[]⟩, .bool false, .slice none 0 0, .int .i64 0, .int .i64 0, .bool false, .slice none 0 0] _)
    have HKS := hide (ks3 (a := kT 8) (b := barT (.slice (some ⟨w6.heap.size, 0, none⟩) 1 1) t) (c := kT 9) (g := wa.heap.size) (w := wb) (fun j u hu => Kb.out.c j u hu))
    have HSEQ := hide (seqf_any _ _ wb HKS.out (l3_at (rx_below HRXa.out HNb.out)) (Nat.le_trans (l3_sL _ t) (by have := HPM.out; omega)))
    rw [zE_of] at HSEQ
    have HBb := hide (bl_trans (bl_trans HB6.out HNa.out) HNb.out)
    have HN6b := hide (bl_trans HNa.out HNb.out)
    clear HKS Kb HRXa
    obtain ⟨k0, k1, k2, k3, k4, k5, k6, k7⟩ := (K6.out).eight
    go_wp2_with fail
    refine HSEQ.out.mono ?_
    clear k0 k1 k2 k3 k4 k5 k6 k7
    rintro e w7 ⟨z, rfl, hb7, hrz, herz, _⟩
    obtain ⟨zA, zc, hzrv⟩ := rwat_len hrz.rows
    obtain ⟨zB, zd, hzkv⟩ := ksat_len hrz.ks
    have HZV := hide (show z.v = .agg #[.int .i64 z.k, .string z.ch, .bool z.nt, .slice zA z.rows.length zc, .int .i64 z.mi, .int .i64 z.ma, .bool z.lz, .slice zB z.kids.length zd] by unfold Rt.v Rt.cs; rw [hzrv, hzkv])
    rw [HZV.out]
    have HZS := hide (show sM z ≤ 305 from Nat.le_trans (zE_sM herz) (by have := HPM.out; omega))
    have HZE := hide herz
    obtain ⟨w8, hw8⟩ : ∃ W, (w7.alloc (.cells #[.int .i64 z.k, .string z.ch, .bool z.nt, .slice zA z.rows.length zc, .int .i64 z.mi, .int .i64 z.ma, .bool z.lz, .slice zB z.kids.length zd] 25)) = W := ⟨_, rfl⟩
    have HN8 : Hid (Below w7.heap.size w7 w8) := hide (by rw [← hw8]; exact bl_alloc (bl_refl _) _)
    have K8 : Hid (Cl w8 w7.heap.size [.int .i64 z.k, .string z.ch, .bool z.nt, .slice zA z.rows.length zc, .int .i64 z.mi, .int .i64 z.ma, .bool z.lz, .slice zB z.kids.length zd]) := hide (by rw [← hw8]; exact cl_alloc w7 [.int .i64 z.k, .string z.ch, .bool z.nt, .slice zA z.rows.length zc, .int .i64 z.mi, .int .i64 z.ma, .bool z.lz, .slice zB z.kids.length zd] _)
    have HRZ := hide (rx_below hrz HN8.out)
    have HB8 := hide (bl_trans (bl_trans HBb.out hb7) HN8.out)
    have HN68 := hide (bl_trans (bl_trans HN6b.out hb7) HN8.out)
    have HMAY := hide (rxmay_any HRZ.out (by have := HZS.out; omega) w8 (bl_refl _))
    rw [HZV.out] at HMAY
    clear hb7 hrz herz hzrv hzkv hwa hwb HSEQ
    obtain ⟨k0, k1, k2, k3, k4, k5, k6, k7⟩ := (K8.out).eight
    go_wp2_with fail
    refine HMAY.out.mono ?_
    clear k0 k1 k2 k3 k4 k5 k6 k7
    rintro e w9 ⟨rfl, hb9⟩
    have HB := hide (bl_trans HB8.out hb9)
    have HRZ9 := hide (rx_below HRZ.out hb9)
    have K9 := hide (K8.out.bl hb9)
    have HN69 := hide (bl_trans HN68.out hb9)
    clear hb9
    cases hcz : cnB z 16 512
    · go_wp2_with fail
      refine (awake16_any _).mono ?_
      rintro e w99 ⟨rfl, hb99⟩
      have HBE := hide (bl_trans HB.out hb99)
      clear hb99
      go_wp2
      go_ret
      exact ⟨rfl, HBE.out⟩
    have HCZ := hide hcz
    clear hcz
    have HFI := hide (findX_any HRZ9.out (by have := HZS.out; omega) a1 a2 (by omega) 0 5000)
    rw [HZV.out] at HFI
    obtain ⟨k0, k1, k2, k3, k4, k5, k6, k7⟩ := (K9.out).eight
    go_wp2_with fail
    refine HFI.out.mono ?_
    clear k0 k1 k2 k3 k4 k5 k6 k7
    rintro e wc hp
    obtain ⟨q, hq, A6, c6, rfl, hbc, _⟩ := fi_form hp
    rw [show fuC 5000 = 5000 from fuC_nat 5000 (by decide)] at hq
    obtain ⟨qa, qb, qp, qf, qok, qn⟩ := q
    simp only
    have HQ := hide hq
    obtain ⟨wd, hwd⟩ : ∃ W, (wc.alloc (.cells #[.int .i64 qa, .int .i64 qb, .slice A6 qp.length c6] 36)) = W := ⟨_, rfl⟩
    have HNd : Hid (Below wc.heap.size wc wd) := hide (by rw [← hwd]; exact bl_alloc (bl_refl _) _)
    have Md : Hid (Cl wd wc.heap.size [.int .i64 qa, .int .i64 qb, .slice A6 qp.length c6]) := hide (by rw [← hwd]; exact cl_alloc wc [.int .i64 qa, .int .i64 qb, .slice A6 qp.length c6] _)
    have HB0 := hide (bl_trans (bl_trans HB.out hbc) HNd.out)
    have HN6d := hide (bl_trans (bl_trans HN69.out hbc) HNd.out)
    have Kd := hide (K6.out.bl HN6d.out)
    have HAT := hide (at_any (rx_below HRX6.out HN6d.out) HGM.out.2.1 a1 a2 (by omega) 0 2000)
    rw [HTV.out] at HAT
    clear HB hp hq hbc
    have HB := HB0
    obtain ⟨k0, k1, k2, k3, k4, k5, k6, k7⟩ := (Kd.out).eight
    go_wp2_with fail
    refine HAT.out.mono ?_
    clear k0 k1 k2 k3 k4 k5 k6 k7
    rintro e we hp
    obtain ⟨r, hr, A7, c7, rfl, hbe, _⟩ := at_form hp
    rw [show fuC 2000 = 2000 from fuC_nat 2000 (by decide)] at hr
    have HW := hide (whole_q HGM.out.2.2 HCZ.out HZE.out HQ.out hr)
    obtain ⟨ra, rb, rp, rf, rok, rn⟩ := r
    simp only at HW ⊢
    have HW1 := hide HW.out.1
    have HW2 := hide HW.out.2.1
    have HW3 := hide HW.out.2.2
    clear HW
    obtain ⟨wf, hwf⟩ : ∃ W, (we.alloc (.cells #[.int .i64 ra, .int .i64 rb, .slice A7 rp.length c7] 36)) = W := ⟨_, rfl⟩
    have HNf : Hid (Below we.heap.size we wf) := hide (by rw [← hwf]; exact bl_alloc (bl_refl _) _)
    have Mf : Hid (Cl wf we.heap.size [.int .i64 ra, .int .i64 rb, .slice A7 rp.length c7]) := hide (by rw [← hwf]; exact cl_alloc we [.int .i64 ra, .int .i64 rb, .slice A7 rp.length c7] _)
    have HB1 := hide (bl_trans (bl_trans HB.out hbe) HNf.out)
    have Mg := hide ((Md.out.bl hbe).bl HNf.out)
    clear HB hp hr hbe
    have HB := HB1
    have m0 := (Mg.out).c 0 _ rfl
    have m1 := (Mg.out).c 1 _ rfl
    have ms := (Mg.out).s
    have n0 := (Mf.out).c 0 _ rfl
    have n1 := (Mf.out).c 1 _ rfl
    have ns := (Mf.out).s
    cases qok
    · have HOK : Hid (qn = 0 ∨ qn = 9) := HW1
      rcases HOK.out with h5 | h5
      · subst h5
        by_cases e1 : rn = 0
        · subst e1
          cases rok
          · go_wp2_with fail
            refine (awake16_any _).mono ?_
            rintro e w99 ⟨rfl, hb99⟩
            have HBE := hide (bl_trans HB.out hb99)
            clear hb99
            go_wp2
            go_ret
            exact ⟨rfl, HBE.out⟩
          · by_cases e3 : rb < (a2.size : Int)
            · have g3 : decide (rb < (a2.size : Int)) = true := decide_eq_true e3
              go_wp2_with fail
              refine (awake16_any _).mono ?_
              rintro e w99 ⟨rfl, hb99⟩
              have HBE := hide (bl_trans HB.out hb99)
              clear hb99
              go_wp2
              go_ret
              exact ⟨rfl, HBE.out⟩
            · have g3 : decide (rb < (a2.size : Int)) = false := decide_eq_false e3
              exact absurd (HW3.out rfl rfl e3) (by decide)

        · have g1 : (rn != 0) = true := by simp [e1]
          go_wp2_with fail
          refine (awake16_any _).mono ?_
          rintro e w99 ⟨rfl, hb99⟩
          have HBE := hide (bl_trans HB.out hb99)
          clear hb99
          go_wp2
          go_ret
          exact ⟨rfl, HBE.out⟩
      · subst h5
        by_cases e1 : rn = 0
        · subst e1
          cases rok
          · go_wp2_with fail
            refine (awake16_any _).mono ?_
            rintro e w99 ⟨rfl, hb99⟩
            have HBE := hide (bl_trans HB.out hb99)
            clear hb99
            go_wp2
            go_ret
            exact ⟨rfl, HBE.out⟩
          · by_cases e3 : rb < (a2.size : Int)
            · have g3 : decide (rb < (a2.size : Int)) = true := decide_eq_true e3
              go_wp2_with fail
              refine (awake16_any _).mono ?_
              rintro e w99 ⟨rfl, hb99⟩
              have HBE := hide (bl_trans HB.out hb99)
              clear hb99
              go_wp2
              go_ret
              exact ⟨rfl, HBE.out⟩
            · have g3 : decide (rb < (a2.size : Int)) = false := decide_eq_false e3
              exact absurd (HW3.out rfl rfl e3) (by decide)

        · have g1 : (rn != 0) = true := by simp [e1]
          go_wp2_with fail
          refine (awake16_any _).mono ?_
          rintro e w99 ⟨rfl, hb99⟩
          have HBE := hide (bl_trans HB.out hb99)
          clear hb99
          go_wp2
          go_ret
          exact ⟨rfl, HBE.out⟩
    · obtain ⟨h5, h6, h7⟩ := HW2.out rfl
      subst h5 h6
      replace h7 := h7.symm
      subst h7
      by_cases e1 : rn = 0
      · subst e1
        cases rok
        · go_wp2_with fail
          refine (awake16_any _).mono ?_
          rintro e w99 ⟨rfl, hb99⟩
          have HBE := hide (bl_trans HB.out hb99)
          clear hb99
          go_wp2
          go_ret
          exact ⟨rfl, HBE.out⟩
        · by_cases e3 : rb < (a2.size : Int)
          · have g3 : decide (rb < (a2.size : Int)) = true := decide_eq_true e3
            go_wp2_with fail
            refine (awake16_any _).mono ?_
            rintro e w99 ⟨rfl, hb99⟩
            have HBE := hide (bl_trans HB.out hb99)
            clear hb99
            go_wp2
            go_ret
            exact ⟨rfl, HBE.out⟩
          · have g3 : decide (rb < (a2.size : Int)) = false := decide_eq_false e3
            go_wp2_with fail
            refine (awake16_any _).mono ?_
            rintro e w99 ⟨rfl, hb99⟩
            have HBE := hide (bl_trans HB.out hb99)
            clear hb99
            go_wp2
            go_ret
            exact ⟨rfl, HBE.out⟩

      · have g1 : (rn != 0) = true := by simp [e1]
        go_wp2_with fail
        refine (awake16_any _).mono ?_
        rintro e w99 ⟨rfl, hb99⟩
        have HBE := hide (bl_trans HB.out hb99)
        clear hb99
        go_wp2
        go_ret
        exact ⟨rfl, HBE.out⟩

set_option maxRecDepth 100000 in
theorem lifted (os : Os) (started : os.Started) (H : Type) (enc : TypeId × Value → H) :
    ReturnsInHanded {} Tryz.checked os 3 .any (Rows.runWholeSpec.pre6 enc Tryz.prog Tryz.f3 Rows.runWholeRow.domain false) (Rows.runWholeSpec.post enc Tryz.prog Tryz.f3 false true false false) := by
  refine returnsInHanded_of_change (C := Tryz.checked) own started (by kernel_rfl) Tryz.func3
    (ChangeSpec.witness6 (enc := enc) (C := Tryz.checked) false ⟨#[], #[.string ByteArray.empty, .bool false, .string ByteArray.empty], []⟩ 8 (by kernel_rfl) (by kernel_rfl) (by kernel_rfl) (by kernel_rfl)) ?_
  intro W base args ds gs before hval0 hW hcnd _
  have hval : ∀ (j : Nat) t v, Tryz.f3.params[j]? = some t → args[j]? = some v → Value.okWide Tryz.prog W .any base t v := hval0
  have hW' := hW
  obtain ⟨p, q, hA0, hV, rfl, hfz, hnd⟩ := hW
  have hA : DataW.TrodAll enc Tryz.prog W 0 (fun _ => true) true Tryz.f3.params.toList args.toList ds p := hA0
  rw [Tryz.params3] at hA hval
  obtain ⟨v0, vs0, d0, ds0, p0, q0, hargs, rfl, rfl, h0, r0⟩ := trodAll_cons hA
  obtain ⟨v1, vs1, d1, ds1, p1, q1, rfl, rfl, rfl, h1, r1⟩ := trodAll_cons r0
  obtain ⟨v2, vs2, d2, ds2, p2, q2, rfl, rfl, rfl, h2, r2⟩ := trodAll_cons r1
  obtain ⟨rfl, rfl, rfl⟩ := trodAll_nil r2
  obtain rfl : args = #[v0, v1, v2] := by cases args; simp_all
  obtain ⟨rfl, rfl⟩ := trodVars_none hV
  have k0 := h0
  have lt0 : ∀ x ∈ p0, x.block < W.heap.size := by obtain ⟨m, hm⟩ := k0; exact DataW.trod_lt m _ _ _ hm
  obtain ⟨a0, rfl, hd0, hp0, w0⟩ := open_string Tryz.underlying9 (hval 0 9 v0 rfl rfl) h0
  have k1 := h1
  have lt1 : ∀ x ∈ p1, x.block < W.heap.size := by obtain ⟨m, hm⟩ := k1; exact DataW.trod_lt m _ _ _ hm
  obtain ⟨a1, rfl, hd1, hp1⟩ := open_bool Tryz.underlying4 (hval 1 4 v1 rfl rfl) h1
  have k2 := h2
  have lt2 : ∀ x ∈ p2, x.block < W.heap.size := by obtain ⟨m, hm⟩ := k2; exact DataW.trod_lt m _ _ _ hm
  obtain ⟨a2, rfl, hd2, hp2, w2⟩ := open_string Tryz.underlying9 (hval 2 9 v2 rfl rfl) h2
  clear hA0 hval0
  refine (walk a0 a1 a2 W w0 w2).mono fun e W' ⟨he, bel⟩ => ?_
  subst he
  exact ⟨_, rfl, _, _, _, [], _, [], hW', trodAll_mk1 (shut_bool Tryz.underlying4 _), (trodAll_cons_mk (Below.trod laidOut (by kernel_rfl) (of_decide_eq_true (by kernel_rfl)) k0 bel lt0) (trodAll_cons_mk (Below.trod laidOut (by kernel_rfl) (of_decide_eq_true (by kernel_rfl)) k1 bel lt1) (trodAll_cons_mk (Below.trod laidOut (by kernel_rfl) (of_decide_eq_true (by kernel_rfl)) k2 bel lt2) trodAll_mk0))), rfl, bel.frame _, fun h => by cases h⟩

theorem over : Rows.runWholeRow.holds Tryz.pinned (OpenSpec.ofChange Rows.runWholeSpec) :=
  OpenClaim.holds_of_wide 3 Tryz.f3 rfl rfl rfl rfl rfl rfl rfl ⟨rfl, rfl, rfl, rfl, rfl⟩ rfl rfl rfl rfl rfl (by kernel_rfl) Tryz.func3 (by kernel_rfl)
    (of_decide_eq_true (by kernel_rfl)) (by unfold Func.isWrapper; first | (rw [if_pos (by decide +kernel)]; kernel_rfl) | (rw [if_neg (by decide +kernel)]; exact ⟨rfl, rfl⟩))
    (fun os started H enc _ => lifted os started H enc)

theorem proved : Rows.RunWholeSaid := over
end Go.Proofs.YtcnliipkfccohabGreat.runWhole
