/- A tree that may not be is refused as such ahead of all else; fuel below 0 is none, above the most that is the most. Conditions: none beyond the form's own. -/
import Derived.Test.YtcnliipkfccohaaGreatRows
import Derived.Test.YtcnliipkfccohaaGreatRnA
namespace Go.Proofs.YtcnliipkfccohaaGreat.runCodes
open Go.Proofs.YtcnliipkfccohaaGreat
open Go.ChangeShapes Go.WideShapes Go.ChangeAt Go.RowKit Go.Deep
open Go.ChangeMaps (open_string shut_string)
set_option linter.unusedVariables false

theorem own : ownKnob Tryz.prog.godebug = none := by kernel_rfl
theorem laidOut : laidOutB Tryz.prog = true := by kernel_rfl
-- opt: 16000000
open SetM SpanM
attribute [local go_sem ↓] Go.wp_at_zero Go.wp_at_succ
attribute [local go_sem] later_cell later_frozen eqge_s4
attribute [local go_sem ↓] eql_s4
set_option maxRecDepth 100000 in
set_option maxHeartbeats 16000000 in
theorem walk (t0 : Rt) (a1 : ByteArray) (a2 : ByteArray) (a3 : Int) (a4 : Int) (w : World) (w0 : RxAt w t0) (b0 : WfX t0) (w1 : a1.size ≤ maxLen) (w2 : a2.size ≤ maxLen) (w3 : (Lit.int .i64 a3).wf = true) (w4 : (Lit.int .i64 a4).wf = true) :
    Calls Tryz.prog 11 #[t0.v, .string a1, .string a2, .int .i64 a3, .int .i64 a4] w fun e w' => e = .returned (.bool true) ∧ Below w.heap.size w w' := by
  obtain ⟨pA, pc, hprv⟩ := rwat_len w0.rows
  obtain ⟨pB, pd, hpkv⟩ := ksat_len w0.ks
  have HTV0 := hide (show t0.v = .agg #[.int .i64 t0.k, .string t0.ch, .bool t0.nt, .slice pA t0.rows.length pc, .int .i64 t0.mi, .int .i64 t0.ma, .bool t0.lz, .slice pB t0.kids.length pd] by unfold Rt.v Rt.cs; rw [hprv, hpkv])
  have HLX := hide (fun W (hb : Below w.heap.size w W) => rxl_any w0 b0 50 (by decide) (by decide) W hb)
  unfold GuPost at HLX
  have HRX0 := hide w0
  have HRC := hide (readP_cases a1.data.toList)
  rw [HTV0.out] at HLX
  rw [HTV0.out]
  have K0 := hide (show Cl (w.alloc (.cells #[.int .i64 t0.k, .string t0.ch, .bool t0.nt, .slice pA t0.rows.length pc, .int .i64 t0.mi, .int .i64 t0.ma, .bool t0.lz, .slice pB t0.kids.length pd] 25)) w.heap.size [.int .i64 t0.k, .string t0.ch, .bool t0.nt, .slice pA t0.rows.length pc, .int .i64 t0.mi, .int .i64 t0.ma, .bool t0.lz, .slice pB t0.kids.length pd] from cl_alloc w [.int .i64 t0.k, .string t0.ch, .bool t0.nt, .slice pA t0.rows.length pc, .int .i64 t0.mi, .int .i64 t0.ma, .bool t0.lz, .slice pB t0.kids.length pd] _)
  clear w0 b0 hprv hpkv
  go_enter Tryz.func11, Tryz.ntmps11
  obtain ⟨k0, k1, k2, k3, k4, k5, k6, k7⟩ := K0.out.eight
  go_wp2_with fail
  refine (HLX.out _ (bl_alloc (bl_refl w) _)).mono ?_
  clear k0 k1 k2 k3 k4 k5 k6 k7
  rintro e w1 ⟨r, rfl, hr1, hr2, HR, hb1⟩
  have HB := hide (bl_trans (bl_alloc (bl_refl w) (.cells #[.int .i64 t0.k, .string t0.ch, .bool t0.nt, .slice pA t0.rows.length pc, .int .i64 t0.mi, .int .i64 t0.ma, .bool t0.lz, .slice pB t0.kids.length pd] 25)) hb1)
  have K1 := hide (K0.out.bl hb1)
  clear hb1
  by_cases hr0 : r < 0
  · have d0 : decide (r < 0) = true := decide_eq_true hr0
    clear hr0 hr1 hr2
    go_wp2_with fail
    refine (awake16_any _).mono ?_
    rintro e w99 ⟨rfl, hb99⟩
    have HBE := hide (bl_trans HB.out hb99)
    clear hb99
    go_wp2
    go_ret
    exact ⟨rfl, HBE.out⟩
  have d0 : decide (r < 0) = false := decide_eq_false hr0
  by_cases h1 : 30 < a1.size
  · have d1 : decide (30 < a1.size) = true := decide_eq_true h1
    have d1' : decide (30 < (a1.size : Int)) = true := decide_eq_true (by omega)
    clear hr0 hr1 hr2
    go_wp2_with fail
    refine (awake16_any _).mono ?_
    rintro e w99 ⟨rfl, hb99⟩
    have HBE := hide (bl_trans HB.out hb99)
    clear hb99
    go_wp2
    go_ret
    exact ⟨rfl, HBE.out⟩
  have d1 : decide (30 < a1.size) = false := decide_eq_false h1
  have d1' : decide (30 < (a1.size : Int)) = false := decide_eq_false (by omega)
  by_cases h2 : 30 < a2.size
  · have d2 : decide (30 < a2.size) = true := decide_eq_true h2
    have d2' : decide (30 < (a2.size : Int)) = true := decide_eq_true (by omega)
    clear hr0 hr1 hr2
    go_wp2_with fail
    refine (awake16_any _).mono ?_
    rintro e w99 ⟨rfl, hb99⟩
    have HBE := hide (bl_trans HB.out hb99)
    clear hb99
    go_wp2
    go_ret
    exact ⟨rfl, HBE.out⟩
  have d2 : decide (30 < a2.size) = false := decide_eq_false h2
  have d2' : decide (30 < (a2.size : Int)) = false := decide_eq_false (by omega)
  have HS0 := hide (show sM t0 ≤ 50 by have := HR.out (by omega); omega)
  clear HR hr1 hr2 hr0
  obtain ⟨z, hz⟩ : ∃ z, cnB t0 16 512 = z := ⟨_, rfl⟩
  have HMY := hide (fun W (hb : Below w.heap.size w W) => rxmay_any HRX0.out (by have := HS0.out; omega) W hb)
  rw [hz, HTV0.out] at HMY
  unfold SmPost at HMY
  have HZ := hide hz
  clear hz
  obtain ⟨k0, k1, k2, k3, k4, k5, k6, k7⟩ := K1.out.eight
  go_wp2_with fail
  refine (HMY.out _ HB.out).mono ?_
  clear k0 k1 k2 k3 k4 k5 k6 k7
  rintro e w2 ⟨rfl, hb2⟩
  have HB2 := hide (bl_trans HB.out hb2)
  have K2 := hide (K1.out.bl hb2)
  clear hb2 HB
  cases z
  · have HA1 := hide (fun W (hb : Below w.heap.size w W) => at_any (rx_below HRX0.out hb) (by have := HS0.out; omega) false a2 (by omega) a3 a4)
    have HA2 := hide (fun W (hb : Below w.heap.size w W) => findX_any (rx_below HRX0.out hb) (by have := HS0.out; omega) true a2 (by omega) a3 a4)
    have HA3 := hide (fun W (hb : Below w.heap.size w W) => all_any (rx_below HRX0.out hb) (by have := HS0.out; omega) false a2 (by omega) a4)
    rw [HTV0.out] at HA1 HA2 HA3
    obtain ⟨k0, k1, k2, k3, k4, k5, k6, k7⟩ := K2.out.eight
    go_wp2_with fail
    refine (HA1.out _ HB2.out).mono ?_
    clear k0 k1 k2 k3 k4 k5 k6 k7
    rintro e w3 hp
    unfold AtPost at hp
    rw [if_pos HZ.out] at hp
    obtain ⟨rfl, hb3⟩ := hp
    rw [show zM = .agg #[.int .i64 0, .int .i64 0, .slice none 0 0] from rfl]
    have HB3 := hide (bl_alloc (bl_trans HB2.out hb3) (.cells #[.int .i64 0, .int .i64 0, .slice none 0 0] 32))
    have K3 := hide ((K2.out.bl hb3).bl (bl_alloc (bl_refl w3) (.cells #[.int .i64 0, .int .i64 0, .slice none 0 0] 32)))
    clear hb3
    obtain ⟨k0, k1, k2, k3, k4, k5, k6, k7⟩ := K3.out.eight
    go_wp2_with fail
    refine (HA2.out _ HB3.out).mono ?_
    clear k0 k1 k2 k3 k4 k5 k6 k7
    rintro e w4 hp
    unfold FiPost at hp
    rw [if_pos HZ.out] at hp
    obtain ⟨rfl, hb4⟩ := hp
    rw [show zM = .agg #[.int .i64 0, .int .i64 0, .slice none 0 0] from rfl]
    have HB4 := hide (bl_alloc (bl_trans HB3.out hb4) (.cells #[.int .i64 0, .int .i64 0, .slice none 0 0] 32))
    have K4 := hide ((K3.out.bl hb4).bl (bl_alloc (bl_refl w4) (.cells #[.int .i64 0, .int .i64 0, .slice none 0 0] 32)))
    clear hb4
    obtain ⟨k0, k1, k2, k3, k4, k5, k6, k7⟩ := K4.out.eight
    go_wp2_with fail
    refine (HA3.out _ HB4.out).mono ?_
    clear k0 k1 k2 k3 k4 k5 k6 k7
    rintro e w8 hp
    unfold AgPost at hp
    rw [if_pos HZ.out] at hp
    obtain ⟨rfl, hb8⟩ := hp
    have HB8 := hide (bl_trans HB4.out hb8)
    clear hb8
    have HB := HB8
    rcases HRC.out with ⟨n, hn, hnn⟩ | ⟨x, hx⟩
    · have HR := hide (fun W => read_any a1 (by omega) W _ hn)
      unfold RdPost at HR
      rw [show rt0.v = .agg #[.int .i64 0, .string ⟨#[]⟩, .bool false, .slice none 0 0, .int .i64 0, .int .i64 0, .bool false, .slice none 0 0] from rfl] at HR
      have k0 : (n != 0) = true := by simp; omega
      have k0' : (n == 0) = false := by simp; omega
      clear hn hnn
      go_wp2_with fail
      refine (HR.out _).mono ?_
      rintro e w5 ⟨rfl, hb5⟩
      have HB2 := hide (bl_alloc (bl_trans HB.out hb5) (.cells #[.int .i64 0, .string ⟨#[]⟩, .bool false, .slice none 0 0, .int .i64 0, .int .i64 0, .bool false, .slice none 0 0] 25))
      clear hb5 HB
      have HB := HB2
      go_wp2_with fail
      refine (awake16_any _).mono ?_
      rintro e w99 ⟨rfl, hb99⟩
      have HBE := hide (bl_trans HB.out hb99)
      clear hb99
      go_wp2
      go_ret
      exact ⟨rfl, HBE.out⟩
    · obtain ⟨-, -, -, -, v5, v6, v7, v8, v9, v10, -⟩ := readP_va hx
      have HR := hide (fun W => read_any a1 (by omega) W _ hx)
      unfold RdPost at HR
      have hl : a1.data.toList.length = a1.size := Array.length_toList
      rw [hl] at v7 v10
      have HV := hide (show gM x ≤ 61 ∧ sM x ≤ 1000 from ⟨by have := gM_le x; omega, by omega⟩)
      clear hx v5 v6 v7 v8 v9 v10 hl
      by_cases hf0 : 0 ≤ a4
      · have f0 : decide (0 ≤ a4) = true := decide_eq_true hf0
        by_cases hf1 : a4 ≤ 20000
        · have f1 : decide (a4 ≤ 20000) = true := decide_eq_true hf1
          clear hf0 hf1
          go_wp2_with fail
          refine (HR.out _).mono ?_
          rintro e w5 ⟨t, rfl, hb5, hrx, hfr, her⟩
          obtain ⟨tA, tc, htrv⟩ := rwat_len hrx.rows
          obtain ⟨tB, td, htkv⟩ := ksat_len hrx.ks
          have HTVt := hide (show t.v = .agg #[.int .i64 t.k, .string t.ch, .bool t.nt, .slice tA t.rows.length tc, .int .i64 t.mi, .int .i64 t.ma, .bool t.lz, .slice tB t.kids.length td] by unfold Rt.v Rt.cs; rw [htrv, htkv])
          rw [HTVt.out]
          have HRX := hide hrx
          have HGM := hide (show gM t ≤ 1000 ∧ sM t ≤ 1000 by rw [← gM_er, ← sM_er, her]; have := HV.out; omega)
          have HB5 := hide (bl_alloc (bl_trans HB.out hb5) (.cells #[.int .i64 t.k, .string t.ch, .bool t.nt, .slice tA t.rows.length tc, .int .i64 t.mi, .int .i64 t.ma, .bool t.lz, .slice tB t.kids.length td] 25))
          have K5 := hide (show Cl (w5.alloc (.cells #[.int .i64 t.k, .string t.ch, .bool t.nt, .slice tA t.rows.length tc, .int .i64 t.mi, .int .i64 t.ma, .bool t.lz, .slice tB t.kids.length td] 25)) w5.heap.size [.int .i64 t.k, .string t.ch, .bool t.nt, .slice tA t.rows.length tc, .int .i64 t.mi, .int .i64 t.ma, .bool t.lz, .slice tB t.kids.length td] from cl_alloc w5 [.int .i64 t.k, .string t.ch, .bool t.nt, .slice tA t.rows.length tc, .int .i64 t.mi, .int .i64 t.ma, .bool t.lz, .slice tB t.kids.length td] _)
          clear hb5 hrx hfr her htrv htkv HB
          have HB := HB5
          go_wp2_with fail
          refine (awake16_any _).mono ?_
          rintro e w99 ⟨rfl, hb99⟩
          have HBE := hide (bl_trans HB.out hb99)
          clear hb99
          go_wp2
          go_ret
          exact ⟨rfl, HBE.out⟩
        · have f1 : decide (a4 ≤ 20000) = false := decide_eq_false hf1
          have HFU := hide (show fuC (max (min a4 20000) 0) = fuC a4 by unfold fuC; omega)
          clear hf0 hf1
          go_wp2_with fail
          refine (HR.out _).mono ?_
          rintro e w5 ⟨t, rfl, hb5, hrx, hfr, her⟩
          obtain ⟨tA, tc, htrv⟩ := rwat_len hrx.rows
          obtain ⟨tB, td, htkv⟩ := ksat_len hrx.ks
          have HTVt := hide (show t.v = .agg #[.int .i64 t.k, .string t.ch, .bool t.nt, .slice tA t.rows.length tc, .int .i64 t.mi, .int .i64 t.ma, .bool t.lz, .slice tB t.kids.length td] by unfold Rt.v Rt.cs; rw [htrv, htkv])
          rw [HTVt.out]
          have HRX := hide hrx
          have HGM := hide (show gM t ≤ 1000 ∧ sM t ≤ 1000 by rw [← gM_er, ← sM_er, her]; have := HV.out; omega)
          have HB5 := hide (bl_alloc (bl_trans HB.out hb5) (.cells #[.int .i64 t.k, .string t.ch, .bool t.nt, .slice tA t.rows.length tc, .int .i64 t.mi, .int .i64 t.ma, .bool t.lz, .slice tB t.kids.length td] 25))
          have K5 := hide (show Cl (w5.alloc (.cells #[.int .i64 t.k, .string t.ch, .bool t.nt, .slice tA t.rows.length tc, .int .i64 t.mi, .int .i64 t.ma, .bool t.lz, .slice tB t.kids.length td] 25)) w5.heap.size [.int .i64 t.k, .string t.ch, .bool t.nt, .slice tA t.rows.length tc, .int .i64 t.mi, .int .i64 t.ma, .bool t.lz, .slice tB t.kids.length td] from cl_alloc w5 [.int .i64 t.k, .string t.ch, .bool t.nt, .slice tA t.rows.length tc, .int .i64 t.mi, .int .i64 t.ma, .bool t.lz, .slice tB t.kids.length td] _)
          clear hb5 hrx hfr her htrv htkv HB
          have HB := HB5
          have HAT := hide (fun W fu (hb : Below w5.heap.size w5 W) => at_any (rx_below HRX.out hb) HGM.out.2 true a2 (by omega) a3 fu)
          rw [HTVt.out] at HAT
          obtain ⟨k0, k1, k2, k3, k4, k5, k6, k7⟩ := K5.out.eight
          go_wp2_with fail
          refine (HAT.out _ _ (bl_alloc (bl_refl w5) _)).mono ?_
          clear k0 k1 k2 k3 k4 k5 k6 k7
          rintro e w6 hp
          obtain ⟨q, hq, A6, c6, rfl, hb6, hsp⟩ := at_form hp
          obtain ⟨qa, qb, qp, qf, qok, qn⟩ := q
          simp only at hsp ⊢
          have HQ := hide hq
          have HPL := hide (show qp.length ≤ 1000 from Nat.le_trans (atq_len hq) HGM.out.1)
          have HS6 := hide hsp
          have HB6 := hide (bl_alloc (bl_trans HB.out hb6) (.cells #[.int .i64 qa, .int .i64 qb, .slice A6 qp.length c6] 32))
          have HN6 := hide (bl_alloc (bl_trans (bl_alloc (bl_refl w5) (.cells #[.int .i64 t.k, .string t.ch, .bool t.nt, .slice tA t.rows.length tc, .int .i64 t.mi, .int .i64 t.ma, .bool t.lz, .slice tB t.kids.length td] 25)) hb6) (.cells #[.int .i64 qa, .int .i64 qb, .slice A6 qp.length c6] 32))
          have K6 := hide (K5.out.bl (bl_alloc hb6 (.cells #[.int .i64 qa, .int .i64 qb, .slice A6 qp.length c6] 32)))
          have M6 := hide (show Cl (w6.alloc (.cells #[.int .i64 qa, .int .i64 qb, .slice A6 qp.length c6] 32)) w6.heap.size [.int .i64 qa, .int .i64 qb, .slice A6 qp.length c6] from cl_alloc w6 [.int .i64 qa, .int .i64 qb, .slice A6 qp.length c6] _)
          clear hp hq hb6 hsp
          obtain ⟨k0, k1, k2, k3, k4, k5, k6, k7⟩ := K6.out.eight
          go_wp2_with fail
          refine (HAT.out _ _ HN6.out).mono ?_
          clear k0 k1 k2 k3 k4 k5 k6 k7
          rintro e w7 hp
          obtain ⟨q', hq', A7, c7, rfl, hb7, hsp⟩ := at_form hp
          rw [HFU.out] at hq'
          obtain rfl := atq_det hq' HQ.out
          simp only at hsp ⊢
          have HB7 := hide (bl_alloc (bl_trans HB6.out hb7) (.cells #[.int .i64 qa, .int .i64 qb, .slice A7 qp.length c7] 32))
          have m0 := (M6.out.bl (bl_alloc hb7 (.cells #[.int .i64 qa, .int .i64 qb, .slice A7 qp.length c7] 32))).c 0 _ rfl
          have m1 := (M6.out.bl (bl_alloc hb7 (.cells #[.int .i64 qa, .int .i64 qb, .slice A7 qp.length c7] 32))).c 1 _ rfl
          have m2 := (M6.out.bl (bl_alloc hb7 (.cells #[.int .i64 qa, .int .i64 qb, .slice A7 qp.length c7] 32))).c 2 _ rfl
          have HSP := hide (fun W (hb : Below w7.heap.size w7 W) => spans_any _ _ qp qp W (spat_below (spat_below HS6.out (bl_trans (bl_alloc (bl_refl w6) (.cells #[.int .i64 qa, .int .i64 qb, .slice A6 qp.length c6] 32)) hb7)) hb) (spat_below hsp hb) HPL.out HPL.out)
          rw [show decide (qp = qp) = true by simp] at HSP
          clear hp hq' hb7 hsp
          go_wp2_with fail
          refine (HSP.out _ (bl_alloc (bl_refl w7) _)).mono ?_
          rintro e w8 ⟨rfl, dn, rfl⟩
          clear m0 m1 m2
          have HB := hide (bl_drewN HB7.out dn)
          go_wp2_with fail
          refine (awake16_any _).mono ?_
          rintro e w99 ⟨rfl, hb99⟩
          have HBE := hide (bl_trans HB.out hb99)
          clear hb99
          go_wp2
          go_ret
          exact ⟨rfl, HBE.out⟩
      · have f0 : decide (0 ≤ a4) = false := decide_eq_false hf0
        have HFU := hide (show fuC (max (min a4 20000) 0) = fuC a4 by unfold fuC; omega)
        clear hf0
        go_wp2_with fail
        refine (HR.out _).mono ?_
        rintro e w5 ⟨t, rfl, hb5, hrx, hfr, her⟩
        obtain ⟨tA, tc, htrv⟩ := rwat_len hrx.rows
        obtain ⟨tB, td, htkv⟩ := ksat_len hrx.ks
        have HTVt := hide (show t.v = .agg #[.int .i64 t.k, .string t.ch, .bool t.nt, .slice tA t.rows.length tc, .int .i64 t.mi, .int .i64 t.ma, .bool t.lz, .slice tB t.kids.length td] by unfold Rt.v Rt.cs; rw [htrv, htkv])
        rw [HTVt.out]
        have HRX := hide hrx
        have HGM := hide (show gM t ≤ 1000 ∧ sM t ≤ 1000 by rw [← gM_er, ← sM_er, her]; have := HV.out; omega)
        have HB5 := hide (bl_alloc (bl_trans HB.out hb5) (.cells #[.int .i64 t.k, .string t.ch, .bool t.nt, .slice tA t.rows.length tc, .int .i64 t.mi, .int .i64 t.ma, .bool t.lz, .slice tB t.kids.length td] 25))
        have K5 := hide (show Cl (w5.alloc (.cells #[.int .i64 t.k, .string t.ch, .bool t.nt, .slice tA t.rows.length tc, .int .i64 t.mi, .int .i64 t.ma, .bool t.lz, .slice tB t.kids.length td] 25)) w5.heap.size [.int .i64 t.k, .string t.ch, .bool t.nt, .slice tA t.rows.length tc, .int .i64 t.mi, .int .i64 t.ma, .bool t.lz, .slice tB t.kids.length td] from cl_alloc w5 [.int .i64 t.k, .string t.ch, .bool t.nt, .slice tA t.rows.length tc, .int .i64 t.mi, .int .i64 t.ma, .bool t.lz, .slice tB t.kids.length td] _)
        clear hb5 hrx hfr her htrv htkv HB
        have HB := HB5
        have HAT := hide (fun W fu (hb : Below w5.heap.size w5 W) => at_any (rx_below HRX.out hb) HGM.out.2 true a2 (by omega) a3 fu)
        rw [HTVt.out] at HAT
        obtain ⟨k0, k1, k2, k3, k4, k5, k6, k7⟩ := K5.out.eight
        go_wp2_with fail
        refine (HAT.out _ _ (bl_alloc (bl_refl w5) _)).mono ?_
        clear k0 k1 k2 k3 k4 k5 k6 k7
        rintro e w6 hp
        obtain ⟨q, hq, A6, c6, rfl, hb6, hsp⟩ := at_form hp
        obtain ⟨qa, qb, qp, qf, qok, qn⟩ := q
        simp only at hsp ⊢
        have HQ := hide hq
        have HPL := hide (show qp.length ≤ 1000 from Nat.le_trans (atq_len hq) HGM.out.1)
        have HS6 := hide hsp
        have HB6 := hide (bl_alloc (bl_trans HB.out hb6) (.cells #[.int .i64 qa, .int .i64 qb, .slice A6 qp.length c6] 32))
        have HN6 := hide (bl_alloc (bl_trans (bl_alloc (bl_refl w5) (.cells #[.int .i64 t.k, .string t.ch, .bool t.nt, .slice tA t.rows.length tc, .int .i64 t.mi, .int .i64 t.ma, .bool t.lz, .slice tB t.kids.length td] 25)) hb6) (.cells #[.int .i64 qa, .int .i64 qb, .slice A6 qp.length c6] 32))
        have K6 := hide (K5.out.bl (bl_alloc hb6 (.cells #[.int .i64 qa, .int .i64 qb, .slice A6 qp.length c6] 32)))
        have M6 := hide (show Cl (w6.alloc (.cells #[.int .i64 qa, .int .i64 qb, .slice A6 qp.length c6] 32)) w6.heap.size [.int .i64 qa, .int .i64 qb, .slice A6 qp.length c6] from cl_alloc w6 [.int .i64 qa, .int .i64 qb, .slice A6 qp.length c6] _)
        clear hp hq hb6 hsp
        obtain ⟨k0, k1, k2, k3, k4, k5, k6, k7⟩ := K6.out.eight
        go_wp2_with fail
        refine (HAT.out _ _ HN6.out).mono ?_
        clear k0 k1 k2 k3 k4 k5 k6 k7
        rintro e w7 hp
        obtain ⟨q', hq', A7, c7, rfl, hb7, hsp⟩ := at_form hp
        rw [HFU.out] at hq'
        obtain rfl := atq_det hq' HQ.out
        simp only at hsp ⊢
        have HB7 := hide (bl_alloc (bl_trans HB6.out hb7) (.cells #[.int .i64 qa, .int .i64 qb, .slice A7 qp.length c7] 32))
        have m0 := (M6.out.bl (bl_alloc hb7 (.cells #[.int .i64 qa, .int .i64 qb, .slice A7 qp.length c7] 32))).c 0 _ rfl
        have m1 := (M6.out.bl (bl_alloc hb7 (.cells #[.int .i64 qa, .int .i64 qb, .slice A7 qp.length c7] 32))).c 1 _ rfl
        have m2 := (M6.out.bl (bl_alloc hb7 (.cells #[.int .i64 qa, .int .i64 qb, .slice A7 qp.length c7] 32))).c 2 _ rfl
        have HSP := hide (fun W (hb : Below w7.heap.size w7 W) => spans_any _ _ qp qp W (spat_below (spat_below HS6.out (bl_trans (bl_alloc (bl_refl w6) (.cells #[.int .i64 qa, .int .i64 qb, .slice A6 qp.length c6] 32)) hb7)) hb) (spat_below hsp hb) HPL.out HPL.out)
        rw [show decide (qp = qp) = true by simp] at HSP
        clear hp hq' hb7 hsp
        go_wp2_with fail
        refine (HSP.out _ (bl_alloc (bl_refl w7) _)).mono ?_
        rintro e w8 ⟨rfl, dn, rfl⟩
        clear m0 m1 m2
        have HB := hide (bl_drewN HB7.out dn)
        go_wp2_with fail
        refine (awake16_any _).mono ?_
        rintro e w99 ⟨rfl, hb99⟩
        have HBE := hide (bl_trans HB.out hb99)
        clear hb99
        go_wp2
        go_ret
        exact ⟨rfl, HBE.out⟩
  · have HB := HB2
    rcases HRC.out with ⟨n, hn, hnn⟩ | ⟨x, hx⟩
    · have HR := hide (fun W => read_any a1 (by omega) W _ hn)
      unfold RdPost at HR
      rw [show rt0.v = .agg #[.int .i64 0, .string ⟨#[]⟩, .bool false, .slice none 0 0, .int .i64 0, .int .i64 0, .bool false, .slice none 0 0] from rfl] at HR
      have k0 : (n != 0) = true := by simp; omega
      have k0' : (n == 0) = false := by simp; omega
      clear hn hnn
      go_wp2_with fail
      refine (HR.out _).mono ?_
      rintro e w5 ⟨rfl, hb5⟩
      have HB2 := hide (bl_alloc (bl_trans HB.out hb5) (.cells #[.int .i64 0, .string ⟨#[]⟩, .bool false, .slice none 0 0, .int .i64 0, .int .i64 0, .bool false, .slice none 0 0] 25))
      clear hb5 HB
      have HB := HB2
      go_wp2_with fail
      refine (awake16_any _).mono ?_
      rintro e w99 ⟨rfl, hb99⟩
      have HBE := hide (bl_trans HB.out hb99)
      clear hb99
      go_wp2
      go_ret
      exact ⟨rfl, HBE.out⟩
    · obtain ⟨-, -, -, -, v5, v6, v7, v8, v9, v10, -⟩ := readP_va hx
      have HR := hide (fun W => read_any a1 (by omega) W _ hx)
      unfold RdPost at HR
      have hl : a1.data.toList.length = a1.size := Array.length_toList
      rw [hl] at v7 v10
      have HV := hide (show gM x ≤ 61 ∧ sM x ≤ 1000 from ⟨by have := gM_le x; omega, by omega⟩)
      clear hx v5 v6 v7 v8 v9 v10 hl
      by_cases hf0 : 0 ≤ a4
      · have f0 : decide (0 ≤ a4) = true := decide_eq_true hf0
        by_cases hf1 : a4 ≤ 20000
        · have f1 : decide (a4 ≤ 20000) = true := decide_eq_true hf1
          clear hf0 hf1
          go_wp2_with fail
          refine (HR.out _).mono ?_
          rintro e w5 ⟨t, rfl, hb5, hrx, hfr, her⟩
          obtain ⟨tA, tc, htrv⟩ := rwat_len hrx.rows
          obtain ⟨tB, td, htkv⟩ := ksat_len hrx.ks
          have HTVt := hide (show t.v = .agg #[.int .i64 t.k, .string t.ch, .bool t.nt, .slice tA t.rows.length tc, .int .i64 t.mi, .int .i64 t.ma, .bool t.lz, .slice tB t.kids.length td] by unfold Rt.v Rt.cs; rw [htrv, htkv])
          rw [HTVt.out]
          have HRX := hide hrx
          have HGM := hide (show gM t ≤ 1000 ∧ sM t ≤ 1000 by rw [← gM_er, ← sM_er, her]; have := HV.out; omega)
          have HB5 := hide (bl_alloc (bl_trans HB.out hb5) (.cells #[.int .i64 t.k, .string t.ch, .bool t.nt, .slice tA t.rows.length tc, .int .i64 t.mi, .int .i64 t.ma, .bool t.lz, .slice tB t.kids.length td] 25))
          have K5 := hide (show Cl (w5.alloc (.cells #[.int .i64 t.k, .string t.ch, .bool t.nt, .slice tA t.rows.length tc, .int .i64 t.mi, .int .i64 t.ma, .bool t.lz, .slice tB t.kids.length td] 25)) w5.heap.size [.int .i64 t.k, .string t.ch, .bool t.nt, .slice tA t.rows.length tc, .int .i64 t.mi, .int .i64 t.ma, .bool t.lz, .slice tB t.kids.length td] from cl_alloc w5 [.int .i64 t.k, .string t.ch, .bool t.nt, .slice tA t.rows.length tc, .int .i64 t.mi, .int .i64 t.ma, .bool t.lz, .slice tB t.kids.length td] _)
          clear hb5 hrx hfr her htrv htkv HB
          have HB := HB5
          go_wp2_with fail
          refine (awake16_any _).mono ?_
          rintro e w99 ⟨rfl, hb99⟩
          have HBE := hide (bl_trans HB.out hb99)
          clear hb99
          go_wp2
          go_ret
          exact ⟨rfl, HBE.out⟩
        · have f1 : decide (a4 ≤ 20000) = false := decide_eq_false hf1
          have HFU := hide (show fuC (max (min a4 20000) 0) = fuC a4 by unfold fuC; omega)
          clear hf0 hf1
          go_wp2_with fail
          refine (HR.out _).mono ?_
          rintro e w5 ⟨t, rfl, hb5, hrx, hfr, her⟩
          obtain ⟨tA, tc, htrv⟩ := rwat_len hrx.rows
          obtain ⟨tB, td, htkv⟩ := ksat_len hrx.ks
          have HTVt := hide (show t.v = .agg #[.int .i64 t.k, .string t.ch, .bool t.nt, .slice tA t.rows.length tc, .int .i64 t.mi, .int .i64 t.ma, .bool t.lz, .slice tB t.kids.length td] by unfold Rt.v Rt.cs; rw [htrv, htkv])
          rw [HTVt.out]
          have HRX := hide hrx
          have HGM := hide (show gM t ≤ 1000 ∧ sM t ≤ 1000 by rw [← gM_er, ← sM_er, her]; have := HV.out; omega)
          have HB5 := hide (bl_alloc (bl_trans HB.out hb5) (.cells #[.int .i64 t.k, .string t.ch, .bool t.nt, .slice tA t.rows.length tc, .int .i64 t.mi, .int .i64 t.ma, .bool t.lz, .slice tB t.kids.length td] 25))
          have K5 := hide (show Cl (w5.alloc (.cells #[.int .i64 t.k, .string t.ch, .bool t.nt, .slice tA t.rows.length tc, .int .i64 t.mi, .int .i64 t.ma, .bool t.lz, .slice tB t.kids.length td] 25)) w5.heap.size [.int .i64 t.k, .string t.ch, .bool t.nt, .slice tA t.rows.length tc, .int .i64 t.mi, .int .i64 t.ma, .bool t.lz, .slice tB t.kids.length td] from cl_alloc w5 [.int .i64 t.k, .string t.ch, .bool t.nt, .slice tA t.rows.length tc, .int .i64 t.mi, .int .i64 t.ma, .bool t.lz, .slice tB t.kids.length td] _)
          clear hb5 hrx hfr her htrv htkv HB
          have HB := HB5
          have HAT := hide (fun W fu (hb : Below w5.heap.size w5 W) => at_any (rx_below HRX.out hb) HGM.out.2 true a2 (by omega) a3 fu)
          rw [HTVt.out] at HAT
          obtain ⟨k0, k1, k2, k3, k4, k5, k6, k7⟩ := K5.out.eight
          go_wp2_with fail
          refine (HAT.out _ _ (bl_alloc (bl_refl w5) _)).mono ?_
          clear k0 k1 k2 k3 k4 k5 k6 k7
          rintro e w6 hp
          obtain ⟨q, hq, A6, c6, rfl, hb6, hsp⟩ := at_form hp
          obtain ⟨qa, qb, qp, qf, qok, qn⟩ := q
          simp only at hsp ⊢
          have HQ := hide hq
          have HPL := hide (show qp.length ≤ 1000 from Nat.le_trans (atq_len hq) HGM.out.1)
          have HS6 := hide hsp
          have HB6 := hide (bl_alloc (bl_trans HB.out hb6) (.cells #[.int .i64 qa, .int .i64 qb, .slice A6 qp.length c6] 32))
          have HN6 := hide (bl_alloc (bl_trans (bl_alloc (bl_refl w5) (.cells #[.int .i64 t.k, .string t.ch, .bool t.nt, .slice tA t.rows.length tc, .int .i64 t.mi, .int .i64 t.ma, .bool t.lz, .slice tB t.kids.length td] 25)) hb6) (.cells #[.int .i64 qa, .int .i64 qb, .slice A6 qp.length c6] 32))
          have K6 := hide (K5.out.bl (bl_alloc hb6 (.cells #[.int .i64 qa, .int .i64 qb, .slice A6 qp.length c6] 32)))
          have M6 := hide (show Cl (w6.alloc (.cells #[.int .i64 qa, .int .i64 qb, .slice A6 qp.length c6] 32)) w6.heap.size [.int .i64 qa, .int .i64 qb, .slice A6 qp.length c6] from cl_alloc w6 [.int .i64 qa, .int .i64 qb, .slice A6 qp.length c6] _)
          clear hp hq hb6 hsp
          obtain ⟨k0, k1, k2, k3, k4, k5, k6, k7⟩ := K6.out.eight
          go_wp2_with fail
          refine (HAT.out _ _ HN6.out).mono ?_
          clear k0 k1 k2 k3 k4 k5 k6 k7
          rintro e w7 hp
          obtain ⟨q', hq', A7, c7, rfl, hb7, hsp⟩ := at_form hp
          rw [HFU.out] at hq'
          obtain rfl := atq_det hq' HQ.out
          simp only at hsp ⊢
          have HB7 := hide (bl_alloc (bl_trans HB6.out hb7) (.cells #[.int .i64 qa, .int .i64 qb, .slice A7 qp.length c7] 32))
          have m0 := (M6.out.bl (bl_alloc hb7 (.cells #[.int .i64 qa, .int .i64 qb, .slice A7 qp.length c7] 32))).c 0 _ rfl
          have m1 := (M6.out.bl (bl_alloc hb7 (.cells #[.int .i64 qa, .int .i64 qb, .slice A7 qp.length c7] 32))).c 1 _ rfl
          have m2 := (M6.out.bl (bl_alloc hb7 (.cells #[.int .i64 qa, .int .i64 qb, .slice A7 qp.length c7] 32))).c 2 _ rfl
          have HSP := hide (fun W (hb : Below w7.heap.size w7 W) => spans_any _ _ qp qp W (spat_below (spat_below HS6.out (bl_trans (bl_alloc (bl_refl w6) (.cells #[.int .i64 qa, .int .i64 qb, .slice A6 qp.length c6] 32)) hb7)) hb) (spat_below hsp hb) HPL.out HPL.out)
          rw [show decide (qp = qp) = true by simp] at HSP
          clear hp hq' hb7 hsp
          go_wp2_with fail
          refine (HSP.out _ (bl_alloc (bl_refl w7) _)).mono ?_
          rintro e w8 ⟨rfl, dn, rfl⟩
          clear m0 m1 m2
          have HB := hide (bl_drewN HB7.out dn)
          go_wp2_with fail
          refine (awake16_any _).mono ?_
          rintro e w99 ⟨rfl, hb99⟩
          have HBE := hide (bl_trans HB.out hb99)
          clear hb99
          go_wp2
          go_ret
          exact ⟨rfl, HBE.out⟩
      · have f0 : decide (0 ≤ a4) = false := decide_eq_false hf0
        have HFU := hide (show fuC (max (min a4 20000) 0) = fuC a4 by unfold fuC; omega)
        clear hf0
        go_wp2_with fail
        refine (HR.out _).mono ?_
        rintro e w5 ⟨t, rfl, hb5, hrx, hfr, her⟩
        obtain ⟨tA, tc, htrv⟩ := rwat_len hrx.rows
        obtain ⟨tB, td, htkv⟩ := ksat_len hrx.ks
        have HTVt := hide (show t.v = .agg #[.int .i64 t.k, .string t.ch, .bool t.nt, .slice tA t.rows.length tc, .int .i64 t.mi, .int .i64 t.ma, .bool t.lz, .slice tB t.kids.length td] by unfold Rt.v Rt.cs; rw [htrv, htkv])
        rw [HTVt.out]
        have HRX := hide hrx
        have HGM := hide (show gM t ≤ 1000 ∧ sM t ≤ 1000 by rw [← gM_er, ← sM_er, her]; have := HV.out; omega)
        have HB5 := hide (bl_alloc (bl_trans HB.out hb5) (.cells #[.int .i64 t.k, .string t.ch, .bool t.nt, .slice tA t.rows.length tc, .int .i64 t.mi, .int .i64 t.ma, .bool t.lz, .slice tB t.kids.length td] 25))
        have K5 := hide (show Cl (w5.alloc (.cells #[.int .i64 t.k, .string t.ch, .bool t.nt, .slice tA t.rows.length tc, .int .i64 t.mi, .int .i64 t.ma, .bool t.lz, .slice tB t.kids.length td] 25)) w5.heap.size [.int .i64 t.k, .string t.ch, .bool t.nt, .slice tA t.rows.length tc, .int .i64 t.mi, .int .i64 t.ma, .bool t.lz, .slice tB t.kids.length td] from cl_alloc w5 [.int .i64 t.k, .string t.ch, .bool t.nt, .slice tA t.rows.length tc, .int .i64 t.mi, .int .i64 t.ma, .bool t.lz, .slice tB t.kids.length td] _)
        clear hb5 hrx hfr her htrv htkv HB
        have HB := HB5
        have HAT := hide (fun W fu (hb : Below w5.heap.size w5 W) => at_any (rx_below HRX.out hb) HGM.out.2 true a2 (by omega) a3 fu)
        rw [HTVt.out] at HAT
        obtain ⟨k0, k1, k2, k3, k4, k5, k6, k7⟩ := K5.out.eight
        go_wp2_with fail
        refine (HAT.out _ _ (bl_alloc (bl_refl w5) _)).mono ?_
        clear k0 k1 k2 k3 k4 k5 k6 k7
        rintro e w6 hp
        obtain ⟨q, hq, A6, c6, rfl, hb6, hsp⟩ := at_form hp
        obtain ⟨qa, qb, qp, qf, qok, qn⟩ := q
        simp only at hsp ⊢
        have HQ := hide hq
        have HPL := hide (show qp.length ≤ 1000 from Nat.le_trans (atq_len hq) HGM.out.1)
        have HS6 := hide hsp
        have HB6 := hide (bl_alloc (bl_trans HB.out hb6) (.cells #[.int .i64 qa, .int .i64 qb, .slice A6 qp.length c6] 32))
        have HN6 := hide (bl_alloc (bl_trans (bl_alloc (bl_refl w5) (.cells #[.int .i64 t.k, .string t.ch, .bool t.nt, .slice tA t.rows.length tc, .int .i64 t.mi, .int .i64 t.ma, .bool t.lz, .slice tB t.kids.length td] 25)) hb6) (.cells #[.int .i64 qa, .int .i64 qb, .slice A6 qp.length c6] 32))
        have K6 := hide (K5.out.bl (bl_alloc hb6 (.cells #[.int .i64 qa, .int .i64 qb, .slice A6 qp.length c6] 32)))
        have M6 := hide (show Cl (w6.alloc (.cells #[.int .i64 qa, .int .i64 qb, .slice A6 qp.length c6] 32)) w6.heap.size [.int .i64 qa, .int .i64 qb, .slice A6 qp.length c6] from cl_alloc w6 [.int .i64 qa, .int .i64 qb, .slice A6 qp.length c6] _)
        clear hp hq hb6 hsp
        obtain ⟨k0, k1, k2, k3, k4, k5, k6, k7⟩ := K6.out.eight
        go_wp2_with fail
        refine (HAT.out _ _ HN6.out).mono ?_
        clear k0 k1 k2 k3 k4 k5 k6 k7
        rintro e w7 hp
        obtain ⟨q', hq', A7, c7, rfl, hb7, hsp⟩ := at_form hp
        rw [HFU.out] at hq'
        obtain rfl := atq_det hq' HQ.out
        simp only at hsp ⊢
        have HB7 := hide (bl_alloc (bl_trans HB6.out hb7) (.cells #[.int .i64 qa, .int .i64 qb, .slice A7 qp.length c7] 32))
        have m0 := (M6.out.bl (bl_alloc hb7 (.cells #[.int .i64 qa, .int .i64 qb, .slice A7 qp.length c7] 32))).c 0 _ rfl
        have m1 := (M6.out.bl (bl_alloc hb7 (.cells #[.int .i64 qa, .int .i64 qb, .slice A7 qp.length c7] 32))).c 1 _ rfl
        have m2 := (M6.out.bl (bl_alloc hb7 (.cells #[.int .i64 qa, .int .i64 qb, .slice A7 qp.length c7] 32))).c 2 _ rfl
        have HSP := hide (fun W (hb : Below w7.heap.size w7 W) => spans_any _ _ qp qp W (spat_below (spat_below HS6.out (bl_trans (bl_alloc (bl_refl w6) (.cells #[.int .i64 qa, .int .i64 qb, .slice A6 qp.length c6] 32)) hb7)) hb) (spat_below hsp hb) HPL.out HPL.out)
        rw [show decide (qp = qp) = true by simp] at HSP
        clear hp hq' hb7 hsp
        go_wp2_with fail
        refine (HSP.out _ (bl_alloc (bl_refl w7) _)).mono ?_
        rintro e w8 ⟨rfl, dn, rfl⟩
        clear m0 m1 m2
        have HB := hide (bl_drewN HB7.out dn)
        go_wp2_with fail
        refine (awake16_any _).mono ?_
        rintro e w99 ⟨rfl, hb99⟩
        have HBE := hide (bl_trans HB.out hb99)
        clear hb99
        go_wp2
        go_ret
        exact ⟨rfl, HBE.out⟩

set_option maxRecDepth 100000 in
theorem lifted (os : Os) (started : os.Started) (H : Type) (enc : TypeId × Value → H) :
    ReturnsInHanded {} Tryz.checked os 11 .any (Rows.runCodesSpec.pre6 enc Tryz.prog Tryz.f11 Rows.runCodesRow.domain false) (Rows.runCodesSpec.post enc Tryz.prog Tryz.f11 false true false false) := by
  refine returnsInHanded_of_change (C := Tryz.checked) own started (by kernel_rfl) Tryz.func11
    (ChangeSpec.witness6 (enc := enc) (C := Tryz.checked) false ⟨#[], #[.agg #[.int .i64 0, .string ByteArray.empty, .bool false, .slice none 0 0, .int .i64 0, .int .i64 0, .bool false, .slice none 0 0], .string ByteArray.empty, .string ByteArray.empty, .int .i64 0, .int .i64 0], []⟩ 8 (by kernel_rfl) (by kernel_rfl) (by kernel_rfl) (by kernel_rfl)) ?_
  intro W base args ds gs before hval0 hW hcnd _
  have hval : ∀ (j : Nat) t v, Tryz.f11.params[j]? = some t → args[j]? = some v → Value.okWide Tryz.prog W .any base t v := hval0
  have hW' := hW
  obtain ⟨p, q, hA0, hV, rfl, hfz, hnd⟩ := hW
  have hA : DataW.TrodAll enc Tryz.prog W 0 (fun _ => true) true Tryz.f11.params.toList args.toList ds p := hA0
  rw [Tryz.params11] at hA hval
  obtain ⟨v0, vs0, d0, ds0, p0, q0, hargs, rfl, rfl, h0, r0⟩ := trodAll_cons hA
  obtain ⟨v1, vs1, d1, ds1, p1, q1, rfl, rfl, rfl, h1, r1⟩ := trodAll_cons r0
  obtain ⟨v2, vs2, d2, ds2, p2, q2, rfl, rfl, rfl, h2, r2⟩ := trodAll_cons r1
  obtain ⟨v3, vs3, d3, ds3, p3, q3, rfl, rfl, rfl, h3, r3⟩ := trodAll_cons r2
  obtain ⟨v4, vs4, d4, ds4, p4, q4, rfl, rfl, rfl, h4, r4⟩ := trodAll_cons r3
  obtain ⟨rfl, rfl, rfl⟩ := trodAll_nil r4
  obtain rfl : args = #[v0, v1, v2, v3, v4] := by cases args; simp_all
  obtain ⟨rfl, rfl⟩ := trodVars_none hV
  have k0 := h0
  have lt0 : ∀ x ∈ p0, x.block < W.heap.size := by obtain ⟨m, hm⟩ := k0; exact DataW.trod_lt m _ _ _ hm
  obtain ⟨t0, rfl, w0, b0⟩ := open_rx (hval 0 25 v0 rfl rfl) h0
  have k1 := h1
  have lt1 : ∀ x ∈ p1, x.block < W.heap.size := by obtain ⟨m, hm⟩ := k1; exact DataW.trod_lt m _ _ _ hm
  obtain ⟨a1, rfl, hd1, hp1, w1⟩ := open_string Tryz.underlying9 (hval 1 9 v1 rfl rfl) h1
  have k2 := h2
  have lt2 : ∀ x ∈ p2, x.block < W.heap.size := by obtain ⟨m, hm⟩ := k2; exact DataW.trod_lt m _ _ _ hm
  obtain ⟨a2, rfl, hd2, hp2, w2⟩ := open_string Tryz.underlying9 (hval 2 9 v2 rfl rfl) h2
  have k3 := h3
  have lt3 : ∀ x ∈ p3, x.block < W.heap.size := by obtain ⟨m, hm⟩ := k3; exact DataW.trod_lt m _ _ _ hm
  obtain ⟨a3, rfl, hd3, hp3, w3⟩ := open_int Tryz.underlying3 (hval 3 3 v3 rfl rfl) h3
  have k4 := h4
  have lt4 : ∀ x ∈ p4, x.block < W.heap.size := by obtain ⟨m, hm⟩ := k4; exact DataW.trod_lt m _ _ _ hm
  obtain ⟨a4, rfl, hd4, hp4, w4⟩ := open_int Tryz.underlying3 (hval 4 3 v4 rfl rfl) h4
  clear hA0 hval0
  refine (walk t0 a1 a2 a3 a4 W w0 b0 w1 w2 w3 w4).mono fun e W' ⟨he, bel⟩ => ?_
  subst he
  exact ⟨_, rfl, _, _, _, [], _, [], hW', trodAll_mk1 (shut_bool Tryz.underlying4 _), (trodAll_cons_mk (Below.trod laidOut (by kernel_rfl) (of_decide_eq_true (by kernel_rfl)) k0 bel lt0) (trodAll_cons_mk (Below.trod laidOut (by kernel_rfl) (of_decide_eq_true (by kernel_rfl)) k1 bel lt1) (trodAll_cons_mk (Below.trod laidOut (by kernel_rfl) (of_decide_eq_true (by kernel_rfl)) k2 bel lt2) (trodAll_cons_mk (Below.trod laidOut (by kernel_rfl) (of_decide_eq_true (by kernel_rfl)) k3 bel lt3) (trodAll_cons_mk (Below.trod laidOut (by kernel_rfl) (of_decide_eq_true (by kernel_rfl)) k4 bel lt4) trodAll_mk0))))), rfl, bel.frame _, fun h => by cases h⟩

theorem over : Rows.runCodesRow.holds Tryz.pinned (OpenSpec.ofChange Rows.runCodesSpec) :=
  OpenClaim.holds_of_wide 11 Tryz.f11 rfl rfl rfl rfl rfl rfl rfl ⟨rfl, rfl, rfl, rfl, rfl⟩ rfl rfl rfl rfl rfl (by kernel_rfl) Tryz.func11 (by kernel_rfl)
    (of_decide_eq_true (by kernel_rfl)) (by unfold Func.isWrapper; first | (rw [if_pos (by decide +kernel)]; kernel_rfl) | (rw [if_neg (by decide +kernel)]; exact ⟨rfl, rfl⟩))
    (fun os started H enc _ => lifted os started H enc)

theorem proved : Rows.RunCodesSaid := over
end Go.Proofs.YtcnliipkfccohaaGreat.runCodes
