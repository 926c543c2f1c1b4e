/- What is taken begins at the place, and ends at a place; each part of it lies in it; there are as many parts as groups. Conditions: none beyond the form's own. -/
import Derived.Test.YtcnliipkfccohaaGreatRows
import Derived.Test.YtcnliipkfccohaaGreatRnE
namespace Go.Proofs.YtcnliipkfccohaaGreat.runSpan
open Go.Proofs.YtcnliipkfccohaaGreat
open Go.ChangeShapes Go.WideShapes Go.ChangeAt Go.RowKit Go.Deep
open Go.ChangeMaps (open_string shut_string)
set_option linter.unusedVariables false

theorem own : ownKnob Tryz.prog.godebug = none := by kernel_rfl
theorem laidOut : laidOutB Tryz.prog = true := by kernel_rfl
-- opt: 16000000
open SetM SpanM
attribute [local go_sem ↓] Go.wp_at_zero Go.wp_at_succ
attribute [local go_sem] later_cell later_frozen eqge_s4 eqgn_s4
attribute [local go_sem ↓] eql_s4 neq_s4
set_option maxRecDepth 100000 in
set_option maxHeartbeats 16000000 in
theorem walk (a0 : ByteArray) (a1 : Bool) (a2 : ByteArray) (a3 : Int) (w : World) (w0 : a0.size ≤ maxLen) (w2 : a2.size ≤ maxLen) (w3 : (Lit.int .i64 a3).wf = true) :
    Calls Tryz.prog 7 #[.string a0, .bool a1, .string a2, .int .i64 a3] w fun e w' => e = .returned (.bool true) ∧ Below w.heap.size w w' := by
  obtain ⟨o, HRD, hox⟩ := read_o a0
  have HRD := hide HRD
  cases o with
  | none =>
    clear hox
    go_enter Tryz.func7, Tryz.ntmps7
    go_wp2_with fail
    refine (HRD.out _).mono ?_
    rintro e w5 ⟨n, hn, rfl, hb5⟩
    have k0 : (n != 0) = true := by simp [hn]
    have k0' : (n == 0) = false := by simp [hn]
    have HB := hide (bl_alloc hb5 (.cells #[.int .i64 0, .string ⟨#[]⟩, .bool false, .slice none 0 0, .int .i64 0, .int .i64 0, .bool false, .slice none 0 0] 25))
    clear hb5 hn
    by_cases h1 : 40 < a0.size
    · have dh1 : decide (40 < a0.size) = true := decide_eq_true h1
      have dh1' : decide (40 < (a0.size : Int)) = true := decide_eq_true (by omega)
      go_wp2_with fail
      refine (awake16_any _).mono ?_
      rintro e w99 ⟨rfl, hb99⟩
      have HBE := hide (bl_trans HB.out hb99)
      clear hb99
      go_wp2
      go_ret
      exact ⟨rfl, HBE.out⟩
    have dh1 : decide (40 < a0.size) = false := decide_eq_false h1
    have dh1' : decide (40 < (a0.size : Int)) = false := decide_eq_false (by omega)
    by_cases h2 : 40 < a2.size
    · have dh2 : decide (40 < a2.size) = true := decide_eq_true h2
      have dh2' : decide (40 < (a2.size : Int)) = true := decide_eq_true (by omega)
      go_wp2_with fail
      refine (awake16_any _).mono ?_
      rintro e w99 ⟨rfl, hb99⟩
      have HBE := hide (bl_trans HB.out hb99)
      clear hb99
      go_wp2
      go_ret
      exact ⟨rfl, HBE.out⟩
    have dh2 : decide (40 < a2.size) = false := decide_eq_false h2
    have dh2' : decide (40 < (a2.size : Int)) = false := decide_eq_false (by omega)
    go_wp2_with fail
    refine (awake16_any _).mono ?_
    rintro e w99 ⟨rfl, hb99⟩
    have HBE := hide (bl_trans HB.out hb99)
    clear hb99
    go_wp2
    go_ret
    exact ⟨rfl, HBE.out⟩
  | some x =>
    have HV := hide (hox x rfl)
    clear hox
    obtain ⟨K, hK⟩ : ∃ n, lowN a3 (a2.size + 1) = n := ⟨_, rfl⟩
    have HL3 := hide (fun W (h : a2.size ≤ 40) => low_r a3 ((a2.size : Int) + 1) (a2.size + 1) K W (by omega) (by omega) (by omega) hK)
    clear hK
    go_enter Tryz.func7, Tryz.ntmps7
    go_wp2_with fail
    refine (HRD.out _).mono ?_
    rintro e w5 ⟨t, rfl, hb5, hrx, her⟩
    obtain ⟨tA, tc, htrv⟩ := rwat_len hrx.rows
    obtain ⟨tB, td, htkv⟩ := ksat_len hrx.ks
    have HTV := hide (show t.v = .agg #[.int .i64 t.k, .string t.ch, .bool t.nt, .slice tA t.rows.length tc, .int .i64 t.mi, .int .i64 t.ma, .bool t.lz, .slice tB t.kids.length td] by unfold Rt.v Rt.cs; rw [htrv, htkv])
    rw [HTV.out]
    have HRX := hide hrx
    have HER := hide her
    have HGM0 := hide (fun (h100 : a0.size ≤ 100) => show gM t ≤ 1000 ∧ sM t ≤ 1000 ∧ cnB t 16 512 = true from ⟨by have h1 := gM_le t; have h2 := pM_er t; rw [her] at h2; have := HV.out; omega, by rw [← sM_er, her]; have := HV.out; omega, by rw [cnB_er her]; exact HV.out.2.1⟩)
    have HB := hide (bl_alloc hb5 (.cells #[.int .i64 t.k, .string t.ch, .bool t.nt, .slice tA t.rows.length tc, .int .i64 t.mi, .int .i64 t.ma, .bool t.lz, .slice tB t.kids.length td] 25))
    have K5 := hide (show Cl (w5.alloc (.cells #[.int .i64 t.k, .string t.ch, .bool t.nt, .slice tA t.rows.length tc, .int .i64 t.mi, .int .i64 t.ma, .bool t.lz, .slice tB t.kids.length td] 25)) w5.heap.size [.int .i64 t.k, .string t.ch, .bool t.nt, .slice tA t.rows.length tc, .int .i64 t.mi, .int .i64 t.ma, .bool t.lz, .slice tB t.kids.length td] from cl_alloc w5 [.int .i64 t.k, .string t.ch, .bool t.nt, .slice tA t.rows.length tc, .int .i64 t.mi, .int .i64 t.ma, .bool t.lz, .slice tB t.kids.length td] _)
    clear hb5 hrx her htrv htkv
    by_cases h1 : 40 < a0.size
    · have dh1 : decide (40 < a0.size) = true := decide_eq_true h1
      have dh1' : decide (40 < (a0.size : Int)) = true := decide_eq_true (by omega)
      go_wp2_with fail
      refine (awake16_any _).mono ?_
      rintro e w99 ⟨rfl, hb99⟩
      have HBE := hide (bl_trans HB.out hb99)
      clear hb99
      go_wp2
      go_ret
      exact ⟨rfl, HBE.out⟩
    have dh1 : decide (40 < a0.size) = false := decide_eq_false h1
    have dh1' : decide (40 < (a0.size : Int)) = false := decide_eq_false (by omega)
    by_cases h2 : 40 < a2.size
    · have dh2 : decide (40 < a2.size) = true := decide_eq_true h2
      have dh2' : decide (40 < (a2.size : Int)) = true := decide_eq_true (by omega)
      go_wp2_with fail
      refine (awake16_any _).mono ?_
      rintro e w99 ⟨rfl, hb99⟩
      have HBE := hide (bl_trans HB.out hb99)
      clear hb99
      go_wp2
      go_ret
      exact ⟨rfl, HBE.out⟩
    have dh2 : decide (40 < a2.size) = false := decide_eq_false h2
    have dh2' : decide (40 < (a2.size : Int)) = false := decide_eq_false (by omega)
    have HGM := hide (HGM0.out (by omega))
    have HPM := hide (show pM t ≤ 81 by rw [← pM_er, HER.out]; have := HV.out; omega)
    have h240 : a2.size ≤ 40 := by omega
    have HL4 := hide (fun W => HL3.out W h240)
    have es : IntKind.i64.wrap ((a2.size : Int) + 1) = (a2.size : Int) + 1 := by rw [IntKind.wrap_i64]; omega
    have HRX5 := hide (rx_below HRX.out (bl_alloc (bl_refl w5) (.cells #[.int .i64 t.k, .string t.ch, .bool t.nt, .slice tA t.rows.length tc, .int .i64 t.mi, .int .i64 t.ma, .bool t.lz, .slice tB t.kids.length td] 25)))
    have HAT := hide (at_any HRX5.out HGM.out.2.1 a1 a2 (by omega) ((K : Nat) : Int) 3000)
    have HPLC := hide (fun W => places_any a2 W (by omega))
    have HGRP := hide (fun W (hb : Below (w5.alloc (.cells #[.int .i64 t.k, .string t.ch, .bool t.nt, .slice tA t.rows.length tc, .int .i64 t.mi, .int .i64 t.ma, .bool t.lz, .slice tB t.kids.length td] 25)).heap.size (w5.alloc (.cells #[.int .i64 t.k, .string t.ch, .bool t.nt, .slice tA t.rows.length tc, .int .i64 t.mi, .int .i64 t.ma, .bool t.lz, .slice tB t.kids.length td] 25)) W) => groups_any HRX5.out (by have := HPM.out; omega) W hb)
    unfold PlPost at HPLC
    rw [HTV.out] at HAT HGRP
    go_wp2_with fail
    refine (HL4.out _).mono ?_
    rintro e _ ⟨rfl, rfl⟩
    obtain ⟨k0, k1, k2, k3, k4, k5, k6, k7⟩ := (K5.out).eight
    go_wp2_with fail
    refine HAT.out.mono ?_
    clear k0 k1 k2 k3 k4 k5 k6 k7
    rintro e w6 hp
    obtain ⟨q, hq, A6, c6, rfl, hb6, hsp⟩ := at_form hp
    have HOUT := hide (fun hk => atq_out HGM.out.2.2 hq hk)
    have HIN := hide (fun hk => atq_in HGM.out.2.2 hq hk)
    have HPL := hide (show q.p.length ≤ 1000 from Nat.le_trans (atq_len hq) HGM.out.1)
    obtain ⟨qa, qb, qp, qf, qok, qn⟩ := q
    simp only at HOUT HIN HPL hsp ⊢
    have S6 := hide hsp
    have HB6 := hide (bl_alloc (bl_trans HB.out hb6) (.cells #[.int .i64 qa, .int .i64 qb, .slice A6 qp.length c6] 32))
    have HN6 := hide (bl_alloc hb6 (.cells #[.int .i64 qa, .int .i64 qb, .slice A6 qp.length c6] 32))
    have M6 := hide (show Cl (w6.alloc (.cells #[.int .i64 qa, .int .i64 qb, .slice A6 qp.length c6] 32)) w6.heap.size [.int .i64 qa, .int .i64 qb, .slice A6 qp.length c6] from cl_alloc w6 [.int .i64 qa, .int .i64 qb, .slice A6 qp.length c6] _)
    clear hp hq hb6 hsp
    go_wp2_with fail
    refine (HPLC.out _).mono ?_
    rintro e w7 ⟨v, ps, rfl, hb7, hown, hps⟩
    have hp0 : 0 < ps.length := by rw [← hps.out]; exact (plGo_in a2.data.toList 0).2.2.2
    have hp1 : ps.length ≤ 1000 := by have h1 := (plGo_in a2.data.toList 0).2.2.1; have h2 : a2.data.toList.length = a2.size := Array.length_toList; rw [hps.out] at h1; omega
    rcases own_form hown with ⟨_, hz, _⟩ | ⟨pg, pc, rfl, _, hpg, _, _, hcell⟩
    · omega
    have HCP := hide (show ∀ n (h : n < ps.length), w7.cell? ⟨pg, n, none⟩ = some (.int .i64 ((ps[n] : Nat) : Int)) from fun n h => hcell n _ (by unfold natC; rw [List.getElem?_map, List.getElem?_eq_getElem h]; rfl))
    have HPS := hide (show ps = psS a2 from hps.out.symm)
    have HB7 := hide (bl_trans HB6.out hb7)
    have MP := hide (M6.out.bl hb7)
    have SP := hide (spat_below (spat_below S6.out (bl_alloc (bl_refl w6) _)) hb7)
    have KP := hide ((K5.out.bl HN6.out).bl hb7)
    have HN7 := hide (bl_trans HN6.out hb7)
    have HP1 := hide hp1
    clear hb7 hown hps hcell hp0 hp1
    go_wp2_with fail
    go_loopw [16, 17, 19] (fun p e j wr => ∃ (n : Nat) (b1 b2 : Bool), p = .bool b1 ∧ e = .bool b2 ∧ j = .int .i64 n ∧ n ≤ ps.length ∧ Hid (Below w7.heap.size w7 wr) ∧ Hid (b1 = anyI ps ((K : Nat) : Int) n) ∧ Hid (b2 = anyI ps qb n)) (fun _ _ j _ => ps.length - (intOf j).toNat)
    case atStart => exact ⟨0, false, false, rfl, rfl, rfl, Nat.zero_le _, hide (bl_refl w7), hide rfl, hide rfl⟩
    case round =>
      obtain ⟨n, b1, b2, rfl, rfl, rfl, hn, HBR, HE1, HE2⟩ := hrel
      have lpg : pg < wr.heap.size := Nat.lt_of_lt_of_le hpg HBR.out.size
      have m0 := (MP.out.bl HBR.out).c 0 _ rfl
      have m1 := (MP.out.bl HBR.out).c 1 _ rfl
      have m2 := (MP.out.bl HBR.out).c 2 _ rfl
      have ms := (MP.out.bl HBR.out).s
      by_cases hlt : n < ps.length
      · have c1 := cell_later HBR.out (HCP.out n hlt)
        have gl : decide ((n : Int) < (ps.length : Int)) = true := decide_eq_true (by omega)
        have gl' : decide (n < ps.length) = true := decide_eq_true hlt
        have i1 : (0 : Int) ≤ (n : Int) := by omega
        have i2 : (n : Int) < (ps.length : Int) := by omega
        have e5 : IntKind.i64.wrap ((n : Int) + 1) = (n : Int) + 1 := by have := HP1.out; rw [IntKind.wrap_i64]; omega
        obtain ⟨u, hu⟩ : ∃ u : Int, ((ps[n] : Nat) : Int) = u := ⟨_, rfl⟩
        rw [hu] at c1
        obtain ⟨r1, d1⟩ : ∃ r, (u == ((K : Nat) : Int)) = r := ⟨_, rfl⟩
        obtain ⟨r2, d2⟩ : ∃ r, (u == qb) = r := ⟨_, rfl⟩
        cases b1
        · cases b2
          · have HP2 := hide (show r1 = anyI ps ((K : Nat) : Int) (n + 1) by rw [any_step ps _ n hlt, ← HE1.out, hu, d1]; simp)
            have HQ2 := hide (show r2 = anyI ps qb (n + 1) by rw [any_step ps _ n hlt, ← HE2.out, hu, d2]; simp)
            clear hu
            go_wp2
            go_quiet (fail)
            go_wp2
            refine ⟨?_, by first | (simp [intOf]; done) | (simp [intOf]; omega)⟩
            first
              | exact ⟨n + 1, r1, r2, rfl, rfl, by go_num, hlt, hide (bl_drewN HBR.out _), HP2, HQ2⟩
              | ((repeat apply Exists.intro); exact ⟨⟨n + 1, r1, r2, rfl, rfl, by go_num, hlt, hide (bl_drewN HBR.out _), HP2, HQ2⟩, rfl⟩)
          · have HP2 := hide (show r1 = anyI ps ((K : Nat) : Int) (n + 1) by rw [any_step ps _ n hlt, ← HE1.out, hu, d1]; simp)
            have HQ2 := hide (show true = anyI ps qb (n + 1) by rw [any_step ps _ n hlt, ← HE2.out, hu, d2]; rfl)
            clear hu
            go_wp2
            go_quiet (fail)
            go_wp2
            refine ⟨?_, by first | (simp [intOf]; done) | (simp [intOf]; omega)⟩
            first
              | exact ⟨n + 1, r1, true, rfl, rfl, by go_num, hlt, hide (bl_drewN HBR.out _), HP2, HQ2⟩
              | ((repeat apply Exists.intro); exact ⟨⟨n + 1, r1, true, rfl, rfl, by go_num, hlt, hide (bl_drewN HBR.out _), HP2, HQ2⟩, rfl⟩)
        · cases b2
          · have HP2 := hide (show true = anyI ps ((K : Nat) : Int) (n + 1) by rw [any_step ps _ n hlt, ← HE1.out, hu, d1]; rfl)
            have HQ2 := hide (show r2 = anyI ps qb (n + 1) by rw [any_step ps _ n hlt, ← HE2.out, hu, d2]; simp)
            clear hu
            go_wp2
            go_quiet (fail)
            go_wp2
            refine ⟨?_, by first | (simp [intOf]; done) | (simp [intOf]; omega)⟩
            first
              | exact ⟨n + 1, true, r2, rfl, rfl, by go_num, hlt, hide (bl_drewN HBR.out _), HP2, HQ2⟩
              | ((repeat apply Exists.intro); exact ⟨⟨n + 1, true, r2, rfl, rfl, by go_num, hlt, hide (bl_drewN HBR.out _), HP2, HQ2⟩, rfl⟩)
          · have HP2 := hide (show true = anyI ps ((K : Nat) : Int) (n + 1) by rw [any_step ps _ n hlt, ← HE1.out, hu, d1]; rfl)
            have HQ2 := hide (show true = anyI ps qb (n + 1) by rw [any_step ps _ n hlt, ← HE2.out, hu, d2]; rfl)
            clear hu
            go_wp2
            go_quiet (fail)
            go_wp2
            refine ⟨?_, by first | (simp [intOf]; done) | (simp [intOf]; omega)⟩
            first
              | exact ⟨n + 1, true, true, rfl, rfl, by go_num, hlt, hide (bl_drewN HBR.out _), HP2, HQ2⟩
              | ((repeat apply Exists.intro); exact ⟨⟨n + 1, true, true, rfl, rfl, by go_num, hlt, hide (bl_drewN HBR.out _), HP2, HQ2⟩, rfl⟩)
      · obtain rfl : n = ps.length := by omega
        have gl : decide ((ps.length : Int) < (ps.length : Int)) = false := decide_eq_false (by omega)
        have gl' : decide (ps.length < ps.length) = false := decide_eq_false (by omega)
        have hkm := any_all ps ((K : Nat) : Int)
        rw [← HE1.out, HPS.out] at hkm
        have hqm := any_all ps qb
        rw [← HE2.out, HPS.out] at hqm
        have HBX := hide (bl_trans HB7.out HBR.out)
        cases b1
        · obtain ⟨h3, h4⟩ := HOUT.out (fun hk => by have := hkm.2 hk; cases this)
          subst h3 h4
          have HB := HBX
          clear hkm hqm
          go_wp2_with fail
          refine (awake16_any _).mono ?_
          rintro e w99 ⟨rfl, hb99⟩
          have HBE := hide (bl_trans HB.out hb99)
          clear hb99
          go_wp2
          go_ret
          exact ⟨rfl, HBE.out⟩
        · rcases HIN.out (hkm.1 rfl) with ⟨h3, h4⟩ | ⟨h3, h4, h5, h6, h7, h8, h9⟩
          · subst h3
            have HB := HBX
            clear hkm hqm
            rcases h4 with h4 | h4
            · subst h4
              go_wp2_with fail
              refine (awake16_any _).mono ?_
              rintro e w99 ⟨rfl, hb99⟩
              have HBE := hide (bl_trans HB.out hb99)
              clear hb99
              go_wp2
              go_ret
              exact ⟨rfl, HBE.out⟩
            · subst h4
              go_wp2_with fail
              refine (awake16_any _).mono ?_
              rintro e w99 ⟨rfl, hb99⟩
              have HBE := hide (bl_trans HB.out hb99)
              clear hb99
              go_wp2
              go_ret
              exact ⟨rfl, HBE.out⟩
          · have hb2 : b2 = true := hqm.2 h7
            subst h3 h4 h5 hb2
            have HPT := hide h9
            have f1 : decide (qb < ((K : Nat) : Int)) = false := decide_eq_false (by omega)
            have HGE := hide (show ((qp.length : Nat) : Int) = ((gM t : Nat) : Int) by rw [h8])
            have HGU := hide (fun (u : Later wr) => HGRP.out u.now (bl_trans (bl_trans HN7.out HBR.out) u.below))
            rw [← HGE.out] at HGU
            have ks := (KP.out.bl HBR.out).s
            clear hkm hqm h6 h7 h8 h9
            obtain ⟨k0, k1, k2, k3, k4, k5, k6, k7⟩ := (KP.out.bl HBR.out).eight
            go_wp2_with fail
            refine wp_region_later (by kernel_rfl) (by kernel_rfl) ?_
            repeat (go_big_quiet_step (first | (go_at_call 28; exact later_call (HGU.out _)) | exact rfl))
            refine wpQuiet_nil ?_
            rintro wz ⟨⟨_, hbz⟩, rfl⟩
            have HBZ := hide (bl_trans HBR.out hbz)
            clear m0 m1 m2 ms ks k0 k1 k2 k3 k4 k5 k6 k7
            clear hbz
            have m0 := (MP.out.bl HBZ.out).c 0 _ rfl
            have m1 := (MP.out.bl HBZ.out).c 1 _ rfl
            have m2 := (MP.out.bl HBZ.out).c 2 _ rfl
            have ms := (MP.out.bl HBZ.out).s
            go_wp2
            go_loopw [20] (fun j wy => ∃ n : Nat, j = .int .i64 n ∧ n ≤ qp.length ∧ Hid (Below w7.heap.size w7 wy)) (fun j _ => qp.length - (intOf j).toNat)
            case atStart => exact ⟨0, rfl, Nat.zero_le _, HBZ⟩
            case round =>
              obtain ⟨n, rfl, hn2, HBY⟩ := hrel
              clear m0 m1 m2 ms
              have m0 := (MP.out.bl HBY.out).c 0 _ rfl
              have m1 := (MP.out.bl HBY.out).c 1 _ rfl
              have m2 := (MP.out.bl HBY.out).c 2 _ rfl
              have ms := (MP.out.bl HBY.out).s
              by_cases hlt : n < qp.length
              · have gl2 : decide ((n : Int) < (qp.length : Int)) = true := decide_eq_true (by omega)
                have gl2' : decide (n < qp.length) = true := decide_eq_true hlt
                have i1 : (0 : Int) ≤ (n : Int) := by omega
                have i2 : (n : Int) < (qp.length : Int) := by omega
                have e5 : IntKind.i64.wrap ((n : Int) + 1) = (n : Int) + 1 := by have := HPL.out; rw [IntKind.wrap_i64]; omega
                obtain ⟨gb, go, gc, hgv, hg1, hg2, hg3, hgc⟩ := spat_some (spat_below SP.out HBY.out) (by omega)
                injection hgv with hA _ hc6
                subst hA hc6
                obtain ⟨p0, p1⟩ := hgc n hlt
                have hin := HPT.out qp[n] (List.getElem_mem hlt)
                obtain ⟨u, hu⟩ : ∃ u, qp[n] = u := ⟨_, rfl⟩
                rw [hu] at p0 p1 hin
                obtain ⟨u1, u2⟩ := u
                simp only at p0 p1 hin
                have HB2 := hide (show Below w7.heap.size w7 (wr.alloc (.cells #[.int .i64 u1, .int .i64 u2] 29)) from bl_alloc HBY.out _)
                rcases hin with hin | ⟨g1, g2, g3⟩
                · injection hin with e1 e2
                  subst e1 e2
                  clear hgc hg1 hg2 hu
                  go_wp2
                  refine ⟨?_, by first | (simp [intOf]; done) | (simp [intOf]; omega)⟩
                  first
                    | exact ⟨n + 1, by go_num, hlt, HB2⟩
                    | ((repeat apply Exists.intro); exact ⟨⟨n + 1, by go_num, hlt, HB2⟩, rfl⟩)
                · have f2 : decide (u1 < ((K : Nat) : Int)) = false := decide_eq_false (by omega)
                  have f3 : decide (qb < u2) = false := decide_eq_false (by omega)
                  have f4 : decide (u2 < u1) = false := decide_eq_false (by omega)
                  have hne : ¬ u1 = -1 := by omega
                  have f5 : decide ((u1, u2) = ((-1 : Int), (-1 : Int))) = false := decide_eq_false (fun h => by injection h with h _; exact hne h)
                  clear hgc hg1 hg2 hu g1 g2 g3
                  go_wp2
                  refine ⟨?_, by first | (simp [intOf]; done) | (simp [intOf]; omega)⟩
                  first
                    | exact ⟨n + 1, by go_num, hlt, HB2⟩
                    | ((repeat apply Exists.intro); exact ⟨⟨n + 1, by go_num, hlt, HB2⟩, rfl⟩)
              · obtain rfl : n = qp.length := by omega
                have gl2 : decide ((qp.length : Int) < (qp.length : Int)) = false := decide_eq_false (by omega)
                have gl2' : decide (qp.length < qp.length) = false := decide_eq_false (by omega)
                have HB := hide (bl_trans HB7.out HBY.out)
                clear m0 m1 m2 ms
                have m0 := (MP.out.bl HBY.out).c 0 _ rfl
                have m1 := (MP.out.bl HBY.out).c 1 _ rfl
                have m2 := (MP.out.bl HBY.out).c 2 _ rfl
                have ms := (MP.out.bl HBY.out).s
                go_wp2_with fail
                refine (awake16_any _).mono ?_
                rintro e w99 ⟨rfl, hb99⟩
                have HBE := hide (bl_trans HB.out hb99)
                clear hb99
                go_wp2
                go_ret
                exact ⟨rfl, HBE.out⟩

set_option maxRecDepth 100000 in
theorem lifted (os : Os) (started : os.Started) (H : Type) (enc : TypeId × Value → H) :
    ReturnsInHanded {} Tryz.checked os 7 .any (Rows.runSpanSpec.pre6 enc Tryz.prog Tryz.f7 Rows.runSpanRow.domain false) (Rows.runSpanSpec.post enc Tryz.prog Tryz.f7 false true false false) := by
  refine returnsInHanded_of_change (C := Tryz.checked) own started (by kernel_rfl) Tryz.func7
    (ChangeSpec.witness6 (enc := enc) (C := Tryz.checked) false ⟨#[], #[.string ByteArray.empty, .bool false, .string ByteArray.empty, .int .i64 0], []⟩ 8 (by kernel_rfl) (by kernel_rfl) (by kernel_rfl) (by kernel_rfl)) ?_
  intro W base args ds gs before hval0 hW hcnd _
  have hval : ∀ (j : Nat) t v, Tryz.f7.params[j]? = some t → args[j]? = some v → Value.okWide Tryz.prog W .any base t v := hval0
  have hW' := hW
  obtain ⟨p, q, hA0, hV, rfl, hfz, hnd⟩ := hW
  have hA : DataW.TrodAll enc Tryz.prog W 0 (fun _ => true) true Tryz.f7.params.toList args.toList ds p := hA0
  rw [Tryz.params7] at hA hval
  obtain ⟨v0, vs0, d0, ds0, p0, q0, hargs, rfl, rfl, h0, r0⟩ := trodAll_cons hA
  obtain ⟨v1, vs1, d1, ds1, p1, q1, rfl, rfl, rfl, h1, r1⟩ := trodAll_cons r0
  obtain ⟨v2, vs2, d2, ds2, p2, q2, rfl, rfl, rfl, h2, r2⟩ := trodAll_cons r1
  obtain ⟨v3, vs3, d3, ds3, p3, q3, rfl, rfl, rfl, h3, r3⟩ := trodAll_cons r2
  obtain ⟨rfl, rfl, rfl⟩ := trodAll_nil r3
  obtain rfl : args = #[v0, v1, v2, v3] := by cases args; simp_all
  obtain ⟨rfl, rfl⟩ := trodVars_none hV
  have k0 := h0
  have lt0 : ∀ x ∈ p0, x.block < W.heap.size := by obtain ⟨m, hm⟩ := k0; exact DataW.trod_lt m _ _ _ hm
  obtain ⟨a0, rfl, hd0, hp0, w0⟩ := open_string Tryz.underlying9 (hval 0 9 v0 rfl rfl) h0
  have k1 := h1
  have lt1 : ∀ x ∈ p1, x.block < W.heap.size := by obtain ⟨m, hm⟩ := k1; exact DataW.trod_lt m _ _ _ hm
  obtain ⟨a1, rfl, hd1, hp1⟩ := open_bool Tryz.underlying4 (hval 1 4 v1 rfl rfl) h1
  have k2 := h2
  have lt2 : ∀ x ∈ p2, x.block < W.heap.size := by obtain ⟨m, hm⟩ := k2; exact DataW.trod_lt m _ _ _ hm
  obtain ⟨a2, rfl, hd2, hp2, w2⟩ := open_string Tryz.underlying9 (hval 2 9 v2 rfl rfl) h2
  have k3 := h3
  have lt3 : ∀ x ∈ p3, x.block < W.heap.size := by obtain ⟨m, hm⟩ := k3; exact DataW.trod_lt m _ _ _ hm
  obtain ⟨a3, rfl, hd3, hp3, w3⟩ := open_int Tryz.underlying3 (hval 3 3 v3 rfl rfl) h3
  clear hA0 hval0
  refine (walk a0 a1 a2 a3 W w0 w2 w3).mono fun e W' ⟨he, bel⟩ => ?_
  subst he
  exact ⟨_, rfl, _, _, _, [], _, [], hW', trodAll_mk1 (shut_bool Tryz.underlying4 _), (trodAll_cons_mk (Below.trod laidOut (by kernel_rfl) (of_decide_eq_true (by kernel_rfl)) k0 bel lt0) (trodAll_cons_mk (Below.trod laidOut (by kernel_rfl) (of_decide_eq_true (by kernel_rfl)) k1 bel lt1) (trodAll_cons_mk (Below.trod laidOut (by kernel_rfl) (of_decide_eq_true (by kernel_rfl)) k2 bel lt2) (trodAll_cons_mk (Below.trod laidOut (by kernel_rfl) (of_decide_eq_true (by kernel_rfl)) k3 bel lt3) trodAll_mk0)))), rfl, bel.frame _, fun h => by cases h⟩

theorem over : Rows.runSpanRow.holds Tryz.pinned (OpenSpec.ofChange Rows.runSpanSpec) :=
  OpenClaim.holds_of_wide 7 Tryz.f7 rfl rfl rfl rfl rfl rfl rfl ⟨rfl, rfl, rfl, rfl, rfl⟩ rfl rfl rfl rfl rfl (by kernel_rfl) Tryz.func7 (by kernel_rfl)
    (of_decide_eq_true (by kernel_rfl)) (by unfold Func.isWrapper; first | (rw [if_pos (by decide +kernel)]; kernel_rfl) | (rw [if_neg (by decide +kernel)]; exact ⟨rfl, rfl⟩))
    (fun os started H enc _ => lifted os started H enc)

theorem proved : Rows.RunSpanSaid := over
end Go.Proofs.YtcnliipkfccohaaGreat.runSpan
