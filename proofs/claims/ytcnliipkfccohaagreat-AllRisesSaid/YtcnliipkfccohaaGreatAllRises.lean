/- All that is taken rises, none begins ahead of the end of the one before; what Find tells from the last one's end on is the next one. Conditions: none beyond the form's own. -/
import Derived.Test.YtcnliipkfccohaaGreatRows
import Derived.Test.YtcnliipkfccohaaGreatRnF
namespace Go.Proofs.YtcnliipkfccohaaGreat.allRises
open Go.Proofs.YtcnliipkfccohaaGreat
open Go.ChangeShapes Go.WideShapes Go.ChangeAt Go.RowKit Go.Deep
open Go.ChangeMaps (open_string shut_string)
set_option linter.unusedVariables false

theorem own : ownKnob Tryz.prog.godebug = none := by kernel_rfl
theorem laidOut : laidOutB Tryz.prog = true := by kernel_rfl
-- opt: 16000000
open SetM SpanM
attribute [local go_sem ↓] Go.wp_at_zero Go.wp_at_succ
attribute [local go_sem] later_cell later_frozen eqge_s4 eqgn_s4
attribute [local go_sem ↓] eql_s4 neq_s4
set_option maxRecDepth 100000 in
set_option maxHeartbeats 16000000 in
theorem walk (a0 : ByteArray) (a1 : Bool) (a2 : ByteArray) (w : World) (w0 : a0.size ≤ maxLen) (w2 : a2.size ≤ maxLen) :
    Calls Tryz.prog 10 #[.string a0, .bool a1, .string a2] w fun e w' => e = .returned (.bool true) ∧ Below w.heap.size w w' := by
  obtain ⟨o, HRD, hox⟩ := read_o a0
  have HRD := hide HRD
  cases o with
  | none =>
    clear hox
    go_enter Tryz.func10, Tryz.ntmps10
    go_wp2_with fail
    refine (HRD.out _).mono ?_
    rintro e w5 ⟨n, hn, rfl, hb5⟩
    have k0 : (n != 0) = true := by simp [hn]
    have k0' : (n == 0) = false := by simp [hn]
    have HB := hide (bl_alloc hb5 (.cells #[.int .i64 0, .string ⟨#[]⟩, .bool false, .slice none 0 0, .int .i64 0, .int .i64 0, .bool false, .slice none 0 0] 25))
    clear hb5 hn
    by_cases h1 : 30 < a0.size
    · have dh1 : decide (30 < a0.size) = true := decide_eq_true h1
      have dh1' : decide (30 < (a0.size : Int)) = true := decide_eq_true (by omega)
      go_wp2_with fail
      refine (awake16_any _).mono ?_
      rintro e w99 ⟨rfl, hb99⟩
      have HBE := hide (bl_trans HB.out hb99)
      clear hb99
      go_wp2
      go_ret
      exact ⟨rfl, HBE.out⟩
    have dh1 : decide (30 < a0.size) = false := decide_eq_false h1
    have dh1' : decide (30 < (a0.size : Int)) = false := decide_eq_false (by omega)
    by_cases h2 : 40 < a2.size
    · have dh2 : decide (40 < a2.size) = true := decide_eq_true h2
      have dh2' : decide (40 < (a2.size : Int)) = true := decide_eq_true (by omega)
      go_wp2_with fail
      refine (awake16_any _).mono ?_
      rintro e w99 ⟨rfl, hb99⟩
      have HBE := hide (bl_trans HB.out hb99)
      clear hb99
      go_wp2
      go_ret
      exact ⟨rfl, HBE.out⟩
    have dh2 : decide (40 < a2.size) = false := decide_eq_false h2
    have dh2' : decide (40 < (a2.size : Int)) = false := decide_eq_false (by omega)
    go_wp2_with fail
    refine (awake16_any _).mono ?_
    rintro e w99 ⟨rfl, hb99⟩
    have HBE := hide (bl_trans HB.out hb99)
    clear hb99
    go_wp2
    go_ret
    exact ⟨rfl, HBE.out⟩
  | some x =>
    have HV := hide (hox x rfl)
    clear hox
    go_enter Tryz.func10, Tryz.ntmps10
    go_wp2_with fail
    refine (HRD.out _).mono ?_
    rintro e w5 ⟨t, rfl, hb5, hrx, her⟩
    obtain ⟨tA, tc, htrv⟩ := rwat_len hrx.rows
    obtain ⟨tB, td, htkv⟩ := ksat_len hrx.ks
    have HTV := hide (show t.v = .agg #[.int .i64 t.k, .string t.ch, .bool t.nt, .slice tA t.rows.length tc, .int .i64 t.mi, .int .i64 t.ma, .bool t.lz, .slice tB t.kids.length td] by unfold Rt.v Rt.cs; rw [htrv, htkv])
    rw [HTV.out]
    have HRX := hide hrx
    have HER := hide her
    have HGM0 := hide (fun (h100 : a0.size ≤ 100) => show gM t ≤ 1000 ∧ sM t ≤ 1000 ∧ cnB t 16 512 = true from ⟨by have h1 := gM_le t; have h2 := pM_er t; rw [her] at h2; have := HV.out; omega, by rw [← sM_er, her]; have := HV.out; omega, by rw [cnB_er her]; exact HV.out.2.1⟩)
    have HB := hide (bl_alloc hb5 (.cells #[.int .i64 t.k, .string t.ch, .bool t.nt, .slice tA t.rows.length tc, .int .i64 t.mi, .int .i64 t.ma, .bool t.lz, .slice tB t.kids.length td] 25))
    have K5 := hide (show Cl (w5.alloc (.cells #[.int .i64 t.k, .string t.ch, .bool t.nt, .slice tA t.rows.length tc, .int .i64 t.mi, .int .i64 t.ma, .bool t.lz, .slice tB t.kids.length td] 25)) w5.heap.size [.int .i64 t.k, .string t.ch, .bool t.nt, .slice tA t.rows.length tc, .int .i64 t.mi, .int .i64 t.ma, .bool t.lz, .slice tB t.kids.length td] from cl_alloc w5 [.int .i64 t.k, .string t.ch, .bool t.nt, .slice tA t.rows.length tc, .int .i64 t.mi, .int .i64 t.ma, .bool t.lz, .slice tB t.kids.length td] _)
    clear hb5 hrx her htrv htkv
    by_cases h1 : 30 < a0.size
    · have dh1 : decide (30 < a0.size) = true := decide_eq_true h1
      have dh1' : decide (30 < (a0.size : Int)) = true := decide_eq_true (by omega)
      go_wp2_with fail
      refine (awake16_any _).mono ?_
      rintro e w99 ⟨rfl, hb99⟩
      have HBE := hide (bl_trans HB.out hb99)
      clear hb99
      go_wp2
      go_ret
      exact ⟨rfl, HBE.out⟩
    have dh1 : decide (30 < a0.size) = false := decide_eq_false h1
    have dh1' : decide (30 < (a0.size : Int)) = false := decide_eq_false (by omega)
    by_cases h2 : 40 < a2.size
    · have dh2 : decide (40 < a2.size) = true := decide_eq_true h2
      have dh2' : decide (40 < (a2.size : Int)) = true := decide_eq_true (by omega)
      go_wp2_with fail
      refine (awake16_any _).mono ?_
      rintro e w99 ⟨rfl, hb99⟩
      have HBE := hide (bl_trans HB.out hb99)
      clear hb99
      go_wp2
      go_ret
      exact ⟨rfl, HBE.out⟩
    have dh2 : decide (40 < a2.size) = false := decide_eq_false h2
    have dh2' : decide (40 < (a2.size : Int)) = false := decide_eq_false (by omega)
    have HGM := hide (HGM0.out (by omega))
    have HRX5 := hide (rx_below HRX.out (bl_alloc (bl_refl w5) (.cells #[.int .i64 t.k, .string t.ch, .bool t.nt, .slice tA t.rows.length tc, .int .i64 t.mi, .int .i64 t.ma, .bool t.lz, .slice tB t.kids.length td] 25)))
    have HALL := hide (all_any HRX5.out HGM.out.2.1 a1 a2 (by omega) 20000)
    have HFI := hide (fun W at_ (hb : Below (w5.alloc (.cells #[.int .i64 t.k, .string t.ch, .bool t.nt, .slice tA t.rows.length tc, .int .i64 t.mi, .int .i64 t.ma, .bool t.lz, .slice tB t.kids.length td] 25)).heap.size (w5.alloc (.cells #[.int .i64 t.k, .string t.ch, .bool t.nt, .slice tA t.rows.length tc, .int .i64 t.mi, .int .i64 t.ma, .bool t.lz, .slice tB t.kids.length td] 25)) W) => findX_any (rx_below HRX5.out hb) HGM.out.2.1 a1 a2 (by omega) at_ 20000)
    rw [HTV.out] at HALL HFI
    obtain ⟨k0, k1, k2, k3, k4, k5, k6, k7⟩ := (K5.out).eight
    go_wp2_with fail
    refine HALL.out.mono ?_
    clear k0 k1 k2 k3 k4 k5 k6 k7
    rintro e w6 hp
    obtain ⟨o, ho, hpo⟩ := ag_form HGM.out.2.2 hp
    rw [show fuC 20000 = 20000 from rfl] at ho
    cases o with
    | none =>
      obtain ⟨rfl, hb6⟩ := hpo
      have HB0 := hide (bl_trans HB.out hb6)
      clear hp ho hb6 HB
      have HB := HB0
      go_wp2_with fail
      refine (awake16_any _).mono ?_
      rintro e w99 ⟨rfl, hb99⟩
      have HBE := hide (bl_trans HB.out hb99)
      clear hb99
      go_wp2
      go_ret
      exact ⟨rfl, HBE.out⟩
    | some q =>
      obtain ⟨A6, c6, rfl, hb6, hms, hml⟩ := al_form hpo
      have hrs := al_rs (F := 20000) (fun f i r h => on_left _ _ h) (fun f i j p f' h hi => by have h2 := on_span h hi; exact ⟨h2.1, h2.2.1⟩) ho q rfl (Nat.le_refl _)
      have hhd := al_head ho (zero_of a2).1
      obtain ⟨ms, lft⟩ := q
      simp only at hms hrs hhd hml ⊢
      have HML := hide hml
      have HRS := hide hrs
      have HMS := hide hms
      have HB6 := hide (bl_trans HB.out hb6)
      have HN6 := hide hb6
      have K6 := hide (K5.out.bl hb6)
      have HHD := hide hhd
      clear hp ho hpo hb6 hms hrs hhd hml HB
      obtain ⟨k0, k1, k2, k3, k4, k5, k6, k7⟩ := (K6.out).eight
      go_wp2_with fail
      refine (HFI.out _ _ HN6.out).mono ?_
      clear k0 k1 k2 k3 k4 k5 k6 k7
      rintro e w7 hp
      obtain ⟨q7, hq7, A7, c7, rfl, hb7, hsp⟩ := fi_form hp
      rw [show fuC 20000 = 20000 from rfl, ← (zero_of a2).2] at hq7
      have hpl := Nat.le_trans (fiq_len hq7) HGM.out.1
      obtain ⟨qa, qb, qp, qf, qok, qn⟩ := q7
      simp only at hsp hpl ⊢
      obtain ⟨wm, hwm⟩ : ∃ W, (w7.alloc (.cells #[.int .i64 qa, .int .i64 qb, .slice A7 qp.length c7] 32)) = W := ⟨_, rfl⟩
      have HNM : Hid (Below w7.heap.size w7 wm) := hide (by rw [← hwm]; exact bl_alloc (bl_refl _) _)
      have HB7 := hide (bl_trans (bl_trans HB6.out hb7) HNM.out)
      have HN7 := hide (bl_trans hb7 HNM.out)
      have M7 : Hid (Cl wm w7.heap.size [.int .i64 qa, .int .i64 qb, .slice A7 qp.length c7]) := hide (by rw [← hwm]; exact cl_alloc w7 [.int .i64 qa, .int .i64 qb, .slice A7 qp.length c7] _)
      have S7 := hide (spat_below hsp HNM.out)
      have HPL := hide hpl
      have HW67 := hide (show w6.heap.size ≤ w7.heap.size from hb7.size)
      have K7 := hide (K6.out.bl HN7.out)
      rcases HHD.out with ⟨hnil, st, f', hfd⟩ | ⟨st, j, p, f', r, hcons, hfd⟩
      · have hq := fiq_of HGM.out.2.2 (zero_of a2).1 hq7 hfd
        unfold anS at hq
        injection hq with e1 e2 e3 e4 e5 e6
        subst hnil e1 e2 e3 e4 e5 e6
        simp only [List.length_nil] at hwm
        have m0 := M7.out.c 0 _ rfl
        have m1 := M7.out.c 1 _ rfl
        have m2 := M7.out.c 2 _ rfl
        have ms7 := M7.out.s
        clear hp hq7 hb7 hsp hpl hfd
        go_wp2_with fail
        refine wp_region_later (by kernel_rfl) (by kernel_rfl) ?_
        repeat (go_big_quiet_step (first | exact rfl))
        refine wpQuiet_nil ?_
        rintro wz ⟨⟨_, hbz⟩, rfl⟩
        clear hwm
        have HB := hide (bl_trans HB7.out hbz)
        clear hbz m0 m1 m2 ms7
        go_wp2_with fail
        refine wp_loop_rounds 2 ?_
        rw [rounds_succ]
        go_wp2_with fail
        refine (awake16_any _).mono ?_
        rintro e w99 ⟨rfl, hb99⟩
        have HBE := hide (bl_trans HB.out hb99)
        clear hb99
        go_wp2
        go_ret
        exact ⟨rfl, HBE.out⟩
      · have hq := fiq_of HGM.out.2.2 (zero_of a2).1 hq7 hfd
        unfold anS at hq
        injection hq with e1 e2 e3 e4 e5 e6
        have hl0 : 0 < ms.length := by rw [hcons]; simp
        have hm0 : ms[0] = ((qa, qb), qp) := by simp only [hcons]; rw [e1, e2, e3]; rfl
        have HL0 := hide hl0
        obtain ⟨g, B0, cB0, hA, x0, x1, x2, hs0⟩ := HMS.out 0 hl0
        rw [hm0] at x0 x1 x2 hs0
        subst hA e5 e6
        have lg : g < w6.heap.size := World.block_lt_of_cell? _ _ x0
        simp only [Nat.zero_mul, Nat.zero_add] at x0 x1 x2 hs0
        replace x0 := cell_later HN7.out x0
        replace x1 := cell_later HN7.out x1
        replace x2 := cell_later HN7.out x2
        have HSPU := hide (fun (u : Later wm) => (spans_any (.slice A7 qp.length c7) (.slice B0 qp.length cB0) _ _ u.now (spat_below S7.out u.below) (spat_below (spat_below hs0 HN7.out) u.below) HPL.out HPL.out).mono (fun e w' h => (show e = .returned (.bool true) ∧ Below u.now.heap.size u.now w' from ⟨by rw [h.1]; simp, by obtain ⟨n, hn⟩ := h.2; rw [hn]; exact bl_drewN (bl_refl _) n⟩)))
        have m0 := M7.out.c 0 _ rfl
        have m1 := M7.out.c 1 _ rfl
        have m2 := M7.out.c 2 _ rfl
        have ms7 := M7.out.s
        have lg7 : g < wm.heap.size := Nat.lt_of_lt_of_le lg HN7.out.size
        have g0 : decide ((0 : Int) < (ms.length : Int)) = true := decide_eq_true (by omega)
        have g0' : decide (0 < ms.length) = true := decide_eq_true hl0
        have i0 : (0 : Int) < (ms.length : Int) := by omega
        clear hp hq7 hb7 hsp hpl hfd hcons e1 e2 e3 e4 hm0 hs0 hl0
        go_wp2_with fail
        refine wp_region_later (by kernel_rfl) (by kernel_rfl) ?_
        repeat (go_big_quiet_step (first | (go_at_call 26; exact later_call (HSPU.out _)) | exact rfl))
        refine wpQuiet_nil ?_
        rintro wz ⟨⟨_, hbz⟩, rfl⟩
        have HBZ := hide (bl_trans HN7.out hbz)
        have MZ := hide (M7.out.bl hbz)
        clear hbz m0 m1 m2 ms7 lg7 g0 g0' i0 x0 x1 x2 hwm
        go_wp2
        go_loopw [14, 15, 16] (fun k g2 i wr => ∃ (n : Nat) (ma mb : Int) (mB : Option Addr) (mn mc : Nat), k = .bool true ∧ g2 = .int .i64 0 ∧ i = .int .i64 n ∧ 1 ≤ n ∧ n ≤ ms.length ∧ Hid (Below w6.heap.size w6 wr) ∧ Hid (Cl wr w7.heap.size [.int .i64 ma, .int .i64 mb, .slice mB mn mc])) (fun _ _ i _ => ms.length - (intOf i).toNat)
        case atStart => exact ⟨1, qa, qb, A7, qp.length, c7, rfl, rfl, rfl, Nat.le_refl _, HL0.out, HBZ, MZ⟩
        case round =>
          obtain ⟨n, ma, mb, mB, mn, mc, rfl, rfl, rfl, hn1, hn, HBR, HCM⟩ := hrel
          by_cases hlt : n < ms.length
          · obtain ⟨l, rfl⟩ : ∃ l, n = l + 1 := ⟨n - 1, by omega⟩
            have gl : decide ((l : Int) + 1 < (ms.length : Int)) = true := decide_eq_true (by omega)
            have gl' : decide (l + 1 < ms.length) = true := decide_eq_true hlt
            obtain ⟨f1, f2, f3, f4⟩ := rs_facts HGM.out.2.2 HRS.out l hlt
            obtain ⟨g1, B1, cB1, hA1, y0, y1, y2, hs1⟩ := HMS.out l (by omega)
            obtain ⟨g2, B2, cB2, hA2, z0, z1, z2, hs2⟩ := HMS.out (l + 1) hlt
            injection hA1 with hA1
            injection hA1 with hA1
            injection hA2 with hA2
            injection hA2 with hA2
            subst hA1 hA2
            obtain ⟨u1, hu1⟩ : ∃ u, ms[l] = u := ⟨_, rfl⟩
            obtain ⟨u2, hu2⟩ : ∃ u, ms[l + 1] = u := ⟨_, rfl⟩
            rw [hu1] at f1 f2 f4 y0 y1 y2 hs1
            rw [hu2] at f1 f2 f3 f4 z0 z1 z2 hs2
            obtain ⟨⟨ua, ub⟩, p1⟩ := u1
            obtain ⟨⟨va, vb⟩, p2⟩ := u2
            simp only at f1 f2 f3 f4 y0 y1 y2 hs1 z0 z1 z2 hs2
            clear hu1 hu2
            have HF4 := hide f4
            have HS2 := hide hs2
            have d1 : decide (va < ub) = false := decide_eq_false (by omega)
            have d2 : (va == ua) = false := beq_eq_false_iff_ne.2 f2
            have d3 : decide (vb < va) = false := decide_eq_false (by omega)
            have i1 : (0 : Int) ≤ (l : Int) := by omega
            have i2 : (l : Int) < (ms.length : Int) := by omega
            have i3 : (0 : Int) ≤ (l : Int) + 1 := by omega
            have i4 : (l : Int) + 1 < (ms.length : Int) := by omega
            have ei : IntKind.i64.wrap ((l : Int) + 1 - 1) = (l : Int) := by have := HML.out; unfold maxLen at this; rw [IntKind.wrap_i64]; omega
            have ei2 : IntKind.i64.wrap (l : Int) = (l : Int) := by have := HML.out; unfold maxLen at this; rw [IntKind.wrap_i64]; omega
            have en : IntKind.i64.wrap ((l : Int) + 1 + 1) = (l : Int) + 1 + 1 := by have := HML.out; unfold maxLen at this; rw [IntKind.wrap_i64]; omega
            obtain ⟨wn, hwn⟩ : ∃ W, (wr.alloc (.cells #[.int .i64 ua, .int .i64 ub, .slice B1 p1.length cB1] 32)) = W := ⟨_, rfl⟩
            have HNN : Hid (Below wr.heap.size wr wn) := hide (by rw [← hwn]; exact bl_alloc (bl_refl _) _)
            have NW : Hid (Cl wn wr.heap.size [.int .i64 ua, .int .i64 ub, .slice B1 p1.length cB1]) := hide (by rw [← hwn]; exact cl_alloc wr [.int .i64 ua, .int .i64 ub, .slice B1 p1.length cB1] _)
            have HBN := hide (bl_trans HBR.out HNN.out)
            have HZ0 := hide z0
            have HZ1 := hide z1
            have HZ2 := hide z2
            replace y0 := cell_later HBR.out y0
            replace y1 := cell_later HBR.out y1
            replace y2 := cell_later HBR.out y2
            replace z0 := cell_later HBN.out z0
            replace z1 := cell_later HBN.out z1
            replace z2 := cell_later HBN.out z2
            have n0 := NW.out.c 0 _ rfl
            have n1 := NW.out.c 1 _ rfl
            have n2 := NW.out.c 2 _ rfl
            have nl := NW.out.s
            have lgr : g < wr.heap.size := Nat.lt_of_lt_of_le lg HBR.out.size
            have lgn : g < wn.heap.size := Nat.lt_of_lt_of_le lg HBN.out.size
            clear hs1 hs2 f1 f2 f3 f4
            go_wp2_with fail
            refine wp_region_later (by kernel_rfl) (by kernel_rfl) ?_
            repeat (go_big_quiet_step (first | exact rfl))
            refine wpQuiet_nil ?_
            rintro wy ⟨⟨_, hby⟩, rfl⟩
            have HBY := hide (bl_trans HBN.out hby)
            have HNY := hide (bl_trans HNN.out hby)
            have HCY := hide (HCM.out.bl HNY.out)
            have NY := hide (NW.out.bl hby)
            clear hby n0 n1 n2 nl y0 y1 y2 z0 z1 z2 d1 d2 d3 lgr lgn hwn
            have n0 := NY.out.c 0 _ rfl
            have n1 := NY.out.c 1 _ rfl
            by_cases hfl : ua < ub
            rotate_left
            · have dl : decide (ua < ub) = false := decide_eq_false hfl
              clear hfl
              go_wp2
              refine ⟨?_, by first | (simp [intOf]; done) | (simp [intOf]; omega)⟩
              first
                | exact ⟨l + 1 + 1, ma, mb, mB, mn, mc, rfl, rfl, by go_num, by omega, hlt, HBY, HCY⟩
                | ((repeat apply Exists.intro); exact ⟨⟨l + 1 + 1, ma, mb, mB, mn, mc, rfl, rfl, by go_num, by omega, hlt, HBY, HCY⟩, rfl⟩)
            · have dl : decide (ua < ub) = true := decide_eq_true hfl
              have KY := hide (K6.out.bl HBY.out)
              obtain ⟨k0, k1, k2, k3, k4, k5, k6, k7⟩ := (KY.out).eight
              go_wp2_with fail
              refine (HFI.out _ _ (bl_trans HN6.out HBY.out)).mono ?_
              clear k0 k1 k2 k3 k4 k5 k6 k7 n0 n1
              rintro e w9 hp
              obtain ⟨q9, hq9, A9, c9, rfl, hb9, ho9⟩ := fi_row hp
              rw [show fuC 20000 = 20000 from rfl] at hq9
              have hpl9 := Nat.le_trans (fiq_len hq9) HGM.out.1
              obtain ⟨f9, rfl⟩ := HF4.out hfl q9 hq9
              simp only at ho9 hpl9 ⊢
              have HB9 := hide (bl_trans HBY.out hb9)
              have C9 := hide (HCY.out.bl hb9)
              obtain ⟨ws, hws⟩ : ∃ W, (((w9.setCell ⟨w7.heap.size, 0, none⟩ (.int .i64 va)).setCell ⟨w7.heap.size, 1, none⟩ (.int .i64 vb)).setCell ⟨w7.heap.size, 2, none⟩ (.slice A9 p2.length c9)) = W := ⟨_, rfl⟩
              have HBS : Hid (Below w6.heap.size w6 ws) := hide (by rw [← hws]; exact bl_set (bl_set (bl_set HB9.out HW67.out _) HW67.out _) HW67.out _)
              have CS : Hid (Cl ws w7.heap.size [.int .i64 va, .int .i64 vb, .slice A9 p2.length c9]) := hide (by rw [← hws]; exact ((C9.out.put 0 (.int .i64 va)).put 1 (.int .i64 vb)).put 2 (.slice A9 p2.length c9))
              have l7y := HCY.out.s
              have SS : Hid (SpAt ws (.slice A9 p2.length c9) p2) := hide (by
                rw [← hws]
                have k1 := row_kept ho9 (gr_set w9 w7.heap.size 0 (.int .i64 va)) (fun k hk e => by injection hk with hk; have := (ho9.lt k e).1; omega)
                have k2 := row_kept k1 (gr_set _ w7.heap.size 1 (.int .i64 vb)) (fun k hk e => by injection hk with hk; have := (ho9.lt k e).1; omega)
                exact own_spat (row_kept k2 (gr_set _ w7.heap.size 2 (.slice A9 p2.length c9)) (fun k hk e => by injection hk with hk; have := (ho9.lt k e).1; omega)))
              have c0 := C9.out.c 0 _ rfl
              have c1 := C9.out.c 1 _ rfl
              have c2 := C9.out.c 2 _ rfl
              have cf := C9.out.f
              have cl := C9.out.s
              have s0 := CS.out.c 0 _ rfl
              have s1 := CS.out.c 1 _ rfl
              have s2 := CS.out.c 2 _ rfl
              have sl := CS.out.s
              have z0 := cell_later HBS.out HZ0.out
              have z1 := cell_later HBS.out HZ1.out
              have z2 := cell_later HBS.out HZ2.out
              have lgs : g < ws.heap.size := Nat.lt_of_lt_of_le lg HBS.out.size
              have HSPU9 := hide (fun (u : Later ws) => (spans_any (.slice A9 p2.length c9) (.slice B2 p2.length cB2) _ _ u.now (spat_below SS.out u.below) (spat_below (spat_below HS2.out HBS.out) u.below) hpl9 hpl9).mono (fun e w' h => (show e = .returned (.bool true) ∧ Below u.now.heap.size u.now w' from ⟨by rw [h.1]; simp, by obtain ⟨n, hn⟩ := h.2; rw [hn]; exact bl_drewN (bl_refl _) n⟩)))
              clear hp hq9 hb9 ho9 hpl9 hfl l7y
              go_wp2_with fail
              refine wp_region_later (by kernel_rfl) (by kernel_rfl) ?_
              repeat (go_big_quiet_step (first | (go_at_call 26; exact later_call (HSPU9.out _)) | exact rfl))
              refine wpQuiet_nil ?_
              rintro wx ⟨⟨_, hbx⟩, rfl⟩
              have HBX := hide (bl_trans HBS.out hbx)
              have CX := hide (CS.out.bl hbx)
              clear hbx c0 c1 c2 cf cl s0 s1 s2 sl z0 z1 z2 lgs hws
              go_wp2
              refine ⟨?_, by first | (simp [intOf]; done) | (simp [intOf]; omega)⟩
              first
                | exact ⟨l + 1 + 1, va, vb, A9, p2.length, c9, rfl, rfl, by go_num, by omega, hlt, HBX, CX⟩
                | ((repeat apply Exists.intro); exact ⟨⟨l + 1 + 1, va, vb, A9, p2.length, c9, rfl, rfl, by go_num, by omega, hlt, HBX, CX⟩, rfl⟩)
          · obtain rfl : n = ms.length := by omega
            have gl : decide ((ms.length : Int) < (ms.length : Int)) = false := decide_eq_false (by omega)
            have gl' : decide (ms.length < ms.length) = false := decide_eq_false (by omega)
            have HB := hide (bl_trans HB6.out HBR.out)
            go_wp2_with fail
            refine (awake16_any _).mono ?_
            rintro e w99 ⟨rfl, hb99⟩
            have HBE := hide (bl_trans HB.out hb99)
            clear hb99
            go_wp2
            go_ret
            exact ⟨rfl, HBE.out⟩

set_option maxRecDepth 100000 in
theorem lifted (os : Os) (started : os.Started) (H : Type) (enc : TypeId × Value → H) :
    ReturnsInHanded {} Tryz.checked os 10 .any (Rows.allRisesSpec.pre6 enc Tryz.prog Tryz.f10 Rows.allRisesRow.domain false) (Rows.allRisesSpec.post enc Tryz.prog Tryz.f10 false true false false) := by
  refine returnsInHanded_of_change (C := Tryz.checked) own started (by kernel_rfl) Tryz.func10
    (ChangeSpec.witness6 (enc := enc) (C := Tryz.checked) false ⟨#[], #[.string ByteArray.empty, .bool false, .string ByteArray.empty], []⟩ 8 (by kernel_rfl) (by kernel_rfl) (by kernel_rfl) (by kernel_rfl)) ?_
  intro W base args ds gs before hval0 hW hcnd _
  have hval : ∀ (j : Nat) t v, Tryz.f10.params[j]? = some t → args[j]? = some v → Value.okWide Tryz.prog W .any base t v := hval0
  have hW' := hW
  obtain ⟨p, q, hA0, hV, rfl, hfz, hnd⟩ := hW
  have hA : DataW.TrodAll enc Tryz.prog W 0 (fun _ => true) true Tryz.f10.params.toList args.toList ds p := hA0
  rw [Tryz.params10] at hA hval
  obtain ⟨v0, vs0, d0, ds0, p0, q0, hargs, rfl, rfl, h0, r0⟩ := trodAll_cons hA
  obtain ⟨v1, vs1, d1, ds1, p1, q1, rfl, rfl, rfl, h1, r1⟩ := trodAll_cons r0
  obtain ⟨v2, vs2, d2, ds2, p2, q2, rfl, rfl, rfl, h2, r2⟩ := trodAll_cons r1
  obtain ⟨rfl, rfl, rfl⟩ := trodAll_nil r2
  obtain rfl : args = #[v0, v1, v2] := by cases args; simp_all
  obtain ⟨rfl, rfl⟩ := trodVars_none hV
  have k0 := h0
  have lt0 : ∀ x ∈ p0, x.block < W.heap.size := by obtain ⟨m, hm⟩ := k0; exact DataW.trod_lt m _ _ _ hm
  obtain ⟨a0, rfl, hd0, hp0, w0⟩ := open_string Tryz.underlying9 (hval 0 9 v0 rfl rfl) h0
  have k1 := h1
  have lt1 : ∀ x ∈ p1, x.block < W.heap.size := by obtain ⟨m, hm⟩ := k1; exact DataW.trod_lt m _ _ _ hm
  obtain ⟨a1, rfl, hd1, hp1⟩ := open_bool Tryz.underlying4 (hval 1 4 v1 rfl rfl) h1
  have k2 := h2
  have lt2 : ∀ x ∈ p2, x.block < W.heap.size := by obtain ⟨m, hm⟩ := k2; exact DataW.trod_lt m _ _ _ hm
  obtain ⟨a2, rfl, hd2, hp2, w2⟩ := open_string Tryz.underlying9 (hval 2 9 v2 rfl rfl) h2
  clear hA0 hval0
  refine (walk a0 a1 a2 W w0 w2).mono fun e W' ⟨he, bel⟩ => ?_
  subst he
  exact ⟨_, rfl, _, _, _, [], _, [], hW', trodAll_mk1 (shut_bool Tryz.underlying4 _), (trodAll_cons_mk (Below.trod laidOut (by kernel_rfl) (of_decide_eq_true (by kernel_rfl)) k0 bel lt0) (trodAll_cons_mk (Below.trod laidOut (by kernel_rfl) (of_decide_eq_true (by kernel_rfl)) k1 bel lt1) (trodAll_cons_mk (Below.trod laidOut (by kernel_rfl) (of_decide_eq_true (by kernel_rfl)) k2 bel lt2) trodAll_mk0))), rfl, bel.frame _, fun h => by cases h⟩

theorem over : Rows.allRisesRow.holds Tryz.pinned (OpenSpec.ofChange Rows.allRisesSpec) :=
  OpenClaim.holds_of_wide 10 Tryz.f10 rfl rfl rfl rfl rfl rfl rfl ⟨rfl, rfl, rfl, rfl, rfl⟩ rfl rfl rfl rfl rfl (by kernel_rfl) Tryz.func10 (by kernel_rfl)
    (of_decide_eq_true (by kernel_rfl)) (by unfold Func.isWrapper; first | (rw [if_pos (by decide +kernel)]; kernel_rfl) | (rw [if_neg (by decide +kernel)]; exact ⟨rfl, rfl⟩))
    (fun os started H enc _ => lifted os started H enc)

theorem proved : Rows.AllRisesSaid := over
end Go.Proofs.YtcnliipkfccohaaGreat.allRises
