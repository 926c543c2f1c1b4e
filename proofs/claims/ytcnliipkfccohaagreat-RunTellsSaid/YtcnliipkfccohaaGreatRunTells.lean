/- Any tree, held against any text at any place, by any fuel, takes what the document tells, with its groups' parts, and leaves as much. Conditions: none beyond the form's own. -/
import Derived.Test.YtcnliipkfccohaaGreatRows
import Derived.Test.YtcnliipkfccohaaGreatRnC
namespace Go.Proofs.YtcnliipkfccohaaGreat.runTells
open Go.Proofs.YtcnliipkfccohaaGreat
open Go.ChangeShapes Go.WideShapes Go.ChangeAt Go.RowKit Go.Deep
open Go.ChangeMaps (open_string shut_string)
set_option linter.unusedVariables false

theorem own : ownKnob Tryz.prog.godebug = none := by kernel_rfl
theorem laidOut : laidOutB Tryz.prog = true := by kernel_rfl
-- opt: 16000000
open SetM SpanM
attribute [local go_sem ↓] Go.wp_at_zero Go.wp_at_succ
attribute [local go_sem] later_cell later_frozen eqge_s4 eqgn_s4
attribute [local go_sem ↓] eql_s4 neq_s4
set_option maxRecDepth 100000 in
set_option maxHeartbeats 16000000 in
theorem walk (t0 : Rt) (a1 : Bool) (a2 : ByteArray) (a3 : Int) (a4 : Int) (w : World) (w0 : RxAt w t0) (b0 : WfX t0) (w2 : a2.size ≤ maxLen) (w3 : (Lit.int .i64 a3).wf = true) (w4 : (Lit.int .i64 a4).wf = true) :
    Calls Tryz.prog 3 #[t0.v, .bool a1, .string a2, .int .i64 a3, .int .i64 a4] w fun e w' => e = .returned (.bool true) ∧ Below w.heap.size w w' := by
  obtain ⟨pA, pc, hprv⟩ := rwat_len w0.rows
  obtain ⟨pB, pd, hpkv⟩ := ksat_len w0.ks
  have HTV0 := hide (show t0.v = .agg #[.int .i64 t0.k, .string t0.ch, .bool t0.nt, .slice pA t0.rows.length pc, .int .i64 t0.mi, .int .i64 t0.ma, .bool t0.lz, .slice pB t0.kids.length pd] by unfold Rt.v Rt.cs; rw [hprv, hpkv])
  have HLX := hide (fun W (hb : Below w.heap.size w W) => rxl_any w0 b0 50 (by decide) (by decide) W hb)
  unfold GuPost at HLX
  have HRX0 := hide w0
  rw [HTV0.out] at HLX
  rw [HTV0.out]
  have K0 := hide (show Cl (w.alloc (.cells #[.int .i64 t0.k, .string t0.ch, .bool t0.nt, .slice pA t0.rows.length pc, .int .i64 t0.mi, .int .i64 t0.ma, .bool t0.lz, .slice pB t0.kids.length pd] 25)) w.heap.size [.int .i64 t0.k, .string t0.ch, .bool t0.nt, .slice pA t0.rows.length pc, .int .i64 t0.mi, .int .i64 t0.ma, .bool t0.lz, .slice pB t0.kids.length pd] from cl_alloc w [.int .i64 t0.k, .string t0.ch, .bool t0.nt, .slice pA t0.rows.length pc, .int .i64 t0.mi, .int .i64 t0.ma, .bool t0.lz, .slice pB t0.kids.length pd] _)
  clear w0 b0 hprv hpkv
  go_enter Tryz.func3, Tryz.ntmps3
  obtain ⟨k0, k1, k2, k3, k4, k5, k6, k7⟩ := K0.out.eight
  go_wp2_with fail
  refine (HLX.out _ (bl_alloc (bl_refl w) _)).mono ?_
  clear k0 k1 k2 k3 k4 k5 k6 k7
  rintro e w1 ⟨r, rfl, hr1, hr2, HR, hb1⟩
  have HB := hide (bl_trans (bl_alloc (bl_refl w) (.cells #[.int .i64 t0.k, .string t0.ch, .bool t0.nt, .slice pA t0.rows.length pc, .int .i64 t0.mi, .int .i64 t0.ma, .bool t0.lz, .slice pB t0.kids.length pd] 25)) hb1)
  have HB1 := HB
  have K1 := hide (K0.out.bl hb1)
  clear hb1
  by_cases hr0 : r < 0
  · have d0 : decide (r < 0) = true := decide_eq_true hr0
    clear hr0 hr1 hr2
    go_wp2_with fail
    refine (awake16_any _).mono ?_
    rintro e w99 ⟨rfl, hb99⟩
    have HBE := hide (bl_trans HB.out hb99)
    clear hb99
    go_wp2
    go_ret
    exact ⟨rfl, HBE.out⟩
  have d0 : decide (r < 0) = false := decide_eq_false hr0
  by_cases h2 : 50 < a2.size
  · have d2 : decide (50 < a2.size) = true := decide_eq_true h2
    have d2' : decide (50 < (a2.size : Int)) = true := decide_eq_true (by omega)
    clear hr0 hr1 hr2
    go_wp2_with fail
    refine (awake16_any _).mono ?_
    rintro e w99 ⟨rfl, hb99⟩
    have HBE := hide (bl_trans HB.out hb99)
    clear hb99
    go_wp2
    go_ret
    exact ⟨rfl, HBE.out⟩
  have d2 : decide (50 < a2.size) = false := decide_eq_false h2
  have d2' : decide (50 < (a2.size : Int)) = false := decide_eq_false (by omega)
  have HS0 := hide (show sM t0 ≤ 50 by have := HR.out (by omega); omega)
  have HGM := hide (show gM t0 ≤ 1000 from by have h1 := gM_le t0; have h2 := pM_sM t0; have := HS0.out; omega)
  obtain ⟨K, hK⟩ : ∃ n, lowN a3 (a2.size + 1) = n := ⟨_, rfl⟩
  have HL := hide (fun W => low_rC a3 ((a2.size : Int) + 1) (a2.size + 1) K W (by omega) (by omega) (by omega) hK)
  have es : IntKind.i64.wrap ((a2.size : Int) + 1) = (a2.size : Int) + 1 := by rw [IntKind.wrap_i64]; omega
  have HA1 := hide (fun W (hb : Below w.heap.size w W) => at_any (rx_below HRX0.out hb) (by have := HS0.out; omega) a1 a2 (by omega) a3 a4)
  have HA2 := hide (fun W (hb : Below w.heap.size w W) => rAt_q (rx_below HRX0.out hb) (by have := HS0.out; omega) a1 a2 (by omega) a3 a4)
  have HA3 := hide (fun W (hb : Below w.heap.size w W) => findX_any (rx_below HRX0.out hb) (by have := HS0.out; omega) a1 a2 (by omega) ((K : Nat) : Int) a4)
  have HA4 := hide (fun W (hb : Below w.heap.size w W) => rFind_q (rx_below HRX0.out hb) (by have := HS0.out; omega) a1 a2 (by omega) ((K : Nat) : Int) a4)
  rw [HTV0.out] at HA1 HA2 HA3 HA4
  clear HR hr1 hr2 hr0 hK h2
  obtain ⟨k0, k1, k2, k3, k4, k5, k6, k7⟩ := (K1.out).eight
  go_wp2_with fail
  refine (HA1.out _ HB1.out).mono ?_
  clear k0 k1 k2 k3 k4 k5 k6 k7
  rintro e w3 hp
  obtain ⟨q3, hq3, A3, c3, rfl, hb3, hsp⟩ := at_form hp
  obtain ⟨qa, qb, qp, qf, qok, qn⟩ := q3
  simp only at hsp ⊢
  have S3 := hide hsp
  have HB3 := hide (bl_alloc (bl_trans HB1.out hb3) (.cells #[.int .i64 qa, .int .i64 qb, .slice A3 qp.length c3] 32))
  have HN3 := hide (bl_alloc hb3 (.cells #[.int .i64 qa, .int .i64 qb, .slice A3 qp.length c3] 32))
  have K3 := hide (K1.out.bl HN3.out)
  have M3_3 := hide (show Cl (w3.alloc (.cells #[.int .i64 qa, .int .i64 qb, .slice A3 qp.length c3] 32)) w3.heap.size [.int .i64 qa, .int .i64 qb, .slice A3 qp.length c3] from cl_alloc w3 [.int .i64 qa, .int .i64 qb, .slice A3 qp.length c3] _)
  have S3_3 := hide (spat_below S3.out (bl_alloc (bl_refl w3) (.cells #[.int .i64 qa, .int .i64 qb, .slice A3 qp.length c3] 32)))
  clear hp hb3 hsp
  obtain ⟨k0, k1, k2, k3, k4, k5, k6, k7⟩ := (K3.out).eight
  go_wp2_with fail
  refine (HA2.out _ HB3.out).mono ?_
  clear k0 k1 k2 k3 k4 k5 k6 k7
  rintro e w4 hp
  obtain ⟨q4, hq4, A4, c4, rfl, hb4, hsp⟩ := hp
  obtain rfl := atq_det hq4 hq3
  simp only at hsp ⊢
  have S4 := hide hsp
  have HB4 := hide (bl_alloc (bl_trans HB3.out hb4) (.cells #[.int .i64 qa, .int .i64 qb, .slice A4 qp.length c4] 36))
  have HN4 := hide (bl_alloc hb4 (.cells #[.int .i64 qa, .int .i64 qb, .slice A4 qp.length c4] 36))
  have K4 := hide (K3.out.bl HN4.out)
  have M4_4 := hide (show Cl (w4.alloc (.cells #[.int .i64 qa, .int .i64 qb, .slice A4 qp.length c4] 36)) w4.heap.size [.int .i64 qa, .int .i64 qb, .slice A4 qp.length c4] from cl_alloc w4 [.int .i64 qa, .int .i64 qb, .slice A4 qp.length c4] _)
  have S4_4 := hide (spat_below S4.out (bl_alloc (bl_refl w4) (.cells #[.int .i64 qa, .int .i64 qb, .slice A4 qp.length c4] 36)))
  have M3_4 := hide (M3_3.out.bl HN4.out)
  have S3_4 := hide (spat_below S3_3.out HN4.out)
  clear hb4 hsp
  go_wp2_with fail
  refine (HL.out _).mono ?_
  rintro e _ ⟨rfl, rfl⟩
  obtain ⟨k0, k1, k2, k3, k4, k5, k6, k7⟩ := (K4.out).eight
  go_wp2_with fail
  refine (HA3.out _ HB4.out).mono ?_
  clear k0 k1 k2 k3 k4 k5 k6 k7
  rintro e w5 hp
  obtain ⟨q5, hq5, A5, c5, rfl, hb5, hsp⟩ := fi_form hp
  obtain ⟨ra, rb, rp, rf, rok, rn⟩ := q5
  simp only at hsp ⊢
  have S5 := hide hsp
  have HB5 := hide (bl_alloc (bl_trans HB4.out hb5) (.cells #[.int .i64 ra, .int .i64 rb, .slice A5 rp.length c5] 32))
  have HN5 := hide (bl_alloc hb5 (.cells #[.int .i64 ra, .int .i64 rb, .slice A5 rp.length c5] 32))
  have K5 := hide (K4.out.bl HN5.out)
  have M5_5 := hide (show Cl (w5.alloc (.cells #[.int .i64 ra, .int .i64 rb, .slice A5 rp.length c5] 32)) w5.heap.size [.int .i64 ra, .int .i64 rb, .slice A5 rp.length c5] from cl_alloc w5 [.int .i64 ra, .int .i64 rb, .slice A5 rp.length c5] _)
  have S5_5 := hide (spat_below S5.out (bl_alloc (bl_refl w5) (.cells #[.int .i64 ra, .int .i64 rb, .slice A5 rp.length c5] 32)))
  have M3_5 := hide (M3_4.out.bl HN5.out)
  have S3_5 := hide (spat_below S3_4.out HN5.out)
  have M4_5 := hide (M4_4.out.bl HN5.out)
  have S4_5 := hide (spat_below S4_4.out HN5.out)
  clear hp hb5 hsp
  obtain ⟨k0, k1, k2, k3, k4, k5, k6, k7⟩ := (K5.out).eight
  go_wp2_with fail
  refine (HA4.out _ HB5.out).mono ?_
  clear k0 k1 k2 k3 k4 k5 k6 k7
  rintro e w6 hp
  obtain ⟨q6, hq6, A6, c6, rfl, hb6, hsp⟩ := hp
  obtain rfl := fiq_det hq6 hq5
  simp only at hsp ⊢
  have S6 := hide hsp
  have HB6 := hide (bl_alloc (bl_trans HB5.out hb6) (.cells #[.int .i64 ra, .int .i64 rb, .slice A6 rp.length c6] 36))
  have HN6 := hide (bl_alloc hb6 (.cells #[.int .i64 ra, .int .i64 rb, .slice A6 rp.length c6] 36))
  have K6 := hide (K5.out.bl HN6.out)
  have M6_6 := hide (show Cl (w6.alloc (.cells #[.int .i64 ra, .int .i64 rb, .slice A6 rp.length c6] 36)) w6.heap.size [.int .i64 ra, .int .i64 rb, .slice A6 rp.length c6] from cl_alloc w6 [.int .i64 ra, .int .i64 rb, .slice A6 rp.length c6] _)
  have S6_6 := hide (spat_below S6.out (bl_alloc (bl_refl w6) (.cells #[.int .i64 ra, .int .i64 rb, .slice A6 rp.length c6] 36)))
  have M3_6 := hide (M3_5.out.bl HN6.out)
  have S3_6 := hide (spat_below S3_5.out HN6.out)
  have M4_6 := hide (M4_5.out.bl HN6.out)
  have S4_6 := hide (spat_below S4_5.out HN6.out)
  have M5_6 := hide (M5_5.out.bl HN6.out)
  have S5_6 := hide (spat_below S5_5.out HN6.out)
  clear hb6 hsp
  have HP1 := hide (Nat.le_trans (atq_len hq3) HGM.out)
  have HP2 := hide (Nat.le_trans (fiq_len hq5) HGM.out)
  simp only at HP1 HP2
  have HSM1 := hide (fun W (hb : Below (w6.alloc (.cells #[.int .i64 ra, .int .i64 rb, .slice A6 rp.length c6] 36)).heap.size (w6.alloc (.cells #[.int .i64 ra, .int .i64 rb, .slice A6 rp.length c6] 36)) W) => same16_any qa qb qp A3 A4 c3 c4 W (spat_below S3_6.out hb) (spat_below S4_6.out hb) HP1.out)
  have HSM2 := hide (fun W (hb : Below (w6.alloc (.cells #[.int .i64 ra, .int .i64 rb, .slice A6 rp.length c6] 36)).heap.size (w6.alloc (.cells #[.int .i64 ra, .int .i64 rb, .slice A6 rp.length c6] 36)) W) => same16_any ra rb rp A5 A6 c5 c6 W (spat_below S5_6.out hb) (spat_below S6_6.out hb) HP2.out)
  clear hq3 hq4 hq5 hq6
  have m30 := M3_6.out.c 0 _ rfl
  have m31 := M3_6.out.c 1 _ rfl
  have m32 := M3_6.out.c 2 _ rfl
  have m40 := M4_6.out.c 0 _ rfl
  have m41 := M4_6.out.c 1 _ rfl
  have m42 := M4_6.out.c 2 _ rfl
  have m50 := M5_6.out.c 0 _ rfl
  have m51 := M5_6.out.c 1 _ rfl
  have m52 := M5_6.out.c 2 _ rfl
  have m60 := M6_6.out.c 0 _ rfl
  have m61 := M6_6.out.c 1 _ rfl
  have m62 := M6_6.out.c 2 _ rfl
  go_wp2_with fail
  refine (HSM1.out _ (bl_refl _)).mono ?_
  rintro e w7 ⟨rfl, hb7⟩
  clear m30 m31 m32 m40 m41 m42 m50 m51 m52 m60 m61 m62
  have m50 := (M5_6.out.bl hb7).c 0 _ rfl
  have m51 := (M5_6.out.bl hb7).c 1 _ rfl
  have m52 := (M5_6.out.bl hb7).c 2 _ rfl
  have m60 := (M6_6.out.bl hb7).c 0 _ rfl
  have m61 := (M6_6.out.bl hb7).c 1 _ rfl
  have m62 := (M6_6.out.bl hb7).c 2 _ rfl
  go_wp2_with fail
  refine (HSM2.out _ hb7).mono ?_
  rintro e w8 ⟨rfl, hb8⟩
  have HB9 := hide (bl_trans (bl_trans HB6.out hb7) hb8)
  clear hb7 hb8 HB m50 m51 m52 m60 m61 m62
  have HB := HB9
  go_wp2_with fail
  refine (awake16_any _).mono ?_
  rintro e w99 ⟨rfl, hb99⟩
  have HBE := hide (bl_trans HB.out hb99)
  clear hb99
  go_wp2
  go_ret
  exact ⟨rfl, HBE.out⟩

set_option maxRecDepth 100000 in
theorem lifted (os : Os) (started : os.Started) (H : Type) (enc : TypeId × Value → H) :
    ReturnsInHanded {} Tryz.checked os 3 .any (Rows.runTellsSpec.pre6 enc Tryz.prog Tryz.f3 Rows.runTellsRow.domain false) (Rows.runTellsSpec.post enc Tryz.prog Tryz.f3 false true false false) := by
  refine returnsInHanded_of_change (C := Tryz.checked) own started (by kernel_rfl) Tryz.func3
    (ChangeSpec.witness6 (enc := enc) (C := Tryz.checked) false ⟨#[], #[.agg #[.int .i64 0, .string ByteArray.empty, .bool false, .slice none 0 0, .int .i64 0, .int .i64 0, .bool false, .slice none 0 0], .bool false, .string ByteArray.empty, .int .i64 0, .int .i64 0], []⟩ 8 (by kernel_rfl) (by kernel_rfl) (by kernel_rfl) (by kernel_rfl)) ?_
  intro W base args ds gs before hval0 hW hcnd _
  have hval : ∀ (j : Nat) t v, Tryz.f3.params[j]? = some t → args[j]? = some v → Value.okWide Tryz.prog W .any base t v := hval0
  have hW' := hW
  obtain ⟨p, q, hA0, hV, rfl, hfz, hnd⟩ := hW
  have hA : DataW.TrodAll enc Tryz.prog W 0 (fun _ => true) true Tryz.f3.params.toList args.toList ds p := hA0
  rw [Tryz.params3] at hA hval
  obtain ⟨v0, vs0, d0, ds0, p0, q0, hargs, rfl, rfl, h0, r0⟩ := trodAll_cons hA
  obtain ⟨v1, vs1, d1, ds1, p1, q1, rfl, rfl, rfl, h1, r1⟩ := trodAll_cons r0
  obtain ⟨v2, vs2, d2, ds2, p2, q2, rfl, rfl, rfl, h2, r2⟩ := trodAll_cons r1
  obtain ⟨v3, vs3, d3, ds3, p3, q3, rfl, rfl, rfl, h3, r3⟩ := trodAll_cons r2
  obtain ⟨v4, vs4, d4, ds4, p4, q4, rfl, rfl, rfl, h4, r4⟩ := trodAll_cons r3
  obtain ⟨rfl, rfl, rfl⟩ := trodAll_nil r4
  obtain rfl : args = #[v0, v1, v2, v3, v4] := by cases args; simp_all
  obtain ⟨rfl, rfl⟩ := trodVars_none hV
  have k0 := h0
  have lt0 : ∀ x ∈ p0, x.block < W.heap.size := by obtain ⟨m, hm⟩ := k0; exact DataW.trod_lt m _ _ _ hm
  obtain ⟨t0, rfl, w0, b0⟩ := open_rx (hval 0 25 v0 rfl rfl) h0
  have k1 := h1
  have lt1 : ∀ x ∈ p1, x.block < W.heap.size := by obtain ⟨m, hm⟩ := k1; exact DataW.trod_lt m _ _ _ hm
  obtain ⟨a1, rfl, hd1, hp1⟩ := open_bool Tryz.underlying4 (hval 1 4 v1 rfl rfl) h1
  have k2 := h2
  have lt2 : ∀ x ∈ p2, x.block < W.heap.size := by obtain ⟨m, hm⟩ := k2; exact DataW.trod_lt m _ _ _ hm
  obtain ⟨a2, rfl, hd2, hp2, w2⟩ := open_string Tryz.underlying9 (hval 2 9 v2 rfl rfl) h2
  have k3 := h3
  have lt3 : ∀ x ∈ p3, x.block < W.heap.size := by obtain ⟨m, hm⟩ := k3; exact DataW.trod_lt m _ _ _ hm
  obtain ⟨a3, rfl, hd3, hp3, w3⟩ := open_int Tryz.underlying3 (hval 3 3 v3 rfl rfl) h3
  have k4 := h4
  have lt4 : ∀ x ∈ p4, x.block < W.heap.size := by obtain ⟨m, hm⟩ := k4; exact DataW.trod_lt m _ _ _ hm
  obtain ⟨a4, rfl, hd4, hp4, w4⟩ := open_int Tryz.underlying3 (hval 4 3 v4 rfl rfl) h4
  clear hA0 hval0
  refine (walk t0 a1 a2 a3 a4 W w0 b0 w2 w3 w4).mono fun e W' ⟨he, bel⟩ => ?_
  subst he
  exact ⟨_, rfl, _, _, _, [], _, [], hW', trodAll_mk1 (shut_bool Tryz.underlying4 _), (trodAll_cons_mk (Below.trod laidOut (by kernel_rfl) (of_decide_eq_true (by kernel_rfl)) k0 bel lt0) (trodAll_cons_mk (Below.trod laidOut (by kernel_rfl) (of_decide_eq_true (by kernel_rfl)) k1 bel lt1) (trodAll_cons_mk (Below.trod laidOut (by kernel_rfl) (of_decide_eq_true (by kernel_rfl)) k2 bel lt2) (trodAll_cons_mk (Below.trod laidOut (by kernel_rfl) (of_decide_eq_true (by kernel_rfl)) k3 bel lt3) (trodAll_cons_mk (Below.trod laidOut (by kernel_rfl) (of_decide_eq_true (by kernel_rfl)) k4 bel lt4) trodAll_mk0))))), rfl, bel.frame _, fun h => by cases h⟩

theorem over : Rows.runTellsRow.holds Tryz.pinned (OpenSpec.ofChange Rows.runTellsSpec) :=
  OpenClaim.holds_of_wide 3 Tryz.f3 rfl rfl rfl rfl rfl rfl rfl ⟨rfl, rfl, rfl, rfl, rfl⟩ rfl rfl rfl rfl rfl (by kernel_rfl) Tryz.func3 (by kernel_rfl)
    (of_decide_eq_true (by kernel_rfl)) (by unfold Func.isWrapper; first | (rw [if_pos (by decide +kernel)]; kernel_rfl) | (rw [if_neg (by decide +kernel)]; exact ⟨rfl, rfl⟩))
    (fun os started H enc _ => lifted os started H enc)

theorem proved : Rows.RunTellsSaid := over
end Go.Proofs.YtcnliipkfccohaaGreat.runTells
