/- With more fuel the same is taken, and so much more is left; with just what burns none is left, with one less the fuel is out. Conditions: none beyond the form's own. -/
import Derived.Test.YtcnliipkfccohaaGreatRows
import Derived.Test.YtcnliipkfccohaaGreatRnB
namespace Go.Proofs.YtcnliipkfccohaaGreat.runFuel
open Go.Proofs.YtcnliipkfccohaaGreat
open Go.ChangeShapes Go.WideShapes Go.ChangeAt Go.RowKit Go.Deep
open Go.ChangeMaps (open_string shut_string)
set_option linter.unusedVariables false

theorem own : ownKnob Tryz.prog.godebug = none := by kernel_rfl
theorem laidOut : laidOutB Tryz.prog = true := by kernel_rfl
-- opt: 16000000
open SetM SpanM
attribute [local go_sem ↓] Go.wp_at_zero Go.wp_at_succ
attribute [local go_sem] later_cell later_frozen eqge_s4 eqgn_s4
attribute [local go_sem ↓] eql_s4 neq_s4
set_option maxRecDepth 100000 in
set_option maxHeartbeats 16000000 in
theorem walk (a0 : ByteArray) (a1 : Bool) (a2 : ByteArray) (a3 : Int) (a4 : Int) (a5 : Int) (w : World) (w0 : a0.size ≤ maxLen) (w2 : a2.size ≤ maxLen) (w3 : (Lit.int .i64 a3).wf = true) (w4 : (Lit.int .i64 a4).wf = true) (w5 : (Lit.int .i64 a5).wf = true) :
    Calls Tryz.prog 6 #[.string a0, .bool a1, .string a2, .int .i64 a3, .int .i64 a4, .int .i64 a5] w fun e w' => e = .returned (.bool true) ∧ Below w.heap.size w w' := by
  obtain ⟨o, HRD, hox⟩ := read_o a0
  have HRD := hide HRD
  cases o with
  | none =>
    clear hox
    go_enter Tryz.func6, Tryz.ntmps6
    go_wp2_with fail
    refine (HRD.out _).mono ?_
    rintro e w5 ⟨n, hn, rfl, hb5⟩
    have k0 : (n != 0) = true := by simp [hn]
    have k0' : (n == 0) = false := by simp [hn]
    have HB := hide (bl_alloc hb5 (.cells #[.int .i64 0, .string ⟨#[]⟩, .bool false, .slice none 0 0, .int .i64 0, .int .i64 0, .bool false, .slice none 0 0] 25))
    clear hb5 hn
    by_cases h1 : 40 < a0.size
    · have dh1 : decide (40 < a0.size) = true := decide_eq_true h1
      have dh1' : decide (40 < (a0.size : Int)) = true := decide_eq_true (by omega)
      go_wp2_with fail
      refine (awake16_any _).mono ?_
      rintro e w99 ⟨rfl, hb99⟩
      have HBE := hide (bl_trans HB.out hb99)
      clear hb99
      go_wp2
      go_ret
      exact ⟨rfl, HBE.out⟩
    have dh1 : decide (40 < a0.size) = false := decide_eq_false h1
    have dh1' : decide (40 < (a0.size : Int)) = false := decide_eq_false (by omega)
    by_cases h2 : 40 < a2.size
    · have dh2 : decide (40 < a2.size) = true := decide_eq_true h2
      have dh2' : decide (40 < (a2.size : Int)) = true := decide_eq_true (by omega)
      go_wp2_with fail
      refine (awake16_any _).mono ?_
      rintro e w99 ⟨rfl, hb99⟩
      have HBE := hide (bl_trans HB.out hb99)
      clear hb99
      go_wp2
      go_ret
      exact ⟨rfl, HBE.out⟩
    have dh2 : decide (40 < a2.size) = false := decide_eq_false h2
    have dh2' : decide (40 < (a2.size : Int)) = false := decide_eq_false (by omega)
    go_wp2_with fail
    refine (awake16_any _).mono ?_
    rintro e w99 ⟨rfl, hb99⟩
    have HBE := hide (bl_trans HB.out hb99)
    clear hb99
    go_wp2
    go_ret
    exact ⟨rfl, HBE.out⟩
  | some x =>
    have HV := hide (hox x rfl)
    clear hox
    obtain ⟨U, hU⟩ : ∃ n, lowN a4 3001 = n := ⟨_, rfl⟩
    obtain ⟨V, hV⟩ : ∃ n, lowN a5 3001 = n := ⟨_, rfl⟩
    obtain ⟨K, hK⟩ : ∃ n, lowN a3 (a2.size + 1) = n := ⟨_, rfl⟩
    have HUV := hide (show U < 3001 ∧ V < 3001 from ⟨by rw [← hU]; exact lowN_lt _ _ (by decide), by rw [← hV]; exact lowN_lt _ _ (by decide)⟩)
    have HL1 := hide (fun W => low_r a4 3001 3001 U W rfl (by decide) (by decide) hU)
    have HL2 := hide (fun W => low_r a5 3001 3001 V W rfl (by decide) (by decide) hV)
    have HL3 := hide (fun W (h : a2.size ≤ 40) => low_r a3 ((a2.size : Int) + 1) (a2.size + 1) K W (by omega) (by omega) (by omega) hK)
    have eUV : IntKind.i64.wrap (((U : Nat) : Int) + ((V : Nat) : Int)) = ((U : Nat) : Int) + ((V : Nat) : Int) := by have := HUV.out; rw [IntKind.wrap_i64]; omega
    clear hU hV hK
    go_enter Tryz.func6, Tryz.ntmps6
    go_wp2_with fail
    refine (HRD.out _).mono ?_
    rintro e w5 ⟨t, rfl, hb5, hrx, her⟩
    obtain ⟨tA, tc, htrv⟩ := rwat_len hrx.rows
    obtain ⟨tB, td, htkv⟩ := ksat_len hrx.ks
    have HTV := hide (show t.v = .agg #[.int .i64 t.k, .string t.ch, .bool t.nt, .slice tA t.rows.length tc, .int .i64 t.mi, .int .i64 t.ma, .bool t.lz, .slice tB t.kids.length td] by unfold Rt.v Rt.cs; rw [htrv, htkv])
    rw [HTV.out]
    have HRX := hide hrx
    have HER := hide her
    have HGM0 := hide (fun (h100 : a0.size ≤ 100) => show gM t ≤ 1000 ∧ sM t ≤ 1000 ∧ cnB t 16 512 = true from ⟨by have h1 := gM_le t; have h2 := pM_er t; rw [her] at h2; have := HV.out; omega, by rw [← sM_er, her]; have := HV.out; omega, by rw [cnB_er her]; exact HV.out.2.1⟩)
    have HB := hide (bl_alloc hb5 (.cells #[.int .i64 t.k, .string t.ch, .bool t.nt, .slice tA t.rows.length tc, .int .i64 t.mi, .int .i64 t.ma, .bool t.lz, .slice tB t.kids.length td] 25))
    have K5 := hide (show Cl (w5.alloc (.cells #[.int .i64 t.k, .string t.ch, .bool t.nt, .slice tA t.rows.length tc, .int .i64 t.mi, .int .i64 t.ma, .bool t.lz, .slice tB t.kids.length td] 25)) w5.heap.size [.int .i64 t.k, .string t.ch, .bool t.nt, .slice tA t.rows.length tc, .int .i64 t.mi, .int .i64 t.ma, .bool t.lz, .slice tB t.kids.length td] from cl_alloc w5 [.int .i64 t.k, .string t.ch, .bool t.nt, .slice tA t.rows.length tc, .int .i64 t.mi, .int .i64 t.ma, .bool t.lz, .slice tB t.kids.length td] _)
    clear hb5 hrx her htrv htkv
    by_cases h1 : 40 < a0.size
    · have dh1 : decide (40 < a0.size) = true := decide_eq_true h1
      have dh1' : decide (40 < (a0.size : Int)) = true := decide_eq_true (by omega)
      go_wp2_with fail
      refine (awake16_any _).mono ?_
      rintro e w99 ⟨rfl, hb99⟩
      have HBE := hide (bl_trans HB.out hb99)
      clear hb99
      go_wp2
      go_ret
      exact ⟨rfl, HBE.out⟩
    have dh1 : decide (40 < a0.size) = false := decide_eq_false h1
    have dh1' : decide (40 < (a0.size : Int)) = false := decide_eq_false (by omega)
    by_cases h2 : 40 < a2.size
    · have dh2 : decide (40 < a2.size) = true := decide_eq_true h2
      have dh2' : decide (40 < (a2.size : Int)) = true := decide_eq_true (by omega)
      go_wp2_with fail
      refine (awake16_any _).mono ?_
      rintro e w99 ⟨rfl, hb99⟩
      have HBE := hide (bl_trans HB.out hb99)
      clear hb99
      go_wp2
      go_ret
      exact ⟨rfl, HBE.out⟩
    have dh2 : decide (40 < a2.size) = false := decide_eq_false h2
    have dh2' : decide (40 < (a2.size : Int)) = false := decide_eq_false (by omega)
    have HGM := hide (HGM0.out (by omega))
    have h240 : a2.size ≤ 40 := by omega
    have HL4 := hide (fun W => HL3.out W h240)
    have es : IntKind.i64.wrap ((a2.size : Int) + 1) = (a2.size : Int) + 1 := by rw [IntKind.wrap_i64]; omega
    have HAT := hide (fun W at_ fu (hb : Below (w5.alloc (.cells #[.int .i64 t.k, .string t.ch, .bool t.nt, .slice tA t.rows.length tc, .int .i64 t.mi, .int .i64 t.ma, .bool t.lz, .slice tB t.kids.length td] 25)).heap.size (w5.alloc (.cells #[.int .i64 t.k, .string t.ch, .bool t.nt, .slice tA t.rows.length tc, .int .i64 t.mi, .int .i64 t.ma, .bool t.lz, .slice tB t.kids.length td] 25)) W) => at_any (rx_below (rx_below HRX.out (bl_alloc (bl_refl w5) _)) hb) HGM.out.2.1 a1 a2 (by omega) at_ fu)
    rw [HTV.out] at HAT
    go_wp2_with fail
    refine (HL1.out _).mono ?_
    rintro e _ ⟨rfl, rfl⟩
    go_wp2_with fail
    refine (HL2.out _).mono ?_
    rintro e _ ⟨rfl, rfl⟩
    go_wp2_with fail
    refine (HL4.out _).mono ?_
    rintro e _ ⟨rfl, rfl⟩
    obtain ⟨k0, k1, k2, k3, k4, k5, k6, k7⟩ := (K5.out).eight
    go_wp2_with fail
    refine (HAT.out _ _ _ (bl_refl _)).mono ?_
    clear k0 k1 k2 k3 k4 k5 k6 k7
    rintro e w6 hp
    obtain ⟨q6, hq6, A6, c6, rfl, hb6, hsp⟩ := at_form hp
    rw [fuC_nat U (by have := HUV.out; omega)] at hq6
    obtain ⟨qa, qb, qp, qf, qok, qn⟩ := q6
    simp only at hsp ⊢
    have S6 := hide hsp
    have HB6 := hide (bl_alloc (bl_trans HB.out hb6) (.cells #[.int .i64 qa, .int .i64 qb, .slice A6 qp.length c6] 32))
    have HN6 := hide (show Below (w5.alloc (.cells #[.int .i64 t.k, .string t.ch, .bool t.nt, .slice tA t.rows.length tc, .int .i64 t.mi, .int .i64 t.ma, .bool t.lz, .slice tB t.kids.length td] 25)).heap.size (w5.alloc (.cells #[.int .i64 t.k, .string t.ch, .bool t.nt, .slice tA t.rows.length tc, .int .i64 t.mi, .int .i64 t.ma, .bool t.lz, .slice tB t.kids.length td] 25)) (w6.alloc (.cells #[.int .i64 qa, .int .i64 qb, .slice A6 qp.length c6] 32)) from bl_alloc hb6 (.cells #[.int .i64 qa, .int .i64 qb, .slice A6 qp.length c6] 32))
    have M6 := hide (show Cl (w6.alloc (.cells #[.int .i64 qa, .int .i64 qb, .slice A6 qp.length c6] 32)) w6.heap.size [.int .i64 qa, .int .i64 qb, .slice A6 qp.length c6] from cl_alloc w6 [.int .i64 qa, .int .i64 qb, .slice A6 qp.length c6] _)
    clear hp hb6 hsp
    by_cases hn : qn = 0
    rotate_left
    · obtain ⟨e1, e2, e3, e4, e5⟩ := atq_err hq6 hn
      simp only at e1 e2 e3 e4 e5
      subst e1 e2 e3 e4 e5
      have k9 : (qn != 0) = true := by simp [hn]
      have k9' : (qn == 0) = false := by simp [hn]
      have m60 := (M6.out).c 0 _ rfl
      have m61 := (M6.out).c 1 _ rfl
      have m62 := (M6.out).c 2 _ rfl
      have HB := HB6
      clear hn
      go_wp2_with fail
      refine (awake16_any _).mono ?_
      rintro e w99 ⟨rfl, hb99⟩
      have HBE := hide (bl_trans HB.out hb99)
      clear hb99
      go_wp2
      go_ret
      exact ⟨rfl, HBE.out⟩
    subst hn
    obtain ⟨f1, hf1, hfl, h22, h33, h44⟩ := atq_fuel hq6 rfl
    simp only at hf1 h22 h33
    subst hf1
    obtain ⟨D, hD⟩ : ∃ n, U - f1 = n := ⟨_, rfl⟩
    rw [hD] at h33 h44
    have H22 := hide (show ∀ q', AtQ t a1 a2 ((K : Nat) : Int) (U + V) q' → q' = ⟨qa, qb, qp, (f1 : Int) + (V : Int), qok, 0⟩ from fun q' g => by
      rw [h22 (U + V) q' (Nat.le_add_right U V) g, Nat.add_sub_cancel_left]
      show An.mk _ _ _ _ _ _ = An.mk _ _ _ _ _ _
      congr 1)
    have H33 := hide h33
    have H44 := hide h44
    have HD := hide (show U = f1 + D by omega)
    clear hD
    have HPL := hide (show qp.length ≤ 1000 from Nat.le_trans (atq_len hq6) HGM.out.1)
    have HFL := hide hfl
    clear h22 h33 h44 hfl hq6
    obtain ⟨k0, k1, k2, k3, k4, k5, k6, k7⟩ := (K5.out.bl HN6.out).eight
    go_wp2_with fail
    refine (HAT.out _ _ _ (HN6.out)).mono ?_
    clear k0 k1 k2 k3 k4 k5 k6 k7
    rintro e w7 hp
    obtain ⟨q7, hq7, A7, c7, rfl, hb7, hsp⟩ := at_form hp
    rw [show fuC (((U : Nat) : Int) + ((V : Nat) : Int)) = U + V by have := HUV.out; unfold fuC; omega] at hq7
    obtain rfl := H22.out q7 hq7
    clear hq7
    simp only at hsp ⊢
    have S7 := hide hsp
    have HB7 := hide (bl_alloc (bl_trans HB6.out hb7) (.cells #[.int .i64 qa, .int .i64 qb, .slice A7 qp.length c7] 32))
    have HN7 := hide (show Below (w6.alloc (.cells #[.int .i64 qa, .int .i64 qb, .slice A6 qp.length c6] 32)).heap.size (w6.alloc (.cells #[.int .i64 qa, .int .i64 qb, .slice A6 qp.length c6] 32)) (w7.alloc (.cells #[.int .i64 qa, .int .i64 qb, .slice A7 qp.length c7] 32)) from bl_alloc hb7 (.cells #[.int .i64 qa, .int .i64 qb, .slice A7 qp.length c7] 32))
    have M7 := hide (show Cl (w7.alloc (.cells #[.int .i64 qa, .int .i64 qb, .slice A7 qp.length c7] 32)) w7.heap.size [.int .i64 qa, .int .i64 qb, .slice A7 qp.length c7] from cl_alloc w7 [.int .i64 qa, .int .i64 qb, .slice A7 qp.length c7] _)
    clear hp hb7 hsp
    have ef1 : IntKind.i64.wrap (((U : Nat) : Int) - ((f1 : Nat) : Int)) = ((D : Nat) : Int) := by have := HUV.out; have := HD.out; rw [IntKind.wrap_i64]; omega
    obtain ⟨k0, k1, k2, k3, k4, k5, k6, k7⟩ := ((K5.out.bl HN6.out).bl HN7.out).eight
    go_wp2_with fail
    refine (HAT.out _ _ _ (bl_trans HN6.out HN7.out)).mono ?_
    clear k0 k1 k2 k3 k4 k5 k6 k7
    rintro e w8 hp
    obtain ⟨q8, hq8, A8, c8, rfl, hb8, hsp⟩ := at_form hp
    rw [fuC_nat D (by have := HUV.out; have := HD.out; omega)] at hq8
    obtain rfl := H33.out q8 hq8
    clear hq8
    simp only at hsp ⊢
    have S8 := hide hsp
    have HB8 := hide (bl_alloc (bl_trans HB7.out hb8) (.cells #[.int .i64 qa, .int .i64 qb, .slice A8 qp.length c8] 32))
    have HN8 := hide (show Below (w7.alloc (.cells #[.int .i64 qa, .int .i64 qb, .slice A7 qp.length c7] 32)).heap.size (w7.alloc (.cells #[.int .i64 qa, .int .i64 qb, .slice A7 qp.length c7] 32)) (w8.alloc (.cells #[.int .i64 qa, .int .i64 qb, .slice A8 qp.length c8] 32)) from bl_alloc hb8 (.cells #[.int .i64 qa, .int .i64 qb, .slice A8 qp.length c8] 32))
    have M8 := hide (show Cl (w8.alloc (.cells #[.int .i64 qa, .int .i64 qb, .slice A8 qp.length c8] 32)) w8.heap.size [.int .i64 qa, .int .i64 qb, .slice A8 qp.length c8] from cl_alloc w8 [.int .i64 qa, .int .i64 qb, .slice A8 qp.length c8] _)
    clear hp hb8 hsp
    have m60 := ((M6.out.bl HN7.out).bl HN8.out).c 0 _ rfl
    have m61 := ((M6.out.bl HN7.out).bl HN8.out).c 1 _ rfl
    have m62 := ((M6.out.bl HN7.out).bl HN8.out).c 2 _ rfl
    have m70 := (M7.out.bl HN8.out).c 0 _ rfl
    have m71 := (M7.out.bl HN8.out).c 1 _ rfl
    have m72 := (M7.out.bl HN8.out).c 2 _ rfl
    have m80 := (M8.out).c 0 _ rfl
    have m81 := (M8.out).c 1 _ rfl
    have m82 := (M8.out).c 2 _ rfl
    have HSP := hide (fun W (hb : Below (w8.alloc (.cells #[.int .i64 qa, .int .i64 qb, .slice A8 qp.length c8] 32)).heap.size (w8.alloc (.cells #[.int .i64 qa, .int .i64 qb, .slice A8 qp.length c8] 32)) W) => spans_any _ _ qp qp W (spat_below (spat_below (spat_below S6.out (bl_trans (bl_alloc (bl_refl w6) _) (HN7.out))) HN8.out) hb) (spat_below (spat_below S7.out (bl_trans (bl_alloc (bl_refl w7) _) HN8.out)) hb) HPL.out HPL.out)
    rw [show decide (qp = qp) = true by simp] at HSP
    have g1 : IntKind.i64.wrap (((f1 : Nat) : Int) + (((U : Nat) : Int) + ((V : Nat) : Int))) = ((f1 : Nat) : Int) + (((U : Nat) : Int) + ((V : Nat) : Int)) := by have := HUV.out; have := HFL.out; rw [IntKind.wrap_i64]; omega
    have g2 : IntKind.i64.wrap (((f1 : Nat) : Int) + (((U : Nat) : Int) + ((V : Nat) : Int)) - ((U : Nat) : Int)) = ((f1 : Nat) : Int) + ((V : Nat) : Int) := by have := HUV.out; have := HFL.out; rw [IntKind.wrap_i64]; omega
    go_wp2_with fail
    refine (HSP.out _ (bl_refl _)).mono ?_
    rintro e w9 ⟨rfl, dn, rfl⟩
    have HN9 := hide (bl_drewN (bl_refl (w8.alloc (.cells #[.int .i64 qa, .int .i64 qb, .slice A8 qp.length c8] 32))) dn)
    clear m60 m61 m62 m70 m71 m72 m80 m81 m82 g1 g2
    have m60 := (((M6.out.bl HN7.out).bl HN8.out).bl HN9.out).c 0 _ rfl
    have m61 := (((M6.out.bl HN7.out).bl HN8.out).bl HN9.out).c 1 _ rfl
    have m62 := (((M6.out.bl HN7.out).bl HN8.out).bl HN9.out).c 2 _ rfl
    have m70 := ((M7.out.bl HN8.out).bl HN9.out).c 0 _ rfl
    have m71 := ((M7.out.bl HN8.out).bl HN9.out).c 1 _ rfl
    have m72 := ((M7.out.bl HN8.out).bl HN9.out).c 2 _ rfl
    have m80 := (M8.out.bl HN9.out).c 0 _ rfl
    have m81 := (M8.out.bl HN9.out).c 1 _ rfl
    have m82 := (M8.out.bl HN9.out).c 2 _ rfl
    have HB9 := hide (bl_trans HB8.out HN9.out)
    by_cases hlt : f1 < U
    · have dl : decide (f1 < U) = true := decide_eq_true hlt
      have dl' : decide (((f1 : Nat) : Int) < ((U : Nat) : Int)) = true := decide_eq_true (by omega)
      have ef2 : IntKind.i64.wrap (((D : Nat) : Int) - 1) = ((D - 1 : Nat) : Int) := by have := HUV.out; have := HD.out; rw [IntKind.wrap_i64]; omega
      obtain ⟨k0, k1, k2, k3, k4, k5, k6, k7⟩ := ((((K5.out.bl HN6.out).bl HN7.out).bl HN8.out).bl HN9.out).eight
      go_wp2_with fail
      refine (HAT.out _ _ _ (bl_trans (bl_trans HN6.out HN7.out) (bl_trans HN8.out HN9.out))).mono ?_
      clear k0 k1 k2 k3 k4 k5 k6 k7
      rintro e w10 hp
      obtain ⟨q10, hq10, A10, c10, rfl, hb10, hsp⟩ := at_form hp
      rw [fuC_nat (D - 1) (by have := HUV.out; have := HD.out; omega)] at hq10
      have h9 := H44.out q10 hlt hq10
      obtain ⟨ra, rb, rp, rf, rok, rn⟩ := q10
      simp only at h9 hsp ⊢
      subst h9
      have HB := hide (bl_trans HB9.out hb10)
      clear hp hq10 hb10 hsp hlt
      go_wp2_with fail
      refine (awake16_any _).mono ?_
      rintro e w99 ⟨rfl, hb99⟩
      have HBE := hide (bl_trans HB.out hb99)
      clear hb99
      go_wp2
      go_ret
      exact ⟨rfl, HBE.out⟩
    have dl : decide (f1 < U) = false := decide_eq_false hlt
    have dl' : decide (((f1 : Nat) : Int) < ((U : Nat) : Int)) = false := decide_eq_false (by omega)
    have HB := HB9
    go_wp2_with fail
    refine (awake16_any _).mono ?_
    rintro e w99 ⟨rfl, hb99⟩
    have HBE := hide (bl_trans HB.out hb99)
    clear hb99
    go_wp2
    go_ret
    exact ⟨rfl, HBE.out⟩

set_option maxRecDepth 100000 in
theorem lifted (os : Os) (started : os.Started) (H : Type) (enc : TypeId × Value → H) :
    ReturnsInHanded {} Tryz.checked os 6 .any (Rows.runFuelSpec.pre6 enc Tryz.prog Tryz.f6 Rows.runFuelRow.domain false) (Rows.runFuelSpec.post enc Tryz.prog Tryz.f6 false true false false) := by
  refine returnsInHanded_of_change (C := Tryz.checked) own started (by kernel_rfl) Tryz.func6
    (ChangeSpec.witness6 (enc := enc) (C := Tryz.checked) false ⟨#[], #[.string ByteArray.empty, .bool false, .string ByteArray.empty, .int .i64 0, .int .i64 0, .int .i64 0], []⟩ 8 (by kernel_rfl) (by kernel_rfl) (by kernel_rfl) (by kernel_rfl)) ?_
  intro W base args ds gs before hval0 hW hcnd _
  have hval : ∀ (j : Nat) t v, Tryz.f6.params[j]? = some t → args[j]? = some v → Value.okWide Tryz.prog W .any base t v := hval0
  have hW' := hW
  obtain ⟨p, q, hA0, hV, rfl, hfz, hnd⟩ := hW
  have hA : DataW.TrodAll enc Tryz.prog W 0 (fun _ => true) true Tryz.f6.params.toList args.toList ds p := hA0
  rw [Tryz.params6] at hA hval
  obtain ⟨v0, vs0, d0, ds0, p0, q0, hargs, rfl, rfl, h0, r0⟩ := trodAll_cons hA
  obtain ⟨v1, vs1, d1, ds1, p1, q1, rfl, rfl, rfl, h1, r1⟩ := trodAll_cons r0
  obtain ⟨v2, vs2, d2, ds2, p2, q2, rfl, rfl, rfl, h2, r2⟩ := trodAll_cons r1
  obtain ⟨v3, vs3, d3, ds3, p3, q3, rfl, rfl, rfl, h3, r3⟩ := trodAll_cons r2
  obtain ⟨v4, vs4, d4, ds4, p4, q4, rfl, rfl, rfl, h4, r4⟩ := trodAll_cons r3
  obtain ⟨v5, vs5, d5, ds5, p5, q5, rfl, rfl, rfl, h5, r5⟩ := trodAll_cons r4
  obtain ⟨rfl, rfl, rfl⟩ := trodAll_nil r5
  obtain rfl : args = #[v0, v1, v2, v3, v4, v5] := by cases args; simp_all
  obtain ⟨rfl, rfl⟩ := trodVars_none hV
  have k0 := h0
  have lt0 : ∀ x ∈ p0, x.block < W.heap.size := by obtain ⟨m, hm⟩ := k0; exact DataW.trod_lt m _ _ _ hm
  obtain ⟨a0, rfl, hd0, hp0, w0⟩ := open_string Tryz.underlying9 (hval 0 9 v0 rfl rfl) h0
  have k1 := h1
  have lt1 : ∀ x ∈ p1, x.block < W.heap.size := by obtain ⟨m, hm⟩ := k1; exact DataW.trod_lt m _ _ _ hm
  obtain ⟨a1, rfl, hd1, hp1⟩ := open_bool Tryz.underlying4 (hval 1 4 v1 rfl rfl) h1
  have k2 := h2
  have lt2 : ∀ x ∈ p2, x.block < W.heap.size := by obtain ⟨m, hm⟩ := k2; exact DataW.trod_lt m _ _ _ hm
  obtain ⟨a2, rfl, hd2, hp2, w2⟩ := open_string Tryz.underlying9 (hval 2 9 v2 rfl rfl) h2
  have k3 := h3
  have lt3 : ∀ x ∈ p3, x.block < W.heap.size := by obtain ⟨m, hm⟩ := k3; exact DataW.trod_lt m _ _ _ hm
  obtain ⟨a3, rfl, hd3, hp3, w3⟩ := open_int Tryz.underlying3 (hval 3 3 v3 rfl rfl) h3
  have k4 := h4
  have lt4 : ∀ x ∈ p4, x.block < W.heap.size := by obtain ⟨m, hm⟩ := k4; exact DataW.trod_lt m _ _ _ hm
  obtain ⟨a4, rfl, hd4, hp4, w4⟩ := open_int Tryz.underlying3 (hval 4 3 v4 rfl rfl) h4
  have k5 := h5
  have lt5 : ∀ x ∈ p5, x.block < W.heap.size := by obtain ⟨m, hm⟩ := k5; exact DataW.trod_lt m _ _ _ hm
  obtain ⟨a5, rfl, hd5, hp5, w5⟩ := open_int Tryz.underlying3 (hval 5 3 v5 rfl rfl) h5
  clear hA0 hval0
  refine (walk a0 a1 a2 a3 a4 a5 W w0 w2 w3 w4 w5).mono fun e W' ⟨he, bel⟩ => ?_
  subst he
  exact ⟨_, rfl, _, _, _, [], _, [], hW', trodAll_mk1 (shut_bool Tryz.underlying4 _), (trodAll_cons_mk (Below.trod laidOut (by kernel_rfl) (of_decide_eq_true (by kernel_rfl)) k0 bel lt0) (trodAll_cons_mk (Below.trod laidOut (by kernel_rfl) (of_decide_eq_true (by kernel_rfl)) k1 bel lt1) (trodAll_cons_mk (Below.trod laidOut (by kernel_rfl) (of_decide_eq_true (by kernel_rfl)) k2 bel lt2) (trodAll_cons_mk (Below.trod laidOut (by kernel_rfl) (of_decide_eq_true (by kernel_rfl)) k3 bel lt3) (trodAll_cons_mk (Below.trod laidOut (by kernel_rfl) (of_decide_eq_true (by kernel_rfl)) k4 bel lt4) (trodAll_cons_mk (Below.trod laidOut (by kernel_rfl) (of_decide_eq_true (by kernel_rfl)) k5 bel lt5) trodAll_mk0)))))), rfl, bel.frame _, fun h => by cases h⟩

theorem over : Rows.runFuelRow.holds Tryz.pinned (OpenSpec.ofChange Rows.runFuelSpec) :=
  OpenClaim.holds_of_wide 6 Tryz.f6 rfl rfl rfl rfl rfl rfl rfl ⟨rfl, rfl, rfl, rfl, rfl⟩ rfl rfl rfl rfl rfl (by kernel_rfl) Tryz.func6 (by kernel_rfl)
    (of_decide_eq_true (by kernel_rfl)) (by unfold Func.isWrapper; first | (rw [if_pos (by decide +kernel)]; kernel_rfl) | (rw [if_neg (by decide +kernel)]; exact ⟨rfl, rfl⟩))
    (fun os started H enc _ => lifted os started H enc)

theorem proved : Rows.RunFuelSaid := over
end Go.Proofs.YtcnliipkfccohaaGreat.runFuel
