/- So it is of edits that are apart, in whatever order; they may be done. Conditions: none beyond the form's own. -/
import Derived.Test.YtbaaciekjpadfaaRows
import Derived.Test.YtbaaciekjpadfaaArgs
import Derived.Test.YtbaaciekjpadfaaRefC
import Derived.Test.YtbaaciekjpadfaaRefD
namespace Go.Proofs.Ytbaaciekjpadfaa.changeApart
open Go.Proofs.Ytbaaciekjpadfaa
open Go.ChangeShapes Go.WideShapes Go.ChangeAt Go.RowKit Go.Deep
open Go.ChangeMaps (open_string shut_string)
set_option linter.unusedVariables false

theorem own : ownKnob Try.prog.godebug = none := by kernel_rfl
theorem laidOut : laidOutB Try.prog = true := by kernel_rfl
-- opt:8000000
open SpanM EdM
attribute [local go_sem ↓] Go.wp_at_zero Go.wp_at_succ
theorem own_len {w : World} {base : Nat} {v : Value} {n : Nat} {l : List Ed} (h : w.ownsRow base 45 3 v n (flatE l)) (hn : n = l.length) : EdAt w v l := by subst hn; exact own_edat h
theorem edat_nil (w : World) : EdAt w (.slice none 0 0) [] := .inl ⟨rfl, rfl⟩
set_option maxRecDepth 100000 in
set_option maxHeartbeats 8000000 in
theorem walk (a0 : ByteArray) (a1 : Value) (l1 : List EdM.Ed) (a2 : Int) (w : World) (w0 : a0.size ≤ maxLen) (w1 : EdAt w a1 l1) (b1 : ∀ e ∈ l1, WfE e) (w2 : (Lit.int .i64 a2).wf = true) :
    Calls Try.prog 4 #[.string a0, a1, .int .i64 a2] w fun e w' => e = .returned (.bool true) ∧ Below w.heap.size w w' := by
  by_cases hin : a0.size ≤ 200
  · have g1 : decide (200 < (a0.size : Int)) = false := by simp; omega
    have W1 := hide w1
    have hP := hide (edat_long w1)
    clear w1 w2
    go_enter Try.func4, Try.ntmps4
    go_wp2_with fail
    refine (apart6_any a0.size a1 l1 _ W1.out (by omega) hP.out).mono ?_
    rintro e w1 ⟨v1, l, rfl, hap, hb1, ho1⟩
    have hll := hap.len
    have HE1 := hide (own_edat ho1)
    have HAP := hide hap
    obtain ⟨R, hR⟩ : ∃ R, appR (bts a0) l = R := ⟨_, rfl⟩
    obtain ⟨B, hB⟩ : ∃ B, inv (bts a0) 0 (grp l) = B := ⟨_, rfl⟩
    have hBl : B.length ≤ 20 := by rw [← hB, inv_len]; have := grp_le l; omega
    have HR := hide hR
    have HB := hide hB
    have HFL := hide (ap_fine hap (by omega) (.refl l))
    have HSL := hide (ap_small hap (.refl l))
    have HME := hide (fine_code (ap_fine hap (by omega) (.refl l)))
    have hsrt := ap_sort hap (.refl l)
    have HR0 : Hid (appR (bts a0) (sortE l) = R) := hide (by rw [hsrt]; exact hR)
    have HGB : Hid (inv (bts a0) 0 (grp (sortE l)) = B) := hide (by rw [hsrt]; exact hB)
    have HGL : Hid ((grp (sortE l)).length = B.length) := hide (by rw [← HGB.out, inv_len])
    have hb11 : Below w1.heap.size w1 w1 := bl_refl w1
    clear ho1 hap hR hB hsrt
    go_wp2_with fail
    refine (turned_any _ l a2 _ (edat_below HE1.out hb11) hll).mono ?_
    rintro e w2 ⟨v2, k2, rfl, hk2, hb2, ho2⟩
    have HT2 := hide (edat_of ho2 (turn_len l k2))
    have HP2 := hide (ap_sort HAP.out (turn_perm l k2))
    have HF2 := hide (ap_fine HAP.out (by omega) (turn_perm l k2))
    have HS2 := hide (ap_small HAP.out (turn_perm l k2))
    have hl2 : (turn l k2).length ≤ 20 := by rw [turn_len]; exact hll
    have hb12 := bl_trans hb11 hb2
    clear ho2
    go_wp2_with fail
    refine (apply_fine a0 R _ (turn l k2) _ HT2.out hl2 HS2.out (by omega) HF2.out (by rw [HP2.out]; exact HR.out)).mono ?_
    rintro e w3 ⟨rfl, hb3⟩
    have hb13 := bl_trans hb12 hb3
    clear HT2 HP2 HF2 HS2
    go_wp2_with fail
    refine (r6apply_yes a0 R _ l _ (edat_below HE1.out hb13) hll HSL.out (by omega) HFL.out HR0.out).mono ?_
    rintro e w4 ⟨rfl, hb4⟩
    have hb14 := bl_trans hb13 hb4
    go_wp2_with fail
    refine (turned_any _ l a2 _ (edat_below HE1.out hb14) hll).mono ?_
    rintro e w5 ⟨v5, k5, rfl, hk5, hb5, ho5⟩
    have HT5 := hide (edat_of ho5 (turn_len l k5))
    have HP5 := hide (ap_sort HAP.out (turn_perm l k5))
    have HF5 := hide (ap_fine HAP.out (by omega) (turn_perm l k5))
    have HS5 := hide (ap_small HAP.out (turn_perm l k5))
    have hl5 : (turn l k5).length ≤ 20 := by rw [turn_len]; exact hll
    have hb15 := bl_trans hb14 hb5
    clear ho5
    go_wp2_with fail
    refine (back_fine a0 B _ (turn l k5) _ HT5.out hl5 HS5.out (by omega) HF5.out (by rw [HP5.out]; exact HB.out)).mono ?_
    rintro e w6 ⟨vb, rfl, hb6, ho6⟩
    have HB6 := hide (own_edat ho6)
    have hb16 := bl_trans hb15 hb6
    clear HT5 HP5 HF5 HS5 ho6
    go_wp2_with fail
    refine (r6back_yes a0 _ l _ (edat_below HE1.out hb16) hll HSL.out (by omega) HFL.out).mono ?_
    rintro e w7 ⟨vc, rfl, hb7, ho7⟩
    have HC7 := hide (own_len (l := B) (by rw [← HGB.out]; exact ho7) HGL.out)
    have HB7 := hide (edat_below HB6.out hb7)
    have hb17 := bl_trans hb16 hb7
    clear ho7 HB6
    go_wp2_with fail
    refine (may6e_any a0.size 0 _ l _ (edat_below HE1.out hb17) (by omega) HSL.out (by omega) HME.out).mono ?_
    rintro e w8 ⟨rfl, hb8⟩
    have hb18 := bl_trans hb17 hb8
    have HB8 := hide (edat_below HB7.out hb8)
    have HC8 := hide (edat_below HC7.out hb8)
    clear HB7 HC7
    go_wp2_with fail
    refine (edits_any _ _ B B true _ HB8.out HC8.out (by omega) (by omega) (by simp)).mono ?_
    rintro e w9 ⟨rfl, hb9⟩
    have hb19 := bl_trans hb18 hb9
    clear HB8 HC8
    go_wp2_with fail
    refine (turned_any _ l a2 _ (edat_below HE1.out hb19) hll).mono ?_
    rintro e wA ⟨v10, k10, rfl, hk10, hb10, ho10⟩
    have HT10 := hide (edat_of ho10 (turn_len l k10))
    have HP10 := hide (ap_sort HAP.out (turn_perm l k10))
    have HF10 := hide (ap_fine HAP.out (by omega) (turn_perm l k10))
    have HS10 := hide (ap_small HAP.out (turn_perm l k10))
    have hl10 : (turn l k10).length ≤ 20 := by rw [turn_len]; exact hll
    have hb1A := bl_trans hb19 hb10
    clear ho10
    go_wp2_with fail
    refine (sortE_any _ (turn l k10) _ HT10.out hl10).mono ?_
    rintro e wB ⟨vs, rfl, hbB, hoB⟩
    have HSB := hide (own_len (l := l) (by rw [HP10.out] at hoB; exact hoB) (turn_len l k10))
    have hb1B := bl_trans hb1A hbB
    clear hoB
    go_wp2_with fail
    refine (edits_any _ _ l l true _ HSB.out (edat_below HE1.out hb1B) (by omega) (by omega) (by simp)).mono ?_
    rintro e wC ⟨rfl, hbC⟩
    have hb1C := bl_trans hb1B hbC
    go_wp2_with fail
    refine (awake6_any _).mono ?_
    rintro e wD ⟨rfl, hbD⟩
    go_wp2
    go_ret
    exact ⟨rfl, bl_trans hb1 (bl_trans hb1C hbD)⟩
  · have g1 : decide (200 < (a0.size : Int)) = true := by simp; omega
    clear hin
    go_enter Try.func4, Try.ntmps4
    go_wp2_with fail
    refine (awake6_any _).mono ?_
    rintro e w1 ⟨rfl, hb1⟩
    go_wp2
    go_ret
    exact ⟨rfl, hb1⟩

set_option maxRecDepth 100000 in
theorem lifted (os : Os) (started : os.Started) (H : Type) (enc : TypeId × Value → H) :
    ReturnsInHanded {} Try.checked os 4 .any (Rows.changeApartSpec.pre6 enc Try.prog Try.f4 Rows.changeApartRow.domain false) (Rows.changeApartSpec.post enc Try.prog Try.f4 false true false false) := by
  refine returnsInHanded_of_change (C := Try.checked) own started (by kernel_rfl) Try.func4
    (ChangeSpec.witness6 (enc := enc) (C := Try.checked) false ⟨#[], #[.string ByteArray.empty, .slice none 0 0, .int .i64 0], []⟩ 8 (by kernel_rfl) (by kernel_rfl) (by kernel_rfl) (by kernel_rfl)) ?_
  intro W base args ds gs before hval0 hW hcnd _
  have hval : ∀ (j : Nat) t v, Try.f4.params[j]? = some t → args[j]? = some v → Value.okWide Try.prog W .any base t v := hval0
  have hW' := hW
  obtain ⟨p, q, hA0, hV, rfl, hfz, hnd⟩ := hW
  have hA : DataW.TrodAll enc Try.prog W 0 (fun _ => true) true Try.f4.params.toList args.toList ds p := hA0
  rw [Try.params4] at hA hval
  obtain ⟨v0, vs0, d0, ds0, p0, q0, hargs, rfl, rfl, h0, r0⟩ := trodAll_cons hA
  obtain ⟨v1, vs1, d1, ds1, p1, q1, rfl, rfl, rfl, h1, r1⟩ := trodAll_cons r0
  obtain ⟨v2, vs2, d2, ds2, p2, q2, rfl, rfl, rfl, h2, r2⟩ := trodAll_cons r1
  obtain ⟨rfl, rfl, rfl⟩ := trodAll_nil r2
  obtain rfl : args = #[v0, v1, v2] := by cases args; simp_all
  obtain ⟨rfl, rfl⟩ := trodVars_none hV
  have k0 := h0
  have lt0 : ∀ x ∈ p0, x.block < W.heap.size := by obtain ⟨m, hm⟩ := k0; exact DataW.trod_lt m _ _ _ hm
  obtain ⟨a0, rfl, hd0, hp0, w0⟩ := open_string Try.underlying9 (hval 0 9 v0 rfl rfl) h0
  have k1 := h1
  have lt1 : ∀ x ∈ p1, x.block < W.heap.size := by obtain ⟨m, hm⟩ := k1; exact DataW.trod_lt m _ _ _ hm
  obtain ⟨l1, w1, b1⟩ := open_pieces (hval 1 38 v1 rfl rfl) h1
  have k2 := h2
  have lt2 : ∀ x ∈ p2, x.block < W.heap.size := by obtain ⟨m, hm⟩ := k2; exact DataW.trod_lt m _ _ _ hm
  obtain ⟨a2, rfl, hd2, hp2, w2⟩ := open_int Try.underlying3 (hval 2 3 v2 rfl rfl) h2
  clear hA0 hval0
  refine (walk a0 v1 l1 a2 W w0 w1 b1 w2).mono fun e W' ⟨he, bel⟩ => ?_
  subst he
  exact ⟨_, rfl, _, _, _, [], _, [], hW', trodAll_mk1 (shut_bool Try.underlying4 _), (trodAll_cons_mk (Below.trod laidOut (by kernel_rfl) (of_decide_eq_true (by kernel_rfl)) k0 bel lt0) (trodAll_cons_mk (Below.trod laidOut (by kernel_rfl) (of_decide_eq_true (by kernel_rfl)) k1 bel lt1) (trodAll_cons_mk (Below.trod laidOut (by kernel_rfl) (of_decide_eq_true (by kernel_rfl)) k2 bel lt2) trodAll_mk0))), rfl, bel.frame _, fun h => by cases h⟩

theorem over : Rows.changeApartRow.holds Try.pinned (OpenSpec.ofChange Rows.changeApartSpec) :=
  OpenClaim.holds_of_wide 4 Try.f4 rfl rfl rfl rfl rfl rfl rfl ⟨rfl, rfl, rfl, rfl, rfl⟩ rfl rfl rfl rfl rfl (by kernel_rfl) Try.func4 (by kernel_rfl)
    (of_decide_eq_true (by kernel_rfl)) (by unfold Func.isWrapper; first | (rw [if_pos (by decide +kernel)]; kernel_rfl) | (rw [if_neg (by decide +kernel)]; exact ⟨rfl, rfl⟩))
    (fun os started H enc _ => lifted os started H enc)

theorem proved : Rows.ChangeApartSaid := over
end Go.Proofs.Ytbaaciekjpadfaa.changeApart
