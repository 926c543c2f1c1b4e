/- An offset has one line by all three ways; its columns stand to each other as they should. Conditions: none beyond the form's own. -/
import Derived.Test.YtjjbpaaionpjeaaRows
import Derived.Test.YtjjbpaaionpjeaaArgs
import Derived.Test.YtjjbpaaionpjeaaLinG
namespace Go.Proofs.Ytjjbpaaionpjeaa.linesCols
open Go.Proofs.Ytjjbpaaionpjeaa
open Go.ChangeShapes Go.WideShapes Go.ChangeAt Go.RowKit Go.Deep
open Go.ChangeMaps (open_string shut_string)
set_option linter.unusedVariables false

theorem own : ownKnob Try.prog.godebug = none := by kernel_rfl
theorem laidOut : laidOutB Try.prog = true := by kernel_rfl
-- opt:16000000
attribute [local go_sem ↓] Go.wp_at_zero Go.wp_at_succ
attribute [local go_sem] later_cell later_frozen
theorem plIs_val {L : List UInt8} {way : Int} {p : Nat} {a b e : Int} (h : PlIs L p way a b e) (hw : plC way = 0) (hm : mayR 0 (p : Int) L.length = 0) : a = nBrk (L.take p) ∧ b = cnt way ((L.take p).drop (lnS L (nBrk (L.take p)))) ∧ e = 0 := h.2.2 hw hm
theorem cnt_01 (l : List UInt8) : cnt 0 l = (l.length : Nat) ∧ cnt 1 l ≤ cnt 0 l ∧ cnt 1 l ≤ cnt 2 l ∧ cnt 2 l ≤ 2 * cnt 0 l := by
  have h0 := cnt_zero l
  have h2 := cnt_bd 2 l
  have hr := nRun_le l
  have hg := nBig_le l
  have h1 : cnt 1 l = nRun l := by unfold cnt byW; simp
  have h3 : cnt 2 l = nBig l + nRun l := by unfold cnt byW; simp
  omega
set_option maxRecDepth 100000 in
set_option maxHeartbeats 16000000 in
theorem walk (a0 : ByteArray) (a1 : Int) (w : World) (w0 : a0.size ≤ maxLen) (w1 : (Lit.int .i64 a1).wf = true) :
    Calls Try.prog 7 #[.string a0, .int .i64 a1] w fun e w' => e = .returned (.bool true) ∧ Below w.heap.size w w' := by
  by_cases h0 : a0.size ≤ 300
  · have g0 : decide (300 < (a0.size : Int)) = false := decide_eq_false (by omega)
    have hlp := lowN_lt a1 (a0.size + 1) (by omega)
    have HLW := hide (fun W => (low_any a1 (a0.size + 1) W (by omega) (by omega) : Calls Try.prog 27 #[.int .i64 a1, .int .i64 ((a0.size : Int) + 1)] W fun e w' => e = .returned (.int .i64 (lowN a1 (a0.size + 1) : Nat)) ∧ W = w'))
    generalize lowN a1 (a0.size + 1) = p at *
    have hps : p ≤ a0.size := by omega
    have hxl : a0.data.toList.length = a0.size := rfl
    have hin := off_in a0.data.toList p (by omega)
    have hbt := nBrk_take a0.data.toList p
    have hbl := nBrk_le (a0.data.toList.take p)
    have hln : lnC a0.data.toList (nBrk (a0.data.toList.take p)) = 0 := by unfold lnC; rw [if_pos (by omega)]
    have hm0 : mayR 0 (p : Int) a0.data.toList.length = 0 := by unfold mayR; rw [if_neg (by omega)]
    have hS := fun (W : World) (r : Nat) (h : LnAt W r a0) => start_l h (by omega) (nBrk (a0.data.toList.take p))
    rw [lnSv_in hln, hln] at hS
    have HS := hide hS
    have HP0 := hide (fun (W : World) (r : Nat) (h : LnAt W r a0) => place_l h (by omega) p 0)
    have HP1 := hide (fun (W : World) (r : Nat) (h : LnAt W r a0) => place_l h (by omega) p 1)
    have HP2 := hide (fun (W : World) (r : Nat) (h : LnAt W r a0) => place_l h (by omega) p 2)
    have HV0 := hide (fun (a b e : Int) (h : PlIs a0.data.toList p 0 a b e) => plIs_val h (by decide) hm0)
    have HV1 := hide (fun (a b e : Int) (h : PlIs a0.data.toList p 1 a b e) => plIs_val h (by decide) hm0)
    have HV2 := hide (fun (a b e : Int) (h : PlIs a0.data.toList p 2 a b e) => plIs_val h (by decide) hm0)
    have hdl : ((a0.data.toList.take p).drop (lnS a0.data.toList (nBrk (a0.data.toList.take p)))).length = p - lnS a0.data.toList (nBrk (a0.data.toList.take p)) := by rw [List.length_drop, List.length_take]; omega
    have k1 := cnt_01 ((a0.data.toList.take p).drop (lnS a0.data.toList (nBrk (a0.data.toList.take p))))
    rw [hdl] at k1
    have hsp := hin.1
    clear hS hm0 hln hbl hbt hin hdl
    generalize (a0.data.toList.take p).drop (lnS a0.data.toList (nBrk (a0.data.toList.take p))) = l at *
    generalize lnS a0.data.toList (nBrk (a0.data.toList.take p)) = s at *
    generalize nBrk (a0.data.toList.take p) = ln at *
    have k2 := k1
    generalize cnt 0 l = y0 at *
    generalize cnt 1 l = y1 at *
    generalize cnt 2 l = y2 at *
    obtain ⟨k3, k4, k5, k6⟩ := k2
    have q1 : IntKind.i64.wrap ((p : Int) - (s : Int)) = y0 := by rw [IntWalk.i64_in _ (by omega)]; omega
    have q2 : IntKind.i64.wrap (2 * y0) = 2 * y0 := IntWalk.i64_in _ (by omega)
    have q3 : decide (y1 ≤ y0) = true := decide_eq_true (by omega)
    have q4 : decide (y1 ≤ y2) = true := decide_eq_true (by omega)
    have q5 : decide (y2 ≤ 2 * y0) = true := decide_eq_true (by omega)
    clear k1 k3 k4 k5 k6 hlp hxl hsp
    go_enter Try.func7, Try.ntmps7
    go_wp2_with fail
    refine (HLW.out _).mono ?_
    rintro e wa ⟨rfl, hwa⟩
    subst hwa
    go_wp2_with fail
    refine (of4_any a0 _ (by omega)).mono ?_
    rintro e w1 ⟨r, rfl, hL, hb1⟩
    have c0 := ln_c0 w1 r
    have HB := hide (bl_trans hb1 (ln_b0 w1 r))
    have HL := hide (hL.bl (ln_b0 w1 r))
    clear hL hb1
    go_wp2_with fail
    refine (HP0.out _ _ HL.out).mono ?_
    rintro e v15 ⟨p1, p2, p3, rfl, hp, hb⟩
    have c0 := cell_later hb c0
    have HB := hide (bl_trans HB.out hb)
    have HL := hide (HL.out.bl hb)
    clear hb
    obtain ⟨rfl, rfl, rfl⟩ := HV0.out _ _ _ hp
    clear hp
    go_wp2_with fail
    refine (HP1.out _ _ HL.out).mono ?_
    rintro e v16 ⟨p1, p2, p3, rfl, hp, hb⟩
    have c0 := cell_later hb c0
    have HB := hide (bl_trans HB.out hb)
    have HL := hide (HL.out.bl hb)
    clear hb
    obtain ⟨rfl, rfl, rfl⟩ := HV1.out _ _ _ hp
    clear hp
    go_wp2_with fail
    refine (HP2.out _ _ HL.out).mono ?_
    rintro e v17 ⟨p1, p2, p3, rfl, hp, hb⟩
    have c0 := cell_later hb c0
    have HB := hide (bl_trans HB.out hb)
    have HL := hide (HL.out.bl hb)
    clear hb
    obtain ⟨rfl, rfl, rfl⟩ := HV2.out _ _ _ hp
    clear hp
    go_wp2_with fail
    refine (HS.out _ _ HL.out).mono ?_
    rintro e v18 ⟨rfl, hb⟩
    have c0 := cell_later hb c0
    have HB := hide (bl_trans HB.out hb)
    have HL := hide (HL.out.bl hb)
    clear hb
    go_wp2_with fail
    refine (awake4_any _).mono ?_
    rintro e w9 ⟨rfl, hb⟩
    have HB := hide (bl_trans HB.out hb)
    go_wp2
    go_ret
    exact ⟨rfl, HB.out⟩
  · have g0 : decide (300 < (a0.size : Int)) = true := decide_eq_true (by omega)
    go_enter Try.func7, Try.ntmps7
    go_wp2_with fail
    refine (awake4_any _).mono ?_
    rintro e w9 ⟨rfl, hb⟩
    go_wp2
    go_ret
    exact ⟨rfl, hb⟩

set_option maxRecDepth 100000 in
theorem lifted (os : Os) (started : os.Started) (H : Type) (enc : TypeId × Value → H) :
    ReturnsInHanded {} Try.checked os 7 .any (Rows.linesColsSpec.pre6 enc Try.prog Try.f7 Rows.linesColsRow.domain false) (Rows.linesColsSpec.post enc Try.prog Try.f7 false true false false) := by
  refine returnsInHanded_of_change (C := Try.checked) own started (by kernel_rfl) Try.func7
    (ChangeSpec.witness6 (enc := enc) (C := Try.checked) false ⟨#[], #[.string ByteArray.empty, .int .i64 0], []⟩ 8 (by kernel_rfl) (by kernel_rfl) (by kernel_rfl) (by kernel_rfl)) ?_
  intro W base args ds gs before hval0 hW hcnd _
  have hval : ∀ (j : Nat) t v, Try.f7.params[j]? = some t → args[j]? = some v → Value.okWide Try.prog W .any base t v := hval0
  have hW' := hW
  obtain ⟨p, q, hA0, hV, rfl, hfz, hnd⟩ := hW
  have hA : DataW.TrodAll enc Try.prog W 0 (fun _ => true) true Try.f7.params.toList args.toList ds p := hA0
  rw [Try.params7] at hA hval
  obtain ⟨v0, vs0, d0, ds0, p0, q0, hargs, rfl, rfl, h0, r0⟩ := trodAll_cons hA
  obtain ⟨v1, vs1, d1, ds1, p1, q1, rfl, rfl, rfl, h1, r1⟩ := trodAll_cons r0
  obtain ⟨rfl, rfl, rfl⟩ := trodAll_nil r1
  obtain rfl : args = #[v0, v1] := by cases args; simp_all
  obtain ⟨rfl, rfl⟩ := trodVars_none hV
  have k0 := h0
  have lt0 : ∀ x ∈ p0, x.block < W.heap.size := by obtain ⟨m, hm⟩ := k0; exact DataW.trod_lt m _ _ _ hm
  obtain ⟨a0, rfl, hd0, hp0, w0⟩ := open_string Try.underlying9 (hval 0 9 v0 rfl rfl) h0
  have k1 := h1
  have lt1 : ∀ x ∈ p1, x.block < W.heap.size := by obtain ⟨m, hm⟩ := k1; exact DataW.trod_lt m _ _ _ hm
  obtain ⟨a1, rfl, hd1, hp1, w1⟩ := open_int Try.underlying3 (hval 1 3 v1 rfl rfl) h1
  clear hA0 hval0
  refine (walk a0 a1 W w0 w1).mono fun e W' ⟨he, bel⟩ => ?_
  subst he
  exact ⟨_, rfl, _, _, _, [], _, [], hW', trodAll_mk1 (shut_bool Try.underlying4 _), (trodAll_cons_mk (Below.trod laidOut (by kernel_rfl) (of_decide_eq_true (by kernel_rfl)) k0 bel lt0) (trodAll_cons_mk (Below.trod laidOut (by kernel_rfl) (of_decide_eq_true (by kernel_rfl)) k1 bel lt1) trodAll_mk0)), rfl, bel.frame _, fun h => by cases h⟩

theorem over : Rows.linesColsRow.holds Try.pinned (OpenSpec.ofChange Rows.linesColsSpec) :=
  OpenClaim.holds_of_wide 7 Try.f7 rfl rfl rfl rfl rfl rfl rfl ⟨rfl, rfl, rfl, rfl, rfl⟩ rfl rfl rfl rfl rfl (by kernel_rfl) Try.func7 (by kernel_rfl)
    (of_decide_eq_true (by kernel_rfl)) (by unfold Func.isWrapper; first | (rw [if_pos (by decide +kernel)]; kernel_rfl) | (rw [if_neg (by decide +kernel)]; exact ⟨rfl, rfl⟩))
    (fun os started H enc _ => lifted os started H enc)

theorem proved : Rows.LinesColsSaid := over
end Go.Proofs.Ytjjbpaaionpjeaa.linesCols
