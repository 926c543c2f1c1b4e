/- An offset that is where a character begins is found again by its line and column. Conditions: none beyond the form's own. -/
import Derived.Test.YtjjbpaaionpjeaaRows
import Derived.Test.YtjjbpaaionpjeaaArgs
import Derived.Test.YtjjbpaaionpjeaaLinG
namespace Go.Proofs.Ytjjbpaaionpjeaa.linesBack
open Go.Proofs.Ytjjbpaaionpjeaa
open Go.ChangeShapes Go.WideShapes Go.ChangeAt Go.RowKit Go.Deep
open Go.ChangeMaps (open_string shut_string)
set_option linter.unusedVariables false

theorem own : ownKnob Try.prog.godebug = none := by kernel_rfl
theorem laidOut : laidOutB Try.prog = true := by kernel_rfl
-- opt:16000000
attribute [local go_sem ↓] Go.wp_at_zero Go.wp_at_succ
attribute [local go_sem] later_cell later_frozen
theorem plIs_val {L : List UInt8} {way : Int} {p : Nat} {a b e : Int} (h : PlIs L p way a b e) (hw : plC way = 0) (hm : mayR 0 (p : Int) L.length = 0) : a = nBrk (L.take p) ∧ b = cnt way ((L.take p).drop (lnS L (nBrk (L.take p)))) ∧ e = 0 := h.2.2 hw hm
theorem plIs_val2 {L : List UInt8} {way : Int} {p : Nat} {a b e : Int} (h : PlIs L p way a b e) (hw : way = 0 ∨ way = 1 ∨ way = 2) (hm : mayR 0 (p : Int) L.length = 0) : a = nBrk (L.take p) ∧ b = cnt way ((L.take p).drop (lnS L (nBrk (L.take p)))) ∧ e = 0 := h.2.2 (if_pos hw) hm
theorem back_off (L : List UInt8) (p : Nat) (hp : p ≤ L.length) (way : Int) (hw : way = 0 ∨ way = 1 ∨ way = 2) (hc : ∀ (h : p < L.length), L[p].toNat < 128 ∨ 191 < L[p].toNat) :
    ofE L (nBrk (L.take p)) (cnt way ((L.take p).drop (lnS L (nBrk (L.take p))))) way = 0 ∧ ofA L (nBrk (L.take p)) (cnt way ((L.take p).drop (lnS L (nBrk (L.take p))))) way = p := by
  have hin := off_in L p hp
  have hbt := nBrk_take L p
  have hbl := nBrk_le (L.take p)
  have hel := lnE_le L (nBrk (L.take p))
  have hbd := cnt_bd way ((L.take p).drop (lnS L (nBrk (L.take p))))
  have hE : ofE L (nBrk (L.take p)) (cnt way ((L.take p).drop (lnS L (nBrk (L.take p))))) way = 0 := by
    unfold ofE plC lnC
    rw [if_pos (if_pos hw), if_pos ⟨if_pos ⟨by omega, by omega⟩, by omega⟩]
  refine ⟨hE, ?_⟩
  unfold ofA
  rw [if_pos hE]
  generalize nBrk (L.take p) = ln at *
  generalize lnS L ln = s at *
  generalize lnE L ln = t at *
  obtain ⟨h1, h2⟩ := hin
  have hsplit : (L.take t).drop s = (L.take p).drop s ++ (L.take t).drop p := by
    have e1 : L.take t = L.take p ++ (L.take t).drop p := by
      have := List.take_append_drop p (L.take t)
      rw [List.take_take, Nat.min_eq_left h2] at this
      exact this.symm
    have e2 : (L.take p ++ (L.take t).drop p).drop s = (L.take p).drop s ++ (L.take t).drop p := List.drop_append_of_le_length (by rw [List.length_take]; omega)
    rw [← e1] at e2
    exact e2
  rw [hsplit, upL_hi way _ _ _ (Int.le_refl _), List.length_drop, List.length_take, Int.sub_self]
  have hz : upL way ((L.take t).drop p) 0 = 0 := by
    rcases Nat.lt_or_ge p t with h | h
    · have hpl : p < L.length := by omega
      have hd : (L.take t).drop p = L[p] :: (L.take t).drop (p + 1) := by
        rw [List.drop_eq_getElem_cons (by rw [List.length_take]; omega), List.getElem_take]
      rw [hd, upL_cons, if_pos]
      have h5 := hc hpl
      have h6 : 1 ≤ cnt way [L[p]] := by
        have hr : nRun [L[p]] = 1 := by rw [nRun_one, if_pos h5]
        have hg := nBig_le [L[p]]
        unfold cnt byW
        rw [hr]
        rcases hw with rfl | rfl | rfl
        · simp
        · simp
        · simp; omega
      omega
    · rw [List.drop_of_length_le (by rw [List.length_take]; omega)]; rfl
  rw [hz]
  omega
set_option maxRecDepth 100000 in
set_option maxHeartbeats 16000000 in
theorem walk (a0 : ByteArray) (a1 : Int) (a2 : Int) (w : World) (w0 : a0.size ≤ maxLen) (w1 : (Lit.int .i64 a1).wf = true) (w2 : (Lit.int .i64 a2).wf = true) :
    Calls Try.prog 6 #[.string a0, .int .i64 a1, .int .i64 a2] w fun e w' => e = .returned (.bool true) ∧ Below w.heap.size w w' := by
  by_cases h0 : a0.size ≤ 300
  · have g0 : decide (300 < (a0.size : Int)) = false := decide_eq_false (by omega)

    have hlp := lowN_lt a1 (a0.size + 1) (by omega)
    have HLW := hide (fun W => (low_any a1 (a0.size + 1) W (by omega) (by omega) : Calls Try.prog 27 #[.int .i64 a1, .int .i64 ((a0.size : Int) + 1)] W fun e w' => e = .returned (.int .i64 (lowN a1 (a0.size + 1) : Nat)) ∧ W = w'))
    generalize lowN a1 (a0.size + 1) = p at *
    have hps : p ≤ a0.size := by omega
    have hxl : a0.data.toList.length = a0.size := rfl
    clear hlp
    by_cases hlt : p < a0.size
    · have hc256 : (a0[p].toNat : Int) < 256 := by have := a0[p].toNat_lt; omega
      by_cases hin : 128 ≤ a0[p].toNat ∧ a0[p].toNat < 192
      · have q1 : decide (128 ≤ (a0[p].toNat : Int)) = true := decide_eq_true (by omega)
        have q2 : decide ((a0[p].toNat : Int) < 192) = true := decide_eq_true (by omega)
        clear hin hxl
        go_enter Try.func6, Try.ntmps6
        go_wp2_with fail
        refine (HLW.out _).mono ?_
        rintro e wa ⟨rfl, hwa⟩
        subst hwa
        go_wp2_with fail
        refine (awake4_any _).mono ?_
        rintro e w9 ⟨rfl, hb⟩
        go_wp2
        go_ret
        exact ⟨rfl, hb⟩
      · have hcc : ∀ (h : p < a0.data.toList.length), a0.data.toList[p].toNat < 128 ∨ 191 < a0.data.toList[p].toNat := fun h => by
          have : a0.data.toList[p] = a0[p] := rfl
          rw [this]
          omega
        have hmy := lowN_lt a2 3 (by omega)
        have HW3 := hide (fun W => (low_any a2 3 W (by omega) (by omega) : Calls Try.prog 27 #[.int .i64 a2, .int .i64 3] W fun e w' => e = .returned (.int .i64 (lowN a2 3 : Nat)) ∧ W = w'))
        generalize lowN a2 3 = y at *
        have hy : (y : Int) = 0 ∨ (y : Int) = 1 ∨ (y : Int) = 2 := by omega
        have hm0 : mayR 0 (p : Int) a0.data.toList.length = 0 := by unfold mayR; rw [if_neg (by omega)]
        have HV := hide (fun (a b e : Int) (h : PlIs a0.data.toList p y a b e) => plIs_val2 h hy hm0)
        have hbo := back_off a0.data.toList p (by omega) y hy hcc
        have HP := hide (fun (W : World) (r : Nat) (h : LnAt W r a0) => place_l h (by omega) p y)
        have hcb := cnt_bd y ((a0.data.toList.take p).drop (lnS a0.data.toList (nBrk (a0.data.toList.take p))))
        have hcl : ((a0.data.toList.take p).drop (lnS a0.data.toList (nBrk (a0.data.toList.take p)))).length ≤ p := by rw [List.length_drop, List.length_take]; omega
        have hO := fun (W : World) (r : Nat) (h : LnAt W r a0) => offset_l h (by omega) (nBrk (a0.data.toList.take p)) (cnt y ((a0.data.toList.take p).drop (lnS a0.data.toList (nBrk (a0.data.toList.take p))))) y (by omega)
        rw [hbo.1, hbo.2] at hO
        have HO := hide hO
        clear hO hbo hcb hcl hm0 hcc hmy hxl
        generalize cnt y ((a0.data.toList.take p).drop (lnS a0.data.toList (nBrk (a0.data.toList.take p)))) = cw at *
        generalize nBrk (a0.data.toList.take p) = ln at *
        by_cases hlo : 128 ≤ a0[p].toNat
        · have q1 : decide (128 ≤ (a0[p].toNat : Int)) = true := decide_eq_true (by omega)
          have q2 : decide ((a0[p].toNat : Int) < 192) = false := decide_eq_false (by omega)
          clear hin hlo
          go_enter Try.func6, Try.ntmps6
          go_wp2_with fail
          refine (HLW.out _).mono ?_
          rintro e wa ⟨rfl, hwa⟩
          subst hwa
          go_wp2_with fail
          refine (of4_any a0 _ (by omega)).mono ?_
          rintro e w1 ⟨r, rfl, hL, hb1⟩
          have c0 := ln_c0 w1 r
          have HB := hide (bl_trans hb1 (ln_b0 w1 r))
          have HL := hide (hL.bl (ln_b0 w1 r))
          clear hL hb1
          go_wp2_with fail
          refine (HW3.out _).mono ?_
          rintro e wa ⟨rfl, hwa⟩
          subst hwa
          go_wp2_with fail
          refine (HP.out _ _ HL.out).mono ?_
          rintro e v19 ⟨p1, p2, p3, rfl, hp, hb⟩
          have c0 := cell_later hb c0
          have HB := hide (bl_trans HB.out hb)
          have HL := hide (HL.out.bl hb)
          clear hb
          obtain ⟨rfl, rfl, rfl⟩ := HV.out _ _ _ hp
          clear hp
          go_wp2_with fail
          refine (HO.out _ _ HL.out).mono ?_
          rintro e v20 ⟨rfl, hb⟩
          have c0 := cell_later hb c0
          have HB := hide (bl_trans HB.out hb)
          have HL := hide (HL.out.bl hb)
          clear hb
          go_wp2_with fail
          refine (awake4_any _).mono ?_
          rintro e w9 ⟨rfl, hb⟩
          have HB := hide (bl_trans HB.out hb)
          go_wp2
          go_ret
          exact ⟨rfl, HB.out⟩
        · have q1 : decide (128 ≤ (a0[p].toNat : Int)) = false := decide_eq_false (by omega)
          clear hin hlo
          go_enter Try.func6, Try.ntmps6
          go_wp2_with fail
          refine (HLW.out _).mono ?_
          rintro e wa ⟨rfl, hwa⟩
          subst hwa
          go_wp2_with fail
          refine (of4_any a0 _ (by omega)).mono ?_
          rintro e w1 ⟨r, rfl, hL, hb1⟩
          have c0 := ln_c0 w1 r
          have HB := hide (bl_trans hb1 (ln_b0 w1 r))
          have HL := hide (hL.bl (ln_b0 w1 r))
          clear hL hb1
          go_wp2_with fail
          refine (HW3.out _).mono ?_
          rintro e wa ⟨rfl, hwa⟩
          subst hwa
          go_wp2_with fail
          refine (HP.out _ _ HL.out).mono ?_
          rintro e v19 ⟨p1, p2, p3, rfl, hp, hb⟩
          have c0 := cell_later hb c0
          have HB := hide (bl_trans HB.out hb)
          have HL := hide (HL.out.bl hb)
          clear hb
          obtain ⟨rfl, rfl, rfl⟩ := HV.out _ _ _ hp
          clear hp
          go_wp2_with fail
          refine (HO.out _ _ HL.out).mono ?_
          rintro e v20 ⟨rfl, hb⟩
          have c0 := cell_later hb c0
          have HB := hide (bl_trans HB.out hb)
          have HL := hide (HL.out.bl hb)
          clear hb
          go_wp2_with fail
          refine (awake4_any _).mono ?_
          rintro e w9 ⟨rfl, hb⟩
          have HB := hide (bl_trans HB.out hb)
          go_wp2
          go_ret
          exact ⟨rfl, HB.out⟩
    · have hcc : ∀ (h : p < a0.data.toList.length), a0.data.toList[p].toNat < 128 ∨ 191 < a0.data.toList[p].toNat := fun h => absurd h (by omega)
      have q0 : decide ((p : Int) < (a0.size : Int)) = false := decide_eq_false (by omega)
      have q3 : decide (p < a0.size) = false := decide_eq_false hlt
      have hmy := lowN_lt a2 3 (by omega)
      have HW3 := hide (fun W => (low_any a2 3 W (by omega) (by omega) : Calls Try.prog 27 #[.int .i64 a2, .int .i64 3] W fun e w' => e = .returned (.int .i64 (lowN a2 3 : Nat)) ∧ W = w'))
      generalize lowN a2 3 = y at *
      have hy : (y : Int) = 0 ∨ (y : Int) = 1 ∨ (y : Int) = 2 := by omega
      have hm0 : mayR 0 (p : Int) a0.data.toList.length = 0 := by unfold mayR; rw [if_neg (by omega)]
      have HV := hide (fun (a b e : Int) (h : PlIs a0.data.toList p y a b e) => plIs_val2 h hy hm0)
      have hbo := back_off a0.data.toList p (by omega) y hy hcc
      have HP := hide (fun (W : World) (r : Nat) (h : LnAt W r a0) => place_l h (by omega) p y)
      have hcb := cnt_bd y ((a0.data.toList.take p).drop (lnS a0.data.toList (nBrk (a0.data.toList.take p))))
      have hcl : ((a0.data.toList.take p).drop (lnS a0.data.toList (nBrk (a0.data.toList.take p)))).length ≤ p := by rw [List.length_drop, List.length_take]; omega
      have hO := fun (W : World) (r : Nat) (h : LnAt W r a0) => offset_l h (by omega) (nBrk (a0.data.toList.take p)) (cnt y ((a0.data.toList.take p).drop (lnS a0.data.toList (nBrk (a0.data.toList.take p))))) y (by omega)
      rw [hbo.1, hbo.2] at hO
      have HO := hide hO
      clear hO hbo hcb hcl hm0 hcc hmy hxl
      generalize cnt y ((a0.data.toList.take p).drop (lnS a0.data.toList (nBrk (a0.data.toList.take p)))) = cw at *
      generalize nBrk (a0.data.toList.take p) = ln at *
      go_enter Try.func6, Try.ntmps6
      go_wp2_with fail
      refine (HLW.out _).mono ?_
      rintro e wa ⟨rfl, hwa⟩
      subst hwa
      go_wp2_with fail
      refine (of4_any a0 _ (by omega)).mono ?_
      rintro e w1 ⟨r, rfl, hL, hb1⟩
      have c0 := ln_c0 w1 r
      have HB := hide (bl_trans hb1 (ln_b0 w1 r))
      have HL := hide (hL.bl (ln_b0 w1 r))
      clear hL hb1
      go_wp2_with fail
      refine (HW3.out _).mono ?_
      rintro e wa ⟨rfl, hwa⟩
      subst hwa
      go_wp2_with fail
      refine (HP.out _ _ HL.out).mono ?_
      rintro e v19 ⟨p1, p2, p3, rfl, hp, hb⟩
      have c0 := cell_later hb c0
      have HB := hide (bl_trans HB.out hb)
      have HL := hide (HL.out.bl hb)
      clear hb
      obtain ⟨rfl, rfl, rfl⟩ := HV.out _ _ _ hp
      clear hp
      go_wp2_with fail
      refine (HO.out _ _ HL.out).mono ?_
      rintro e v20 ⟨rfl, hb⟩
      have c0 := cell_later hb c0
      have HB := hide (bl_trans HB.out hb)
      have HL := hide (HL.out.bl hb)
      clear hb
      go_wp2_with fail
      refine (awake4_any _).mono ?_
      rintro e w9 ⟨rfl, hb⟩
      have HB := hide (bl_trans HB.out hb)
      go_wp2
      go_ret
      exact ⟨rfl, HB.out⟩
  · have g0 : decide (300 < (a0.size : Int)) = true := decide_eq_true (by omega)
    go_enter Try.func6, Try.ntmps6
    go_wp2_with fail
    refine (awake4_any _).mono ?_
    rintro e w9 ⟨rfl, hb⟩
    go_wp2
    go_ret
    exact ⟨rfl, hb⟩

set_option maxRecDepth 100000 in
theorem lifted (os : Os) (started : os.Started) (H : Type) (enc : TypeId × Value → H) :
    ReturnsInHanded {} Try.checked os 6 .any (Rows.linesBackSpec.pre6 enc Try.prog Try.f6 Rows.linesBackRow.domain false) (Rows.linesBackSpec.post enc Try.prog Try.f6 false true false false) := by
  refine returnsInHanded_of_change (C := Try.checked) own started (by kernel_rfl) Try.func6
    (ChangeSpec.witness6 (enc := enc) (C := Try.checked) false ⟨#[], #[.string ByteArray.empty, .int .i64 0, .int .i64 0], []⟩ 8 (by kernel_rfl) (by kernel_rfl) (by kernel_rfl) (by kernel_rfl)) ?_
  intro W base args ds gs before hval0 hW hcnd _
  have hval : ∀ (j : Nat) t v, Try.f6.params[j]? = some t → args[j]? = some v → Value.okWide Try.prog W .any base t v := hval0
  have hW' := hW
  obtain ⟨p, q, hA0, hV, rfl, hfz, hnd⟩ := hW
  have hA : DataW.TrodAll enc Try.prog W 0 (fun _ => true) true Try.f6.params.toList args.toList ds p := hA0
  rw [Try.params6] at hA hval
  obtain ⟨v0, vs0, d0, ds0, p0, q0, hargs, rfl, rfl, h0, r0⟩ := trodAll_cons hA
  obtain ⟨v1, vs1, d1, ds1, p1, q1, rfl, rfl, rfl, h1, r1⟩ := trodAll_cons r0
  obtain ⟨v2, vs2, d2, ds2, p2, q2, rfl, rfl, rfl, h2, r2⟩ := trodAll_cons r1
  obtain ⟨rfl, rfl, rfl⟩ := trodAll_nil r2
  obtain rfl : args = #[v0, v1, v2] := by cases args; simp_all
  obtain ⟨rfl, rfl⟩ := trodVars_none hV
  have k0 := h0
  have lt0 : ∀ x ∈ p0, x.block < W.heap.size := by obtain ⟨m, hm⟩ := k0; exact DataW.trod_lt m _ _ _ hm
  obtain ⟨a0, rfl, hd0, hp0, w0⟩ := open_string Try.underlying9 (hval 0 9 v0 rfl rfl) h0
  have k1 := h1
  have lt1 : ∀ x ∈ p1, x.block < W.heap.size := by obtain ⟨m, hm⟩ := k1; exact DataW.trod_lt m _ _ _ hm
  obtain ⟨a1, rfl, hd1, hp1, w1⟩ := open_int Try.underlying3 (hval 1 3 v1 rfl rfl) h1
  have k2 := h2
  have lt2 : ∀ x ∈ p2, x.block < W.heap.size := by obtain ⟨m, hm⟩ := k2; exact DataW.trod_lt m _ _ _ hm
  obtain ⟨a2, rfl, hd2, hp2, w2⟩ := open_int Try.underlying3 (hval 2 3 v2 rfl rfl) h2
  clear hA0 hval0
  refine (walk a0 a1 a2 W w0 w1 w2).mono fun e W' ⟨he, bel⟩ => ?_
  subst he
  exact ⟨_, rfl, _, _, _, [], _, [], hW', trodAll_mk1 (shut_bool Try.underlying4 _), (trodAll_cons_mk (Below.trod laidOut (by kernel_rfl) (of_decide_eq_true (by kernel_rfl)) k0 bel lt0) (trodAll_cons_mk (Below.trod laidOut (by kernel_rfl) (of_decide_eq_true (by kernel_rfl)) k1 bel lt1) (trodAll_cons_mk (Below.trod laidOut (by kernel_rfl) (of_decide_eq_true (by kernel_rfl)) k2 bel lt2) trodAll_mk0))), rfl, bel.frame _, fun h => by cases h⟩

theorem over : Rows.linesBackRow.holds Try.pinned (OpenSpec.ofChange Rows.linesBackSpec) :=
  OpenClaim.holds_of_wide 6 Try.f6 rfl rfl rfl rfl rfl rfl rfl ⟨rfl, rfl, rfl, rfl, rfl⟩ rfl rfl rfl rfl rfl (by kernel_rfl) Try.func6 (by kernel_rfl)
    (of_decide_eq_true (by kernel_rfl)) (by unfold Func.isWrapper; first | (rw [if_pos (by decide +kernel)]; kernel_rfl) | (rw [if_neg (by decide +kernel)]; exact ⟨rfl, rfl⟩))
    (fun os started H enc _ => lifted os started H enc)

theorem proved : Rows.LinesBackSaid := over
end Go.Proofs.Ytjjbpaaionpjeaa.linesBack
