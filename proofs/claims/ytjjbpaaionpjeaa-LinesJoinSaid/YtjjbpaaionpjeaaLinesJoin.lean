/- The lines, with breaks between, are the text; each one's Start is in it. Conditions: none beyond the form's own. -/
import Derived.Test.YtjjbpaaionpjeaaRows
import Derived.Test.YtjjbpaaionpjeaaArgs
import Derived.Test.YtjjbpaaionpjeaaLinG
namespace Go.Proofs.Ytjjbpaaionpjeaa.linesJoin
open Go.Proofs.Ytjjbpaaionpjeaa
open Go.ChangeShapes Go.WideShapes Go.ChangeAt Go.RowKit Go.Deep
open Go.ChangeMaps (open_string shut_string)
set_option linter.unusedVariables false

theorem own : ownKnob Try.prog.godebug = none := by kernel_rfl
theorem laidOut : laidOutB Try.prog = true := by kernel_rfl
-- opt:16000000
attribute [local go_sem ↓] Go.wp_at_zero Go.wp_at_succ
attribute [local go_sem] later_cell later_frozen
def jn (L : List UInt8) (k : Nat) : List UInt8 := if k = 0 then [] else L.take (lnE L ((k : Int) - 1))
theorem jn_one (L : List UInt8) : jn L 1 = (L.take (lnE L 0)).drop (lnS L 0) := by
  unfold jn
  rw [if_neg (by decide)]
  simp [lnS]
theorem jn_step (L : List UInt8) (k : Nat) (h1 : 1 ≤ k) (h2 : (k : Int) ≤ nBrk L) : jn L (k + 1) = jn L k ++ [10] ++ (L.take (lnE L k)).drop (lnS L k) := by
  unfold jn
  rw [if_neg (by omega), if_neg (by omega), show ((k + 1 : Nat) : Int) - 1 = (k : Int) by omega]
  have hse := lnS_le L k (by omega) h2
  have hel := lnE_le L k
  have hnx := lnS_next L ((k : Int) - 1) (by omega)
  rw [show (k : Int) - 1 + 1 = (k : Int) by omega] at hnx
  have hlt := (lnS_pos L k (by omega) h2).1
  have hlt2 : lnE L ((k : Int) - 1) < L.length := hlt
  rcases lnE_next L ((k : Int) - 1) (by omega) with h | ⟨c, r, hd, hc⟩
  · omega
  · have h10 : c = 10 := UInt8.toNat_inj.1 (by rw [hc]; rfl)
    have e1 : L.take (lnE L ((k : Int) - 1)) ++ [10] = L.take (lnS L k) := by
      have e2 : L[lnE L ((k : Int) - 1)] = c := by
        have := List.drop_eq_getElem_cons hlt2
        rw [hd] at this
        injection this with this _
        exact this.symm
      rw [hnx, List.take_succ_eq_append_getElem hlt2, e2, h10]
    rw [e1]
    have e3 := List.take_append_drop (lnS L k) (L.take (lnE L k))
    rw [List.take_take, Nat.min_eq_left hse] at e3
    exact e3.symm
theorem jn_end (L : List UInt8) (k : Nat) (h : (k : Int) = nBrk L + 1) : jn L k = L := by
  have hb := nBrk_le L
  unfold jn
  rw [if_neg (by omega), show (k : Int) - 1 = nBrk L by omega, lnE_last, List.take_length]
theorem jn_len (L : List UInt8) (k : Nat) : (jn L k).length ≤ L.length := by
  unfold jn
  split
  · simp
  · rw [List.length_take]; omega
theorem one_size : (⟨#[10]⟩ : ByteArray).size = 1 := rfl
def JnRel (x : ByteArray) (w : World) (B r m : Nat) (s i : Value) (wr : World) : Prop :=
  ∃ (k : Nat) (sv : ByteArray), s = .string sv ∧ i = .int .i64 k ∧ k ≤ m + 1 ∧ sv.size ≤ 300 ∧ Hid (sv.data.toList = jn x.data.toList k) ∧ Hid (LnAt wr r x) ∧ wr.cell? ⟨B, 0, none⟩ = some (.pointer (some ⟨r, 0, none⟩)) ∧ Hid (Below w.heap.size w wr)
set_option maxRecDepth 100000 in
set_option maxHeartbeats 16000000 in
theorem walk (a0 : ByteArray) (w : World) (w0 : a0.size ≤ maxLen) :
    Calls Try.prog 5 #[.string a0] w fun e w' => e = .returned (.bool true) ∧ Below w.heap.size w w' := by
  by_cases h0 : a0.size ≤ 300
  · have g0 : decide (300 < (a0.size : Int)) = false := decide_eq_false (by omega)

    have hxl : a0.data.toList.length = a0.size := rfl
    have hbr := nBrk_le a0.data.toList
    obtain ⟨m, hm⟩ : ∃ m : Nat, nBrk a0.data.toList = m := ⟨(nBrk a0.data.toList).toNat, by omega⟩
    have hM := fun (W : World) (r : Nat) (h : LnAt W r a0) => many_l h (by omega)
    rw [hm] at hM
    have HM := hide hM
    have hml : m ≤ a0.size := by omega
    have hN := fun (W : World) (r : Nat) (h : LnAt W r a0) => start_l h (by omega) ((m : Int) + 1)
    have hnc : lnC a0.data.toList ((m : Int) + 1) = 3 := by unfold lnC; rw [if_neg (by omega)]
    rw [lnSv_no hnc, hnc] at hN
    have HN := hide hN
    clear hM hN hnc
    go_enter Try.func5, Try.ntmps5
    go_wp2_with fail
    refine (of4_any a0 _ (by omega)).mono ?_
    rintro e w1 ⟨r, rfl, hL, hb1⟩
    have c0 := ln_c0 w1 r
    have HB := hide (bl_trans hb1 (ln_b0 w1 r))
    have HL := hide (hL.bl (ln_b0 w1 r))
    clear hL hb1
    go_wp2_with fail
    refine (HM.out _ _ HL.out).mono ?_
    rintro e v33 ⟨rfl, hb⟩
    have c0 := cell_later hb c0
    have HB := hide (bl_trans HB.out hb)
    have HL := hide (HL.out.bl hb)
    clear hb
    go_wp2
    go_loopw [5, 7] (fun s i wr => JnRel a0 w w1.heap.size r m s i wr) (fun _ i _ => m + 1 - (intOf i).toNat)
    case atStart => exact ⟨0, ⟨#[]⟩, rfl, rfl, Nat.zero_le _, by decide, hide (by simp [jn]), HL, c0, HB⟩
    case round =>
      clear c0 HL HB
      obtain ⟨k, sv, rfl, rfl, hk, hsz, HJ, HL, c0, HB⟩ := hrel
      by_cases hlt : k ≤ m
      · by_cases hk0 : k = 0
        · have hstp : (sv ++ a0.extract (lnS a0.data.toList k) (lnE a0.data.toList k)).data.toList = jn a0.data.toList (k + 1) := by
            subst hk0
            rw [app_list, HJ.out, ext_mid, jn_one]; rfl
          have gk : decide (0 < (k : Int)) = false := decide_eq_false (by omega)
          have gk2 : decide (0 < k) = false := decide_eq_false (by omega)
          have gk3 : ¬ 0 < k := by omega
          clear hk0
          have hl : lnC a0.data.toList (k : Int) = 0 := by unfold lnC; rw [if_pos (by omega)]
          have hse := lnS_le a0.data.toList k (by omega) (by omega)
          have hel := lnE_le a0.data.toList k
          have hbk := lnS_brk a0.data.toList k (by omega) (by omega)
          have hS := fun (W : World) (r : Nat) (h : LnAt W r a0) => start_l h (by omega) k
          have hE := fun (W : World) (r : Nat) (h : LnAt W r a0) => end_l h (by omega) k
          have hA := fun (W : World) (r : Nat) (h : LnAt W r a0) => at_l h (by omega) (lnS a0.data.toList k : Nat)
          have hm0 : mayR 0 ((lnS a0.data.toList k : Nat) : Int) a0.size = 0 := by unfold mayR; rw [if_neg (by omega)]
          rw [lnSv_in hl, hl] at hS
          rw [lnEv_in hl, hl] at hE
          rw [atV_in (by rw [hxl]; exact hm0), hm0, hbk] at hA
          have HSTP := hide hstp
          generalize lnS a0.data.toList k = s at *
          generalize lnE a0.data.toList k = t at *
          have HS := hide hS
          have HE := hide hE
          have HA := hide hA
          have hts : t ≤ a0.size := by omega
          have zz : (sv ++ a0.extract s t).size ≤ 700 := by simp only [ByteArray.size_append, ByteArray.size_extract]; omega
          have zy : sv.size + (a0.extract s t).size ≤ 700 := by simp only [ByteArray.size_extract]; omega
          have zx : (sv ++ ⟨#[10]⟩).size ≤ 301 := by rw [ByteArray.size_append, one_size]; omega
          have zw : (sv ++ ⟨#[10]⟩).size + (a0.extract s t).size ≤ 700 := by simp only [ByteArray.size_extract]; omega
          have zv : sv.size + (⟨#[10]⟩ : ByteArray).size ≤ 301 := by rw [one_size]; omega
          clear hS hE hA hl hbk hm0 hstp hel
          go_wp2_with fail
          refine (HS.out _ _ HL.out).mono ?_
          rintro e v30 ⟨rfl, hb⟩
          have c0 := cell_later hb c0
          have HB := hide (bl_trans HB.out hb)
          have HL := hide (HL.out.bl hb)
          clear hb
          go_wp2_with fail
          refine (HE.out _ _ HL.out).mono ?_
          rintro e v31 ⟨rfl, hb⟩
          have c0 := cell_later hb c0
          have HB := hide (bl_trans HB.out hb)
          have HL := hide (HL.out.bl hb)
          clear hb
          go_wp2_with fail
          refine (HA.out _ _ HL.out).mono ?_
          rintro e v32 ⟨rfl, hb⟩
          have c0 := cell_later hb c0
          have HB := hide (bl_trans HB.out hb)
          have HL := hide (HL.out.bl hb)
          clear hb
          have hsz2 : (sv ++ a0.extract s t).size ≤ 300 := by rw [size_list, HSTP.out]; have := jn_len a0.data.toList (k + 1); omega
          have HZ := hide hsz2
          clear hsz2 zz
          go_wp2
          refine ⟨?_, by first | (simp [intOf]; done) | (simp [intOf]; omega)⟩
          exact ⟨k + 1, _, rfl, by go_num, by omega, HZ.out, HSTP, HL, c0, HB⟩
        · have hstp : (sv ++ ⟨#[10]⟩ ++ a0.extract (lnS a0.data.toList k) (lnE a0.data.toList k)).data.toList = jn a0.data.toList (k + 1) := by
            rw [app_list, app_list, HJ.out, ext_mid, jn_step a0.data.toList k (by omega) (by omega)]
          have gk : decide (0 < (k : Int)) = true := decide_eq_true (by omega)
          have gk2 : decide (0 < k) = true := decide_eq_true (by omega)
          have gk3 : 0 < k := by omega
          clear hk0
          have hl : lnC a0.data.toList (k : Int) = 0 := by unfold lnC; rw [if_pos (by omega)]
          have hse := lnS_le a0.data.toList k (by omega) (by omega)
          have hel := lnE_le a0.data.toList k
          have hbk := lnS_brk a0.data.toList k (by omega) (by omega)
          have hS := fun (W : World) (r : Nat) (h : LnAt W r a0) => start_l h (by omega) k
          have hE := fun (W : World) (r : Nat) (h : LnAt W r a0) => end_l h (by omega) k
          have hA := fun (W : World) (r : Nat) (h : LnAt W r a0) => at_l h (by omega) (lnS a0.data.toList k : Nat)
          have hm0 : mayR 0 ((lnS a0.data.toList k : Nat) : Int) a0.size = 0 := by unfold mayR; rw [if_neg (by omega)]
          rw [lnSv_in hl, hl] at hS
          rw [lnEv_in hl, hl] at hE
          rw [atV_in (by rw [hxl]; exact hm0), hm0, hbk] at hA
          have HSTP := hide hstp
          generalize lnS a0.data.toList k = s at *
          generalize lnE a0.data.toList k = t at *
          have HS := hide hS
          have HE := hide hE
          have HA := hide hA
          have hts : t ≤ a0.size := by omega
          have zz : (sv ++ a0.extract s t).size ≤ 700 := by simp only [ByteArray.size_append, ByteArray.size_extract]; omega
          have zy : sv.size + (a0.extract s t).size ≤ 700 := by simp only [ByteArray.size_extract]; omega
          have zx : (sv ++ ⟨#[10]⟩).size ≤ 301 := by rw [ByteArray.size_append, one_size]; omega
          have zw : (sv ++ ⟨#[10]⟩).size + (a0.extract s t).size ≤ 700 := by simp only [ByteArray.size_extract]; omega
          have zv : sv.size + (⟨#[10]⟩ : ByteArray).size ≤ 301 := by rw [one_size]; omega
          clear hS hE hA hl hbk hm0 hstp hel
          go_wp2_with fail
          refine (HS.out _ _ HL.out).mono ?_
          rintro e v30 ⟨rfl, hb⟩
          have c0 := cell_later hb c0
          have HB := hide (bl_trans HB.out hb)
          have HL := hide (HL.out.bl hb)
          clear hb
          go_wp2_with fail
          refine (HE.out _ _ HL.out).mono ?_
          rintro e v31 ⟨rfl, hb⟩
          have c0 := cell_later hb c0
          have HB := hide (bl_trans HB.out hb)
          have HL := hide (HL.out.bl hb)
          clear hb
          go_wp2_with fail
          refine (HA.out _ _ HL.out).mono ?_
          rintro e v32 ⟨rfl, hb⟩
          have c0 := cell_later hb c0
          have HB := hide (bl_trans HB.out hb)
          have HL := hide (HL.out.bl hb)
          clear hb
          have hsz2 : (sv ++ ⟨#[10]⟩ ++ a0.extract s t).size ≤ 300 := by rw [size_list, HSTP.out]; have := jn_len a0.data.toList (k + 1); omega
          have HZ := hide hsz2
          clear hsz2 zz
          go_wp2
          refine ⟨?_, by first | (simp [intOf]; done) | (simp [intOf]; omega)⟩
          exact ⟨k + 1, _, rfl, by go_num, by omega, HZ.out, HSTP, HL, c0, HB⟩
      · obtain rfl : k = m + 1 := by omega
        have hall : sv = a0 := str_ext (by rw [HJ.out]; exact jn_end a0.data.toList (m + 1) (by omega))
        subst hall
        clear HJ
        go_wp2_with fail
        refine (HN.out _ _ HL.out).mono ?_
        rintro e v34 ⟨rfl, hb⟩
        have c0 := cell_later hb c0
        have HB := hide (bl_trans HB.out hb)
        have HL := hide (HL.out.bl hb)
        clear hb
        go_wp2_with fail
        refine (awake4_any _).mono ?_
        rintro e w9 ⟨rfl, hb⟩
        have HB := hide (bl_trans HB.out hb)
        go_wp2
        go_ret
        exact ⟨rfl, HB.out⟩
  · have g0 : decide (300 < (a0.size : Int)) = true := decide_eq_true (by omega)
    go_enter Try.func5, Try.ntmps5
    go_wp2_with fail
    refine (awake4_any _).mono ?_
    rintro e w9 ⟨rfl, hb⟩
    go_wp2
    go_ret
    exact ⟨rfl, hb⟩

set_option maxRecDepth 100000 in
theorem lifted (os : Os) (started : os.Started) (H : Type) (enc : TypeId × Value → H) :
    ReturnsInHanded {} Try.checked os 5 .any (Rows.linesJoinSpec.pre6 enc Try.prog Try.f5 Rows.linesJoinRow.domain false) (Rows.linesJoinSpec.post enc Try.prog Try.f5 false true false false) := by
  refine returnsInHanded_of_change (C := Try.checked) own started (by kernel_rfl) Try.func5
    (ChangeSpec.witness6 (enc := enc) (C := Try.checked) false ⟨#[], #[.string ByteArray.empty], []⟩ 8 (by kernel_rfl) (by kernel_rfl) (by kernel_rfl) (by kernel_rfl)) ?_
  intro W base args ds gs before hval0 hW hcnd _
  have hval : ∀ (j : Nat) t v, Try.f5.params[j]? = some t → args[j]? = some v → Value.okWide Try.prog W .any base t v := hval0
  have hW' := hW
  obtain ⟨p, q, hA0, hV, rfl, hfz, hnd⟩ := hW
  have hA : DataW.TrodAll enc Try.prog W 0 (fun _ => true) true Try.f5.params.toList args.toList ds p := hA0
  rw [Try.params5] at hA hval
  obtain ⟨v0, vs0, d0, ds0, p0, q0, hargs, rfl, rfl, h0, r0⟩ := trodAll_cons hA
  obtain ⟨rfl, rfl, rfl⟩ := trodAll_nil r0
  obtain rfl : args = #[v0] := by cases args; simp_all
  obtain ⟨rfl, rfl⟩ := trodVars_none hV
  have k0 := h0
  have lt0 : ∀ x ∈ p0, x.block < W.heap.size := by obtain ⟨m, hm⟩ := k0; exact DataW.trod_lt m _ _ _ hm
  obtain ⟨a0, rfl, hd0, hp0, w0⟩ := open_string Try.underlying9 (hval 0 9 v0 rfl rfl) h0
  clear hA0 hval0
  refine (walk a0 W w0).mono fun e W' ⟨he, bel⟩ => ?_
  subst he
  exact ⟨_, rfl, _, _, _, [], _, [], hW', trodAll_mk1 (shut_bool Try.underlying4 _), (trodAll_cons_mk (Below.trod laidOut (by kernel_rfl) (of_decide_eq_true (by kernel_rfl)) k0 bel lt0) trodAll_mk0), rfl, bel.frame _, fun h => by cases h⟩

theorem over : Rows.linesJoinRow.holds Try.pinned (OpenSpec.ofChange Rows.linesJoinSpec) :=
  OpenClaim.holds_of_wide 5 Try.f5 rfl rfl rfl rfl rfl rfl rfl ⟨rfl, rfl, rfl, rfl, rfl⟩ rfl rfl rfl rfl rfl (by kernel_rfl) Try.func5 (by kernel_rfl)
    (of_decide_eq_true (by kernel_rfl)) (by unfold Func.isWrapper; first | (rw [if_pos (by decide +kernel)]; kernel_rfl) | (rw [if_neg (by decide +kernel)]; exact ⟨rfl, rfl⟩))
    (fun os started H enc _ => lifted os started H enc)

theorem proved : Rows.LinesJoinSaid := over
end Go.Proofs.Ytjjbpaaionpjeaa.linesJoin
