/- Edits that are apart may be done in two goes, those from one of them on first, then those ahead of it. Conditions: none beyond the form's own. -/
import Derived.Test.YtbaaciekjpadfaaRows
import Derived.Test.YtbaaciekjpadfaaArgs
import Derived.Test.YtbaaciekjpadfaaEdL
import Derived.Deep.QuietTactic
import Derived.BigQuiet
import Derived.Deep.RegionWith
namespace Go.Proofs.Ytbaaciekjpadfaa.changeHalves
open Go.Proofs.Ytbaaciekjpadfaa
open Go.ChangeShapes Go.WideShapes Go.ChangeAt Go.RowKit Go.Deep
open Go.ChangeMaps (open_string shut_string)
set_option linter.unusedVariables false

theorem own : ownKnob Try.prog.godebug = none := by kernel_rfl
theorem laidOut : laidOutB Try.prog = true := by kernel_rfl
-- opt:8000000
open SpanM EdM
attribute [local go_sem ↓] Go.wp_at_zero Go.wp_at_succ
attribute [local go_sem] later_cell later_frozen
theorem sizes_app (a b : List Ed) : sizes (a ++ b) = sizes a + sizes b := by
  induction a with
  | nil => simp [sizes]
  | cons e r ih =>
    have e1 : sizes (e :: r ++ b) = e.2.size + sizes (r ++ b) := rfl
    have e2 : sizes (e :: r) = e.2.size + sizes r := rfl
    rw [e1, e2, ih]; omega
theorem chain_to {n : Int} {e : Ed} {r A : List Ed} : ∀ {a : Int}, Chain n a (A ++ e :: r) → Chain e.1.1 a A := by
  induction A with
  | nil => intro a h; exact h.1
  | cons x q ih => intro a h; exact ⟨h.1, h.2.1, ih h.2.2⟩
theorem ap_drop {n : Int} {l : List Ed} (h : AP n l) (k : Nat) : AP n (l.drop k) := by
  have hc := h.chain
  have hr := h.rise
  have hs := h.sizes
  rw [← List.take_append_drop k l] at hc hr hs
  rw [sizes_app] at hs
  exact ⟨chain_right hc, (List.pairwise_append.1 hr).2.1, by omega, by rw [List.length_drop]; have := h.len; omega⟩
theorem ap_take {n : Int} {l : List Ed} (h : AP n l) (k : Nat) (s : Bs) (hs : (s.length : Int) = n) : AP ((appR s (l.drop k)).length : Nat) (l.take k) := by
  have hc := h.chain
  have hr := h.rise
  have hz := h.sizes
  rw [← List.take_append_drop k l] at hc hr hz
  rw [sizes_app] at hz
  refine ⟨?_, (List.pairwise_append.1 hr).1, by omega, by rw [List.length_take]; have := h.len; omega⟩
  cases hd : l.drop k with
  | nil =>
    rw [hd, List.append_nil] at hc
    show Chain (s.length : Int) 0 _
    rw [hs]; exact hc
  | cons e r =>
    rw [hd] at hc
    have h1 := chain_to hc
    have h2 := chain_right hc
    have h3 : Chain (s.length : Int) e.1.1 (e :: r) := by rw [hs]; exact ⟨Int.le_refl _, h2.2.1, h2.2.2⟩
    have h0 := h2.1
    obtain ⟨l1, l2⟩ := appR_len s (e :: r) e.1.1 h0 h3
    have h4 := chain_le h3
    refine chain_up h1 ?_
    have := congrArg List.length (l2 e.1.1 (Int.le_refl _))
    simp only [List.length_take] at this
    omega
set_option maxRecDepth 100000 in
set_option maxHeartbeats 8000000 in
theorem walk (a0 : ByteArray) (a1 : Value) (l1 : List EdM.Ed) (a2 : Int) (a3 : Int) (a4 : Bool) (w : World) (w0 : a0.size ≤ maxLen) (w1 : EdAt w a1 l1) (b1 : ∀ e ∈ l1, WfE e) (w2 : (Lit.int .i64 a2).wf = true) (w3 : (Lit.int .i64 a3).wf = true) :
    Calls Try.prog 11 #[.string a0, a1, .int .i64 a2, .int .i64 a3, .bool a4] w fun e w' => e = .returned (.bool true) ∧ Below w.heap.size w w' := by
  by_cases hin : a0.size ≤ 200
  · obtain ⟨i0, hi0, hz0', hz1, hz2⟩ := info_parts info_ed
    have g1 : decide (200 < (a0.size : Int)) = false := by simp; omega
    have W1 := hide w1
    have hP := hide (edat_long w1)
    clear w1 w2 w3
    go_enter Try.func11, Try.ntmps11
    go_wp2_with fail
    refine (apart6_any a0.size a1 l1 _ W1.out (by omega) hP.out).mono ?_
    rintro e w1 ⟨v1, l, rfl, hap, hb1, ho1⟩
    have hll := hap.len
    have he1 := own_edat ho1
    obtain ⟨aE, cE, rfl⟩ := edat_len he1
    have hcl : l.length ≤ cE := by
      rcases he1 with ⟨h0, rfl⟩ | ⟨x, c', h0, h1, _⟩
      · cases h0; simp
      · cases h0; exact h1
    have hL1 := fun W => low_any a2 (l.length + 1) W (by omega) (by omega)
    have hL2 := fun W => low_any a3 (a0.size + 1) W (by omega) (by omega)
    have hk := lowN_lt a2 (l.length + 1) (by omega)
    have hp := lowN_lt a3 (a0.size + 1) (by omega)
    rw [show ((l.length + 1 : Nat) : Int) = (l.length : Int) + 1 by omega] at hL1
    rw [show ((a0.size + 1 : Nat) : Int) = (a0.size : Int) + 1 by omega] at hL2
    generalize lowN a2 (l.length + 1) = k at *
    generalize lowN a3 (a0.size + 1) = p at *
    have HL1 := hide hL1
    have HL2 := hide hL2
    have hlo := edat_take he1 k (by omega)
    have hhi := edat_drop he1 k (by omega)
    have hslo := fun (W : World) => run_slice_to (P := Try.prog) 22 45 i0 Try.underlying22 hi0 aE l.length cE k (k : Int) rfl (by omega) W
    have hshi := fun (W : World) => run_slice_from (P := Try.prog) 22 45 i0 Try.underlying22 hi0 aE l.length cE k (k : Int) rfl (by omega) W
    rw [hz1] at hshi
    generalize (if cE = k then aE else aE.map (·.add (k * 3))) = a2' at *
    have HE := hide he1
    have HLO := hide hlo
    have HHI := hide hhi
    have had := ap_drop hap k
    have hat := ap_take hap k (bts a0) (by rw [bts_len])
    obtain ⟨T, hT⟩ : ∃ T, mkT (appR (bts a0) l) = T := ⟨_, rfl⟩
    obtain ⟨U, hU⟩ : ∃ U, mkT (appR (bts a0) (l.drop k)) = U := ⟨_, rfl⟩
    have hbT : appR (bts a0) l = bts T := by rw [← hT, bts_mk]
    have hbU : appR (bts a0) (l.drop k) = bts U := by rw [← hU, bts_mk]
    rw [hbU, bts_len] at hat
    have hsp : l.take k ++ l.drop k = l := List.take_append_drop k l
    have hUT : appR (bts U) (l.take k) = bts T := by rw [← hbU, ← appR_app, hsp, hbT]
    have hUs : U.size ≤ 400 := by
      rw [← hU, mk_size]
      have h1 := (appR_len (bts a0) (l.drop k) 0 (Int.le_refl _) (by rw [bts_len]; exact had.chain)).1
      have h2 := tot_sizes had.chain
      have h3 := had.sizes
      rw [bts_len] at h1
      omega
    have HA1 : Hid (appR (bts a0) (sortE l) = bts T) := hide (by rw [ap_sort hap (.refl l)]; exact hbT)
    have HA2 : Hid (appR (bts a0) (sortE (l.drop k)) = bts U) := hide (by rw [ap_sort had (.refl _)]; exact hbU)
    have HA3 : Hid (appR (bts U) (sortE (l.take k)) = bts T) := hide (by rw [ap_sort hat (.refl _)]; exact hUT)
    have HF1 := hide (ap_fine hap (by omega) (.refl l))
    have HF2 := hide (ap_fine had (by omega) (.refl _))
    have HF3 := hide (ap_fine hat (by omega) (.refl _))
    have HS1 := hide (ap_small hap (.refl l))
    have HS2 := hide (ap_small had (.refl _))
    have HS3 := hide (ap_small hat (.refl _))
    have HG1 := hide (ap_good hap (by omega) (.refl l))
    have HG2 := hide (ap_good had (by omega) (.refl _))
    have HG3 := hide (ap_good hat (by omega) (.refl _))
    have hld : (l.drop k).length ≤ 20 := had.len
    have hlt : (l.take k).length ≤ 20 := hat.len
    obtain ⟨m1, hm1⟩ : ∃ m, mvR a4 (l.drop k) (p : Int) = m := ⟨_, rfl⟩
    obtain ⟨m2, hm2⟩ : ∃ m, mvR a4 l (p : Int) = m := ⟨_, rfl⟩
    have hmm : mvR a4 (l.take k) m1 = m2 := by rw [← hm1, ← mvR_app, hsp, hm2]
    have hwide := mv_wide a4 (l.drop k) HG2.out p (by omega) hld
    rw [hm1] at hwide
    obtain ⟨hw1, hw2⟩ := hwide
    have HM1 : Hid (mvR a4 (sortE (l.drop k)) (p : Int) = m1) := hide (by rw [ap_sort had (.refl _)]; exact hm1)
    have HM2 : Hid (mvR a4 (sortE l) (p : Int) = m2) := hide (by rw [ap_sort hap (.refl _)]; exact hm2)
    have HM3 : Hid (mvR a4 (sortE (l.take k)) m1 = m2) := hide (by rw [ap_sort hat (.refl _)]; exact hmm)
    have e1 : mkT (bts T) = T := mk_bts T
    have e2 : mkT (bts U) = U := mk_bts U
    clear hap ho1 he1 hL1 hL2 hlo hhi had hat hT hU hbT hbU hsp hUT hm1 hm2 hmm
    go_wp2_with fail
    refine (HL1.out _).mono ?_
    rintro e w8 ⟨rfl, rfl⟩
    go_wp2_with fail
    refine (apply_fine a0 (bts T) _ l _ HE.out hll HS1.out (by omega) HF1.out HA1.out).mono ?_
    rintro e w3 ⟨rfl, hb3⟩
    rw [e1]
    go_wp2_with fail
    refine (apply_fine a0 (bts U) _ (l.drop k) _ (edat_below HHI.out hb3) hld HS2.out (by omega) HF2.out HA2.out).mono ?_
    rintro e w4 ⟨rfl, hb4⟩
    rw [e2]
    have hb14 := bl_trans hb3 hb4
    go_wp2_with fail
    refine (apply_fine U (bts T) _ (l.take k) _ (edat_below HLO.out hb14) hlt HS3.out (by omega) HF3.out HA3.out).mono ?_
    rintro e w5 ⟨rfl, hb5⟩
    rw [e1]
    have hb15 := bl_trans hb14 hb5
    have HE5 := hide (edat_below HE.out hb15)
    have HV1 := hide (fun W (hb : Below w5.heap.size w5 W) => move_good (p : Int) m1 a4 _ (l.drop k) W (edat_below HHI.out (bl_trans hb15 hb)) hld HG2.out (by omega) HM1.out)
    have HV2 := hide (fun W (hb : Below w5.heap.size w5 W) => move_good m1 m2 a4 _ (l.take k) W (edat_below HLO.out (bl_trans hb15 hb)) hlt HG3.out ⟨hw1, hw2⟩ HM3.out)
    clear HA1 HA2 HA3 HF1 HF2 HF3 HS1 HS2 HS3 HE HLO HHI HM1 HM3 HG2 HG3 e1 e2
    go_wp2_with fail
    refine (HL2.out _).mono ?_
    rintro e w6 ⟨rfl, rfl⟩
    go_wp2
    refine wp_region_later (by kernel_rfl) (by kernel_rfl) ?_
    repeat (go_big_quiet_step (first | (go_at_call_of 27 (Value.int .i64 (p : Int)); exact later_call (HV1.out _ (Later.below _))) | (go_at_call_of 27 (Value.int .i64 m1); exact later_call (HV2.out _ (Later.below _))) | exact rfl))
    refine wpQuiet_nil ?_
    rintro w9 ⟨⟨_, hb9⟩, rfl⟩
    have HE9 := hide (edat_below HE5.out hb9)
    clear HV1 HV2 HE5 hslo hshi
    go_wp2_with fail
    refine (move_good (p : Int) m2 a4 _ l _ HE9.out hll HG1.out (by omega) HM2.out).mono ?_
    rintro e w10 ⟨rfl, hb10⟩
    clear HE9 HG1 HM2
    go_wp2_with fail
    refine (awake6_any _).mono ?_
    rintro e wz ⟨rfl, hbz⟩
    go_wp2
    go_ret
    exact ⟨rfl, bl_trans hb1 (bl_trans hb15 (bl_trans hb9 (bl_trans hb10 hbz)))⟩
  · have g1 : decide (200 < (a0.size : Int)) = true := by simp; omega
    clear hin
    go_enter Try.func11, Try.ntmps11
    go_wp2_with fail
    refine (awake6_any _).mono ?_
    rintro e w1 ⟨rfl, hb1⟩
    go_wp2
    go_ret
    exact ⟨rfl, hb1⟩

set_option maxRecDepth 100000 in
theorem lifted (os : Os) (started : os.Started) (H : Type) (enc : TypeId × Value → H) :
    ReturnsInHanded {} Try.checked os 11 .any (Rows.changeHalvesSpec.pre6 enc Try.prog Try.f11 Rows.changeHalvesRow.domain false) (Rows.changeHalvesSpec.post enc Try.prog Try.f11 false true false false) := by
  refine returnsInHanded_of_change (C := Try.checked) own started (by kernel_rfl) Try.func11
    (ChangeSpec.witness6 (enc := enc) (C := Try.checked) false ⟨#[], #[.string ByteArray.empty, .slice none 0 0, .int .i64 0, .int .i64 0, .bool false], []⟩ 8 (by kernel_rfl) (by kernel_rfl) (by kernel_rfl) (by kernel_rfl)) ?_
  intro W base args ds gs before hval0 hW hcnd _
  have hval : ∀ (j : Nat) t v, Try.f11.params[j]? = some t → args[j]? = some v → Value.okWide Try.prog W .any base t v := hval0
  have hW' := hW
  obtain ⟨p, q, hA0, hV, rfl, hfz, hnd⟩ := hW
  have hA : DataW.TrodAll enc Try.prog W 0 (fun _ => true) true Try.f11.params.toList args.toList ds p := hA0
  rw [Try.params11] at hA hval
  obtain ⟨v0, vs0, d0, ds0, p0, q0, hargs, rfl, rfl, h0, r0⟩ := trodAll_cons hA
  obtain ⟨v1, vs1, d1, ds1, p1, q1, rfl, rfl, rfl, h1, r1⟩ := trodAll_cons r0
  obtain ⟨v2, vs2, d2, ds2, p2, q2, rfl, rfl, rfl, h2, r2⟩ := trodAll_cons r1
  obtain ⟨v3, vs3, d3, ds3, p3, q3, rfl, rfl, rfl, h3, r3⟩ := trodAll_cons r2
  obtain ⟨v4, vs4, d4, ds4, p4, q4, rfl, rfl, rfl, h4, r4⟩ := trodAll_cons r3
  obtain ⟨rfl, rfl, rfl⟩ := trodAll_nil r4
  obtain rfl : args = #[v0, v1, v2, v3, v4] := by cases args; simp_all
  obtain ⟨rfl, rfl⟩ := trodVars_none hV
  have k0 := h0
  have lt0 : ∀ x ∈ p0, x.block < W.heap.size := by obtain ⟨m, hm⟩ := k0; exact DataW.trod_lt m _ _ _ hm
  obtain ⟨a0, rfl, hd0, hp0, w0⟩ := open_string Try.underlying9 (hval 0 9 v0 rfl rfl) h0
  have k1 := h1
  have lt1 : ∀ x ∈ p1, x.block < W.heap.size := by obtain ⟨m, hm⟩ := k1; exact DataW.trod_lt m _ _ _ hm
  obtain ⟨l1, w1, b1⟩ := open_pieces (hval 1 38 v1 rfl rfl) h1
  have k2 := h2
  have lt2 : ∀ x ∈ p2, x.block < W.heap.size := by obtain ⟨m, hm⟩ := k2; exact DataW.trod_lt m _ _ _ hm
  obtain ⟨a2, rfl, hd2, hp2, w2⟩ := open_int Try.underlying3 (hval 2 3 v2 rfl rfl) h2
  have k3 := h3
  have lt3 : ∀ x ∈ p3, x.block < W.heap.size := by obtain ⟨m, hm⟩ := k3; exact DataW.trod_lt m _ _ _ hm
  obtain ⟨a3, rfl, hd3, hp3, w3⟩ := open_int Try.underlying3 (hval 3 3 v3 rfl rfl) h3
  have k4 := h4
  have lt4 : ∀ x ∈ p4, x.block < W.heap.size := by obtain ⟨m, hm⟩ := k4; exact DataW.trod_lt m _ _ _ hm
  obtain ⟨a4, rfl, hd4, hp4⟩ := open_bool Try.underlying4 (hval 4 4 v4 rfl rfl) h4
  clear hA0 hval0
  refine (walk a0 v1 l1 a2 a3 a4 W w0 w1 b1 w2 w3).mono fun e W' ⟨he, bel⟩ => ?_
  subst he
  exact ⟨_, rfl, _, _, _, [], _, [], hW', trodAll_mk1 (shut_bool Try.underlying4 _), (trodAll_cons_mk (Below.trod laidOut (by kernel_rfl) (of_decide_eq_true (by kernel_rfl)) k0 bel lt0) (trodAll_cons_mk (Below.trod laidOut (by kernel_rfl) (of_decide_eq_true (by kernel_rfl)) k1 bel lt1) (trodAll_cons_mk (Below.trod laidOut (by kernel_rfl) (of_decide_eq_true (by kernel_rfl)) k2 bel lt2) (trodAll_cons_mk (Below.trod laidOut (by kernel_rfl) (of_decide_eq_true (by kernel_rfl)) k3 bel lt3) (trodAll_cons_mk (Below.trod laidOut (by kernel_rfl) (of_decide_eq_true (by kernel_rfl)) k4 bel lt4) trodAll_mk0))))), rfl, bel.frame _, fun h => by cases h⟩

theorem over : Rows.changeHalvesRow.holds Try.pinned (OpenSpec.ofChange Rows.changeHalvesSpec) :=
  OpenClaim.holds_of_wide 11 Try.f11 rfl rfl rfl rfl rfl rfl rfl ⟨rfl, rfl, rfl, rfl, rfl⟩ rfl rfl rfl rfl rfl (by kernel_rfl) Try.func11 (by kernel_rfl)
    (of_decide_eq_true (by kernel_rfl)) (by unfold Func.isWrapper; first | (rw [if_pos (by decide +kernel)]; kernel_rfl) | (rw [if_neg (by decide +kernel)]; exact ⟨rfl, rfl⟩))
    (fun os started H enc _ => lifted os started H enc)

theorem proved : Rows.ChangeHalvesSaid := over
end Go.Proofs.Ytbaaciekjpadfaa.changeHalves
