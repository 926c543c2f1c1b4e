/- A twin has the text and goes on by itself; what was cut off does, too. Condition: none but the law's own. Conditions: none beyond the form's own. -/
import Derived.Test.YtidfpnedbcaicaaRows
import Derived.Test.YtidfpnedbcaicaaArgs
import Derived.Test.YtidfpnedbcaicaaRopW
namespace Go.Proofs.Ytidfpnedbcaicaa.ropeTwin
open Go.Proofs.Ytidfpnedbcaicaa
open Go.ChangeShapes Go.WideShapes Go.ChangeAt Go.RowKit Go.Deep
open Go.ChangeMaps (open_string shut_string)
set_option linter.unusedVariables false

theorem own : ownKnob Try.prog.godebug = none := by kernel_rfl
theorem laidOut : laidOutB Try.prog = true := by kernel_rfl
-- opt:8000000
attribute [local go_sem ↓] Go.wp_at_zero Go.wp_at_succ
attribute [local go_sem] later_cell later_frozen
theorem tw_sz (s x : ByteArray) (p : Nat) (hp : p ≤ s.size) : (s.extract 0 p ++ x ++ s.extract p s.size).size = s.size + x.size := by
  simp [ByteArray.size_append, ByteArray.size_extract]
  omega
theorem tw_a (c y : ByteArray) : y.extract 0 0 ++ c ++ y.extract 0 y.size = c ++ y := by
  apply str_ext
  rw [app_list, app_list, ext_take, ext_drop, app_list]
  simp
theorem tw_b (s : ByteArray) (k : Nat) (hk : k ≤ s.size) : (s.extract 0 k).extract 0 0 ++ (s.extract 0 k).extract k (s.extract 0 k).size = ⟨#[]⟩ := by
  apply str_ext
  rw [app_list, ext_take, ext_drop, ext_take]
  simp
theorem tw_c (s : ByteArray) (k : Nat) (hk : k ≤ s.size) : (s.extract 0 k).size = k := by rw [ByteArray.size_extract]; omega
theorem tw_d (s : ByteArray) (k : Nat) (hk : k ≤ s.size) : (s.extract k s.size).size = s.size - k := by rw [ByteArray.size_extract]; omega
set_option maxRecDepth 100000 in
set_option maxHeartbeats 8000000 in
theorem walk (a0 : ByteArray) (a1 : Int) (a2 : ByteArray) (w : World) (w0 : a0.size ≤ maxLen) (w1 : (Lit.int .i64 a1).wf = true) (w2 : a2.size ≤ maxLen) :
    Calls Try.prog 10 #[.string a0, .int .i64 a1, .string a2] w fun e w' => e = .returned (.bool true) ∧ Below w.heap.size w w' := by
  by_cases h0 : a0.size ≤ 300
  · have g0 : decide (300 < (a0.size : Int)) = false := decide_eq_false (by omega)
    by_cases h2 : a2.size ≤ 100
    · have g2 : decide (100 < (a2.size : Int)) = false := decide_eq_false (by omega)
      have hk := lowN_lt a1 (a0.size + 1) (by omega)
      have HL := hide (low_any a1 (a0.size + 1) w (by omega) (by omega))
      generalize lowN a1 (a0.size + 1) = k at *
      have hks : k ≤ a0.size := by omega
      clear hk
      go_enter Try.func10, Try.ntmps10
      go_wp2_with fail
      refine HL.out.mono ?_
      rintro e w1 ⟨rfl, rfl⟩
      go_wp2_with fail
      refine (rst_dnew (rst_start w) [2, 7, 1] _ rfl (by decide) (by decide) 3 rfl).mono ?_
      rintro e w1 ⟨d1, b1, rfl, hR1, _⟩
      have HN1 := hide (rst_new1 hR1 (d := d1) (g := b1) (by simp) a0 (by omega))
      clear hR1 HL
      go_wp2_with fail
      refine HN1.out.mono ?_
      rintro e w2 ⟨r, t1, rfl, _, htx, hR2⟩
      have HX := hide htx
      have HN1 := hide (rst_dnew hR2 [8] #[.int .u32 8] rfl (by decide) (by decide) 1 rfl)
      clear htx hR2
      go_wp2_with fail
      refine HN1.out.mono ?_
      rintro e w3 ⟨d2, b2, rfl, hR1, _⟩
      have HN1 := hide (rst_twin hR1 (r := r) (d := d1) (t := t1) (d2 := d2) (g2 := b2) (by simp) (by simp) HX.out (by omega))
      clear hR1
      go_wp2_with fail
      refine HN1.out.mono ?_
      rintro e w4 ⟨o, t2, rfl, _, hty, hR2⟩
      have HY := hide hty
      have HN1 := hide (rst_text hR2 (r := o) (d := d2) (t := t2) (by simp) hty (by omega))
      clear hty hR2
      go_wp2_with fail
      refine HN1.out.mono ?_
      rintro e w5 ⟨rfl, hb5, hR2⟩
      have HI := hide (rst_insert hR2.swap (g := b1) (by simp) HX.out k a2 hks (by omega))
      clear HX hR2 HN1
      go_wp2_with fail
      refine HI.out.mono ?_
      rintro e w6 ⟨t3, rfl, htx, hR2⟩
      have HX := hide htx
      have HN1 := hide (rst_text hR2 (r := o) (d := d2) (t := t2) (by simp) HY.out (by omega))
      clear htx hR2 HI
      go_wp2_with fail
      refine HN1.out.mono ?_
      rintro e w7 ⟨rfl, hb7, hR2⟩
      have HI := hide (rst_cut hR2.swap (g := b2) (by simp) HY.out k hks (by omega))
      clear hR2 HN1 HY
      go_wp2_with fail
      refine HI.out.mono ?_
      rintro e w8 ⟨q, t4, t5, rfl, _, htx, hty, hR2⟩
      have HY := hide htx
      have HI := hide (rst_insert hR2 (g := b2) (by simp) hty 0 a2 (by omega) (by rw [tw_d _ _ hks]; omega))
      rw [tw_a] at HI
      clear htx hR2
      go_wp2_with fail
      refine HI.out.mono ?_
      rintro e w9 ⟨t6, rfl, htx, hR2⟩
      have HZ := hide htx
      have HI := hide (rst_delete hR2.swap (g := b2) (by simp) HY.out 0 k (by omega) (by rw [tw_c _ _ hks]; omega) (by rw [tw_c _ _ hks]; omega))
      rw [tw_b _ _ hks] at HI
      clear htx hR2 HY
      go_wp2_with fail
      refine HI.out.mono ?_
      rintro e w10 ⟨t7, rfl, htx, hR2⟩
      have HY := hide htx
      have HR2 := hide hR2
      clear htx hR2 HI
      have z1 : (a0.extract 0 k ++ a2).size ≤ 1000 := by simp only [ByteArray.size_append, ByteArray.size_extract]; omega
      have z2 : (a0.extract 0 k ++ a2 ++ a0.extract k a0.size).size ≤ 1000 := by simp only [ByteArray.size_append, ByteArray.size_extract]; omega
      have z3 : (a2 ++ a0.extract k a0.size).size ≤ 1000 := by simp only [ByteArray.size_append, ByteArray.size_extract]; omega
      have hT1 := hide (fun W (hb : Below w10.heap.size w10 W) => (rst_text (HR2.out.bl hb) (r := r) (d := d1) (t := t3) (by simp) HX.out (by omega)).mono fun e w' (hh : e = _ ∧ _ ∧ _) => (⟨hh.1, hh.2.1⟩ : e = _ ∧ _))
      have hT2 := hide (fun W (hb : Below w10.heap.size w10 W) => (rst_text (HR2.out.bl hb) (r := o) (d := d2) (t := t7) (by simp) HY.out (by decide)).mono fun e w' (hh : e = _ ∧ _ ∧ _) => (⟨hh.1, hh.2.1⟩ : e = _ ∧ _))
      have hT3 := hide (fun W (hb : Below w10.heap.size w10 W) => (rst_text (HR2.out.bl hb) (r := q) (d := d2) (t := t6) (by simp) HZ.out (by omega)).mono fun e w' (hh : e = _ ∧ _ ∧ _) => (⟨hh.1, hh.2.1⟩ : e = _ ∧ _))
      have hT4 := hide (fun W (hb : Below w10.heap.size w10 W) => (rst_whole (HR2.out.bl hb) (r := q) (d := d2) (t := t6) (by simp) HZ.out (by omega)).mono fun e w' (hh : e = _ ∧ _ ∧ _) => (⟨hh.1, hh.2.1⟩ : e = _ ∧ _))
      go_wp2
      refine wp_region_later (by kernel_rfl) (by kernel_rfl) ?_
      repeat (go_big_quiet_step (first
        | (go_at_call 15; exact later_call (awake3_any _))
        | (go_at_call 21; exact later_call (hT4.out _ (Later.below _)))
        | (go_at_call_of 19 (Value.pointer (some ⟨r, 0, none⟩)); exact later_call (hT1.out _ (Later.below _)))
        | (go_at_call_of 19 (Value.pointer (some ⟨o, 0, none⟩)); exact later_call (hT2.out _ (Later.below _)))
        | (go_at_call_of 19 (Value.pointer (some ⟨q, 0, none⟩)); exact later_call (hT3.out _ (Later.below _)))
        | exact rfl))
      refine wpQuiet_nil ?_
      rintro w11 ⟨⟨_, hb9⟩, rfl⟩
      have hb := bl_trans HR2.out.bel hb9
      go_wp2
      go_ret
      exact ⟨rfl, hb⟩
    · have g2 : decide (100 < (a2.size : Int)) = true := decide_eq_true (by omega)
      go_enter Try.func10, Try.ntmps10
      go_wp2_with fail
      refine (awake3_any _).mono ?_
      rintro e w13 ⟨rfl, hb9⟩
      go_wp2
      go_ret
      exact ⟨rfl, hb9⟩
  · have g0 : decide (300 < (a0.size : Int)) = true := decide_eq_true (by omega)
    go_enter Try.func10, Try.ntmps10
    go_wp2_with fail
    refine (awake3_any _).mono ?_
    rintro e w13 ⟨rfl, hb9⟩
    go_wp2
    go_ret
    exact ⟨rfl, hb9⟩

set_option maxRecDepth 100000 in
theorem lifted (os : Os) (started : os.Started) (H : Type) (enc : TypeId × Value → H) :
    ReturnsInHanded {} Try.checked os 10 .any (Rows.ropeTwinSpec.pre6 enc Try.prog Try.f10 Rows.ropeTwinRow.domain false) (Rows.ropeTwinSpec.post enc Try.prog Try.f10 false true false false) := by
  refine returnsInHanded_of_change (C := Try.checked) own started (by kernel_rfl) Try.func10
    (ChangeSpec.witness6 (enc := enc) (C := Try.checked) false ⟨#[], #[.string ByteArray.empty, .int .i64 0, .string ByteArray.empty], []⟩ 8 (by kernel_rfl) (by kernel_rfl) (by kernel_rfl) (by kernel_rfl)) ?_
  intro W base args ds gs before hval0 hW hcnd _
  have hval : ∀ (j : Nat) t v, Try.f10.params[j]? = some t → args[j]? = some v → Value.okWide Try.prog W .any base t v := hval0
  have hW' := hW
  obtain ⟨p, q, hA0, hV, rfl, hfz, hnd⟩ := hW
  have hA : DataW.TrodAll enc Try.prog W 0 (fun _ => true) true Try.f10.params.toList args.toList ds p := hA0
  rw [Try.params10] at hA hval
  obtain ⟨v0, vs0, d0, ds0, p0, q0, hargs, rfl, rfl, h0, r0⟩ := trodAll_cons hA
  obtain ⟨v1, vs1, d1, ds1, p1, q1, rfl, rfl, rfl, h1, r1⟩ := trodAll_cons r0
  obtain ⟨v2, vs2, d2, ds2, p2, q2, rfl, rfl, rfl, h2, r2⟩ := trodAll_cons r1
  obtain ⟨rfl, rfl, rfl⟩ := trodAll_nil r2
  obtain rfl : args = #[v0, v1, v2] := by cases args; simp_all
  obtain ⟨rfl, rfl⟩ := trodVars_none hV
  have k0 := h0
  have lt0 : ∀ x ∈ p0, x.block < W.heap.size := by obtain ⟨m, hm⟩ := k0; exact DataW.trod_lt m _ _ _ hm
  obtain ⟨a0, rfl, hd0, hp0, w0⟩ := open_string Try.underlying9 (hval 0 9 v0 rfl rfl) h0
  have k1 := h1
  have lt1 : ∀ x ∈ p1, x.block < W.heap.size := by obtain ⟨m, hm⟩ := k1; exact DataW.trod_lt m _ _ _ hm
  obtain ⟨a1, rfl, hd1, hp1, w1⟩ := open_int Try.underlying3 (hval 1 3 v1 rfl rfl) h1
  have k2 := h2
  have lt2 : ∀ x ∈ p2, x.block < W.heap.size := by obtain ⟨m, hm⟩ := k2; exact DataW.trod_lt m _ _ _ hm
  obtain ⟨a2, rfl, hd2, hp2, w2⟩ := open_string Try.underlying9 (hval 2 9 v2 rfl rfl) h2
  clear hA0 hval0
  refine (walk a0 a1 a2 W w0 w1 w2).mono fun e W' ⟨he, bel⟩ => ?_
  subst he
  exact ⟨_, rfl, _, _, _, [], _, [], hW', trodAll_mk1 (shut_bool Try.underlying4 _), (trodAll_cons_mk (Below.trod laidOut (by kernel_rfl) (of_decide_eq_true (by kernel_rfl)) k0 bel lt0) (trodAll_cons_mk (Below.trod laidOut (by kernel_rfl) (of_decide_eq_true (by kernel_rfl)) k1 bel lt1) (trodAll_cons_mk (Below.trod laidOut (by kernel_rfl) (of_decide_eq_true (by kernel_rfl)) k2 bel lt2) trodAll_mk0))), rfl, bel.frame _, fun h => by cases h⟩

theorem over : Rows.ropeTwinRow.holds Try.pinned (OpenSpec.ofChange Rows.ropeTwinSpec) :=
  OpenClaim.holds_of_wide 10 Try.f10 rfl rfl rfl rfl rfl rfl rfl ⟨rfl, rfl, rfl, rfl, rfl⟩ rfl rfl rfl rfl rfl (by kernel_rfl) Try.func10 (by kernel_rfl)
    (of_decide_eq_true (by kernel_rfl)) (by unfold Func.isWrapper; first | (rw [if_pos (by decide +kernel)]; kernel_rfl) | (rw [if_neg (by decide +kernel)]; exact ⟨rfl, rfl⟩))
    (fun os started H enc _ => lifted os started H enc)

theorem proved : Rows.RopeTwinSaid := over
end Go.Proofs.Ytidfpnedbcaicaa.ropeTwin
