/- Of two texts one behind the other the front with at most n lies in the first one or goes on in the second one with what is left. Conditions: none beyond the form's own. -/
import Derived.Test.YtdknaahkjhplgaaRows
import Derived.Test.YtdknaahkjhplgaaArgs
import Derived.Test.YtdknaahkjhplgaaTalC
namespace Go.Proofs.Ytdknaahkjhplgaa.tallyOn
open Go.Proofs.Ytdknaahkjhplgaa
open Go.ChangeShapes Go.WideShapes Go.ChangeAt Go.RowKit Go.Deep
open Go.ChangeMaps (open_string shut_string)
set_option linter.unusedVariables false

theorem own : ownKnob Try.prog.godebug = none := by kernel_rfl
theorem laidOut : laidOutB Try.prog = true := by kernel_rfl
theorem upL_app (way : Int) (t : List UInt8) : ∀ (l : List UInt8) (m : Int), 0 ≤ m →
    (m < cnt way l → upL way (l ++ t) m = upL way l m ∧ upL way l m < l.length) ∧ (¬ m < cnt way l → upL way (l ++ t) m = l.length + upL way t (m - cnt way l))
  | [], m, hm => by
    rw [cnt_nil]
    exact ⟨fun h => by omega, fun _ => by simp⟩
  | c :: r, m, hm => by
    have e1 : cnt way (c :: r) = cnt way [c] + cnt way r := by rw [← cnt_app]; rfl
    have hr := cnt_bd way r
    rw [e1, List.cons_append, upL, upL]
    by_cases h : m - cnt way [c] < 0
    · rw [if_pos h, if_pos h]
      exact ⟨fun _ => ⟨rfl, by simp⟩, fun h2 => by omega⟩
    · rw [if_neg h, if_neg h]
      obtain ⟨i1, i2⟩ := upL_app way t r (m - cnt way [c]) (by omega)
      constructor
      · intro h2
        obtain ⟨j1, j2⟩ := i1 (by omega)
        rw [j1]
        exact ⟨rfl, by simp; omega⟩
      · intro h2
        rw [i2 (by omega), show m - (cnt way [c] + cnt way r) = m - cnt way [c] - cnt way r by omega]
        simp; omega
set_option maxRecDepth 100000 in
set_option maxHeartbeats 1000000 in
theorem walk (a0 : ByteArray) (a1 : ByteArray) (a2 : Int) (a3 : Int) (w : World) (w0 : a0.size ≤ maxLen) (w1 : a1.size ≤ maxLen) (w2 : (Lit.int .i64 a2).wf = true) (w3 : (Lit.int .i64 a3).wf = true) :
    Calls Try.prog 14 #[.string a0, .string a1, .int .i64 a2, .int .i64 a3] w fun e w' => e = .returned (.bool true) ∧ Below w.heap.size w w' := by
  obtain ⟨g1, g2⟩ := bounds_i64 w3
  by_cases hs : a0.size ≤ 100
  · by_cases ht : a1.size ≤ 100
    · by_cases hn : a3 < 0
      · go_enter Try.func14, Try.ntmps14
        go_wp2_with fail
        refine (awake2_any _).mono ?_
        rintro e w1 ⟨rfl, hb1⟩
        go_wp2
        go_ret
        exact ⟨rfl, hb1⟩
      · have hw4 := lowN_lt a2 4 (by omega)
        have hc := cnt_bd (lowN a2 4) a0.data.toList
        rw [len_data] at hc
        obtain ⟨q1, q2⟩ := upL_app (lowN a2 4) a1.data.toList a0.data.toList a3 (by omega)
        rw [len_data] at q1 q2
        have hq1 := hide q1
        have hq2 := hide q2
        clear q1 q2
        have hu : ∀ (l : List UInt8) (m : Int), 0 ≤ m → upto (lowN a2 4) m l = (upL (lowN a2 4) l m : Nat) := fun l m hm => by unfold upto; rw [if_neg (by omega)]
        have HU := hide hu
        clear hu
        go_enter Try.func14, Try.ntmps14
        go_wp2_with fail
        refine (low_any a2 4 _ (by omega) (by omega)).mono ?_
        rintro e w1 ⟨rfl, rfl⟩
        go_wp2_with fail
        refine (of_any a0 _ (by omega)).mono ?_
        rintro e w1 ⟨rfl, hb1⟩
        go_wp2_with fail
        refine (bytal_any _ _ _).mono ?_
        rintro e w2 ⟨rfl, hb2⟩
        go_wp2_with fail
        refine (upto_any _ _ a3 _ (by simp; omega) g2).mono ?_
        rintro e w3 ⟨rfl, hb3⟩
        rw [HU.out _ _ (by omega)]
        by_cases hlt : a3 < cnt (lowN a2 4) a0.data.toList
        · obtain ⟨j1, j2⟩ := hq1.out hlt
          have J1 := hide j1
          clear j1
          go_wp2_with fail
          refine (upto_any a0 _ a3 _ (by omega) g2).mono ?_
          rintro e w4 ⟨rfl, hb4⟩
          rw [HU.out _ _ (by omega)]
          simp only [J1.out]
          go_wp2_with fail
          refine (awake2_any _).mono ?_
          rintro e w5 ⟨rfl, hb5⟩
          go_wp2
          go_ret
          exact ⟨rfl, bl_trans (bl_trans (bl_trans (bl_trans hb1 hb2) hb3) hb4) hb5⟩
        · have J1 := hide (hq2.out (by omega))
          have hu2 := upL_le (lowN a2 4) a1.data.toList (a3 - cnt (lowN a2 4) a0.data.toList)
          rw [len_data] at hu2
          go_wp2_with fail
          refine (upto_any a1 _ _ _ (by omega) (by omega)).mono ?_
          rintro e w4 ⟨rfl, hb4⟩
          rw [HU.out _ _ (by omega)]
          simp only [J1.out, Int.natCast_add]
          generalize upL (lowN a2 4) a1.data.toList (a3 - cnt (lowN a2 4) a0.data.toList) = u at *
          go_wp2_with fail
          refine (awake2_any _).mono ?_
          rintro e w5 ⟨rfl, hb5⟩
          go_wp2
          go_ret
          exact ⟨rfl, bl_trans (bl_trans (bl_trans (bl_trans hb1 hb2) hb3) hb4) hb5⟩
    · go_enter Try.func14, Try.ntmps14
      go_wp2_with fail
      refine (awake2_any _).mono ?_
      rintro e w1 ⟨rfl, hb1⟩
      go_wp2
      go_ret
      exact ⟨rfl, hb1⟩
  · go_enter Try.func14, Try.ntmps14
    go_wp2_with fail
    refine (awake2_any _).mono ?_
    rintro e w1 ⟨rfl, hb1⟩
    go_wp2
    go_ret
    exact ⟨rfl, hb1⟩

set_option maxRecDepth 100000 in
theorem lifted (os : Os) (started : os.Started) (H : Type) (enc : TypeId × Value → H) :
    ReturnsInHanded {} Try.checked os 14 .any (Rows.tallyOnSpec.pre6 enc Try.prog Try.f14 Rows.tallyOnRow.domain false) (Rows.tallyOnSpec.post enc Try.prog Try.f14 false true false false) := by
  refine returnsInHanded_of_change (C := Try.checked) own started (by kernel_rfl) Try.func14
    (ChangeSpec.witness6 (enc := enc) (C := Try.checked) false ⟨#[], #[.string ByteArray.empty, .string ByteArray.empty, .int .i64 0, .int .i64 0], []⟩ 8 (by kernel_rfl) (by kernel_rfl) (by kernel_rfl) (by kernel_rfl)) ?_
  intro W base args ds gs before hval0 hW hcnd _
  have hval : ∀ (j : Nat) t v, Try.f14.params[j]? = some t → args[j]? = some v → Value.okWide Try.prog W .any base t v := hval0
  have hW' := hW
  obtain ⟨p, q, hA0, hV, rfl, hfz, hnd⟩ := hW
  have hA : DataW.TrodAll enc Try.prog W 0 (fun _ => true) true Try.f14.params.toList args.toList ds p := hA0
  rw [Try.params14] at hA hval
  obtain ⟨v0, vs0, d0, ds0, p0, q0, hargs, rfl, rfl, h0, r0⟩ := trodAll_cons hA
  obtain ⟨v1, vs1, d1, ds1, p1, q1, rfl, rfl, rfl, h1, r1⟩ := trodAll_cons r0
  obtain ⟨v2, vs2, d2, ds2, p2, q2, rfl, rfl, rfl, h2, r2⟩ := trodAll_cons r1
  obtain ⟨v3, vs3, d3, ds3, p3, q3, rfl, rfl, rfl, h3, r3⟩ := trodAll_cons r2
  obtain ⟨rfl, rfl, rfl⟩ := trodAll_nil r3
  obtain rfl : args = #[v0, v1, v2, v3] := by cases args; simp_all
  obtain ⟨rfl, rfl⟩ := trodVars_none hV
  have k0 := h0
  have lt0 : ∀ x ∈ p0, x.block < W.heap.size := by obtain ⟨m, hm⟩ := k0; exact DataW.trod_lt m _ _ _ hm
  obtain ⟨a0, rfl, hd0, hp0, w0⟩ := open_string Try.underlying9 (hval 0 9 v0 rfl rfl) h0
  have k1 := h1
  have lt1 : ∀ x ∈ p1, x.block < W.heap.size := by obtain ⟨m, hm⟩ := k1; exact DataW.trod_lt m _ _ _ hm
  obtain ⟨a1, rfl, hd1, hp1, w1⟩ := open_string Try.underlying9 (hval 1 9 v1 rfl rfl) h1
  have k2 := h2
  have lt2 : ∀ x ∈ p2, x.block < W.heap.size := by obtain ⟨m, hm⟩ := k2; exact DataW.trod_lt m _ _ _ hm
  obtain ⟨a2, rfl, hd2, hp2, w2⟩ := open_int Try.underlying3 (hval 2 3 v2 rfl rfl) h2
  have k3 := h3
  have lt3 : ∀ x ∈ p3, x.block < W.heap.size := by obtain ⟨m, hm⟩ := k3; exact DataW.trod_lt m _ _ _ hm
  obtain ⟨a3, rfl, hd3, hp3, w3⟩ := open_int Try.underlying3 (hval 3 3 v3 rfl rfl) h3
  clear hA0 hval0
  refine (walk a0 a1 a2 a3 W w0 w1 w2 w3).mono fun e W' ⟨he, bel⟩ => ?_
  subst he
  exact ⟨_, rfl, _, _, _, [], _, [], hW', trodAll_mk1 (shut_bool Try.underlying4 _), (trodAll_cons_mk (Below.trod laidOut (by kernel_rfl) (of_decide_eq_true (by kernel_rfl)) k0 bel lt0) (trodAll_cons_mk (Below.trod laidOut (by kernel_rfl) (of_decide_eq_true (by kernel_rfl)) k1 bel lt1) (trodAll_cons_mk (Below.trod laidOut (by kernel_rfl) (of_decide_eq_true (by kernel_rfl)) k2 bel lt2) (trodAll_cons_mk (Below.trod laidOut (by kernel_rfl) (of_decide_eq_true (by kernel_rfl)) k3 bel lt3) trodAll_mk0)))), rfl, bel.frame _, fun h => by cases h⟩

theorem over : Rows.tallyOnRow.holds Try.pinned (OpenSpec.ofChange Rows.tallyOnSpec) :=
  OpenClaim.holds_of_wide 14 Try.f14 rfl rfl rfl rfl rfl rfl rfl ⟨rfl, rfl, rfl, rfl, rfl⟩ rfl rfl rfl rfl rfl (by kernel_rfl) Try.func14 (by kernel_rfl)
    (of_decide_eq_true (by kernel_rfl)) (by unfold Func.isWrapper; first | (rw [if_pos (by decide +kernel)]; kernel_rfl) | (rw [if_neg (by decide +kernel)]; exact ⟨rfl, rfl⟩))
    (fun os started H enc _ => lifted os started H enc)

theorem proved : Rows.TallyOnSaid := over
end Go.Proofs.Ytdknaahkjhplgaa.tallyOn
