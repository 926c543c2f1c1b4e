/- Any text is adapted as the reference tells; the unit is what INDENT is first. Conditions: none beyond the form's own. -/
import Derived.Test.YtdlagabepilcfaaRows
import Derived.Test.YtdlagabepilcfaaArgs
import Derived.Test.YtdlagabepilcfaaPairB
import Derived.Test.YtdlagabepilcfaaPairArgs
import Derived.Test.YtdlagabepilcfaaAdapt
namespace Go.Proofs.Ytdlagabepilcfaa.leadTells
open Go.Proofs.Ytdlagabepilcfaa
open Go.ChangeShapes Go.WideShapes Go.ChangeAt Go.RowKit Go.Deep
open Go.ChangeMaps (open_string shut_string)
set_option linter.unusedVariables false

theorem own : ownKnob Try.prog.godebug = none := by kernel_rfl
theorem laidOut : laidOutB Try.prog = true := by kernel_rfl
-- opt:8000000
open SetM
attribute [local go_sem ↓] Go.wp_at_zero Go.wp_at_succ
theorem adapte_any (s L U R : ByteArray) (w : World) (hs : s.size ≤ 1000000) (hL : L.size ≤ 100) (hU : U.size ≤ 100) (hR : ⟨(adL L.data.toList (unL U.data.toList) s.data.toList false).toArray⟩ = R) :
    Calls Try.prog 11 #[.string s, .string L, .string U] w fun e w' => e = .returned (.string R) ∧ Below w.heap.size w w' := by
  rw [← hR]; exact adapt_any s L U w hs hL hU
set_option maxRecDepth 100000 in
set_option maxHeartbeats 8000000 in
theorem walk (a0 : ByteArray) (a1 : ByteArray) (a2 : ByteArray) (a3 : Value) (l3 : List SetM.Rw) (w : World) (w0 : a0.size ≤ maxLen) (w1 : a1.size ≤ maxLen) (w2 : a2.size ≤ maxLen) (w3 : RwAt w a3 l3) (b3 : ∀ s ∈ l3, WfR s) :
    Calls Try.prog 3 #[.string a0, .string a1, .string a2, a3] w fun e w' => e = .returned (.bool true) ∧ Below w.heap.size w w' := by
  have HB := hide b3
  obtain ⟨aA, cA, rfl⟩ := rwat_len w3
  have W0 := hide w3
  clear w3 b3
  by_cases h1 : a0.size ≤ 100
  · by_cases h2 : a1.size ≤ 30
    · by_cases h3 : a2.size ≤ 30
      · go_enter Try.func3, Try.ntmps3
        go_wp2_with fail
        refine (env_any _ l3 8 100 _ W0.out (by omega) (by omega) (fun s hs => HB.out s hs)).mono ?_
        rintro e w1 ⟨r, rfl, hb1, HM⟩
        have W1 := hide (rwat_below W0.out hb1)
        cases r
        · obtain ⟨hm1, hm2⟩ := HM.out rfl
          obtain ⟨X, hX⟩ : ∃ X, getV ⟨#[73, 78, 68, 69, 78, 84]⟩ l3 = X := ⟨_, rfl⟩
          obtain ⟨b, hb⟩ : ∃ b, getB ⟨#[73, 78, 68, 69, 78, 84]⟩ l3 = b := ⟨_, rfl⟩
          obtain ⟨R, hR⟩ : ∃ R : ByteArray, ⟨(adL a1.data.toList (unL a2.data.toList) a0.data.toList false).toArray⟩ = R := ⟨_, rfl⟩
          have HX := hide hX
          have HBB := hide hb
          have HR := hide hR
          clear hX hb hR hm2 HM HB W0
          go_wp2_with fail
          refine (rget_any _ l3 _ X b _ W1.out (by omega) HX.out HBB.out).mono ?_
          rintro e w2 ⟨rfl, rfl⟩
          go_wp2_with fail
          refine (adapte_any a0 a1 a2 R _ (by omega) (by omega) (by omega) HR.out).mono ?_
          rintro e w3 ⟨rfl, hb3⟩
          have W3 := hide (rwat_below W1.out hb3)
          go_wp2_with fail
          refine (radapt_any a0 a1 a2 R _ (by omega) (by omega) (by omega) HR.out).mono ?_
          rintro e w4 ⟨rfl, hb4⟩
          have W4 := hide (rwat_below W3.out hb4)
          go_wp2_with fail
          refine (unit_any _ l3 X _ W4.out (by omega) HX.out).mono ?_
          rintro e w5 ⟨rfl, hb5⟩
          go_wp2_with fail
          refine (awake24_any _).mono ?_
          rintro e wz ⟨rfl, hbz⟩
          go_wp2
          go_ret
          exact ⟨rfl, bl_trans (bl_trans (bl_trans (bl_trans hb1 hb3) hb4) hb5) hbz⟩
        · go_wp2_with fail
          refine (awake24_any _).mono ?_
          rintro e wz ⟨rfl, hbz⟩
          go_wp2
          go_ret
          exact ⟨rfl, bl_trans hb1 hbz⟩
      · go_enter Try.func3, Try.ntmps3
        go_wp2_with fail
        refine (awake24_any _).mono ?_
        rintro e wz ⟨rfl, hbz⟩
        go_wp2
        go_ret
        exact ⟨rfl, hbz⟩
    · go_enter Try.func3, Try.ntmps3
      go_wp2_with fail
      refine (awake24_any _).mono ?_
      rintro e wz ⟨rfl, hbz⟩
      go_wp2
      go_ret
      exact ⟨rfl, hbz⟩
  · go_enter Try.func3, Try.ntmps3
    go_wp2_with fail
    refine (awake24_any _).mono ?_
    rintro e wz ⟨rfl, hbz⟩
    go_wp2
    go_ret
    exact ⟨rfl, hbz⟩

set_option maxRecDepth 100000 in
theorem lifted (os : Os) (started : os.Started) (H : Type) (enc : TypeId × Value → H) :
    ReturnsInHanded {} Try.checked os 3 .any (Rows.leadTellsSpec.pre6 enc Try.prog Try.f3 Rows.leadTellsRow.domain false) (Rows.leadTellsSpec.post enc Try.prog Try.f3 false true false false) := by
  refine returnsInHanded_of_change (C := Try.checked) own started (by kernel_rfl) Try.func3
    (ChangeSpec.witness6 (enc := enc) (C := Try.checked) false ⟨#[], #[.string ByteArray.empty, .string ByteArray.empty, .string ByteArray.empty, .slice none 0 0], []⟩ 8 (by kernel_rfl) (by kernel_rfl) (by kernel_rfl) (by kernel_rfl)) ?_
  intro W base args ds gs before hval0 hW hcnd _
  have hval : ∀ (j : Nat) t v, Try.f3.params[j]? = some t → args[j]? = some v → Value.okWide Try.prog W .any base t v := hval0
  have hW' := hW
  obtain ⟨p, q, hA0, hV, rfl, hfz, hnd⟩ := hW
  have hA : DataW.TrodAll enc Try.prog W 0 (fun _ => true) true Try.f3.params.toList args.toList ds p := hA0
  rw [Try.params3] at hA hval
  obtain ⟨v0, vs0, d0, ds0, p0, q0, hargs, rfl, rfl, h0, r0⟩ := trodAll_cons hA
  obtain ⟨v1, vs1, d1, ds1, p1, q1, rfl, rfl, rfl, h1, r1⟩ := trodAll_cons r0
  obtain ⟨v2, vs2, d2, ds2, p2, q2, rfl, rfl, rfl, h2, r2⟩ := trodAll_cons r1
  obtain ⟨v3, vs3, d3, ds3, p3, q3, rfl, rfl, rfl, h3, r3⟩ := trodAll_cons r2
  obtain ⟨rfl, rfl, rfl⟩ := trodAll_nil r3
  obtain rfl : args = #[v0, v1, v2, v3] := by cases args; simp_all
  obtain ⟨rfl, rfl⟩ := trodVars_none hV
  have k0 := h0
  have lt0 : ∀ x ∈ p0, x.block < W.heap.size := by obtain ⟨m, hm⟩ := k0; exact DataW.trod_lt m _ _ _ hm
  obtain ⟨a0, rfl, hd0, hp0, w0⟩ := open_string Try.underlying9 (hval 0 9 v0 rfl rfl) h0
  have k1 := h1
  have lt1 : ∀ x ∈ p1, x.block < W.heap.size := by obtain ⟨m, hm⟩ := k1; exact DataW.trod_lt m _ _ _ hm
  obtain ⟨a1, rfl, hd1, hp1, w1⟩ := open_string Try.underlying9 (hval 1 9 v1 rfl rfl) h1
  have k2 := h2
  have lt2 : ∀ x ∈ p2, x.block < W.heap.size := by obtain ⟨m, hm⟩ := k2; exact DataW.trod_lt m _ _ _ hm
  obtain ⟨a2, rfl, hd2, hp2, w2⟩ := open_string Try.underlying9 (hval 2 9 v2 rfl rfl) h2
  have k3 := h3
  have lt3 : ∀ x ∈ p3, x.block < W.heap.size := by obtain ⟨m, hm⟩ := k3; exact DataW.trod_lt m _ _ _ hm
  obtain ⟨l3, w3, b3⟩ := open_rows (hval 3 22 v3 rfl rfl) h3
  clear hA0 hval0
  refine (walk a0 a1 a2 v3 l3 W w0 w1 w2 w3 b3).mono fun e W' ⟨he, bel⟩ => ?_
  subst he
  exact ⟨_, rfl, _, _, _, [], _, [], hW', trodAll_mk1 (shut_bool Try.underlying4 _), (trodAll_cons_mk (Below.trod laidOut (by kernel_rfl) (of_decide_eq_true (by kernel_rfl)) k0 bel lt0) (trodAll_cons_mk (Below.trod laidOut (by kernel_rfl) (of_decide_eq_true (by kernel_rfl)) k1 bel lt1) (trodAll_cons_mk (Below.trod laidOut (by kernel_rfl) (of_decide_eq_true (by kernel_rfl)) k2 bel lt2) (trodAll_cons_mk (Below.trod laidOut (by kernel_rfl) (of_decide_eq_true (by kernel_rfl)) k3 bel lt3) trodAll_mk0)))), rfl, bel.frame _, fun h => by cases h⟩

theorem over : Rows.leadTellsRow.holds Try.pinned (OpenSpec.ofChange Rows.leadTellsSpec) :=
  OpenClaim.holds_of_wide 3 Try.f3 rfl rfl rfl rfl rfl rfl rfl ⟨rfl, rfl, rfl, rfl, rfl⟩ rfl rfl rfl rfl rfl (by kernel_rfl) Try.func3 (by kernel_rfl)
    (of_decide_eq_true (by kernel_rfl)) (by unfold Func.isWrapper; first | (rw [if_pos (by decide +kernel)]; kernel_rfl) | (rw [if_neg (by decide +kernel)]; exact ⟨rfl, rfl⟩))
    (fun os started H enc _ => lifted os started H enc)

theorem proved : Rows.LeadTellsSaid := over
end Go.Proofs.Ytdlagabepilcfaa.leadTells
