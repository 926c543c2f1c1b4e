/- A nil table answers ErrNil, and zero values. Conditions: none beyond the form's own. -/
import Derived.Test.YtjmoeahlbgdkbaaRows
import Derived.Test.YtjmoeahlbgdkbaaArgs
import Derived.Test.YtjmoeahlbgdkbaaTabArgs
import Derived.Test.YtjmoeahlbgdkbaaTabW
namespace Go.Proofs.Ytjmoeahlbgdkbaa.marksNil
open Go.Proofs.Ytjmoeahlbgdkbaa
open Go.ChangeShapes Go.WideShapes Go.ChangeAt Go.RowKit Go.Deep
open Go.ChangeMaps (open_string shut_string)
set_option linter.unusedVariables false

theorem own : ownKnob Try.prog.godebug = none := by kernel_rfl
theorem laidOut : laidOutB Try.prog = true := by kernel_rfl
set_option maxRecDepth 100000
set_option maxRecDepth 100000 in
set_option maxHeartbeats 1000000 in
theorem walk (a0 : Int) (a1 : Int) (g2 : Rg) (w : World) (w0 : (Lit.int .i64 a0).wf = true) (w1 : (Lit.int .i64 a1).wf = true) (w2 : WfG g2) :
    Calls Try.prog 10 #[.int .i64 a0, .int .i64 a1, .agg #[.int .i64 g2.f, .int .i64 g2.t, .bool g2.b, .bool g2.c, .int .i64 g2.p]] w fun e w' => e = .returned (.bool true) ∧ Below w.heap.size w w' := by
  obtain ⟨f, t, b, c, p⟩ := g2
  go_enter Try.func10, Try.ntmps10
  go_wp2_with fail
  refine (add_nil _ _ _ _ _ _).mono ?_
  rintro e w1 ⟨rfl, hb1⟩
  have hc := bl_trans (bl_alloc (bl_refl w) (.cells #[.int .i64 f, .int .i64 t, .bool b, .bool c, .int .i64 p] 43)) hb1
  go_wp2_with fail
  refine (get_nil _ _).mono ?_
  rintro e w2 ⟨rfl, hb2⟩
  have hc2 := bl_trans hc hb2
  unfold zeroR
  have hc3 := bl_alloc hc2 (.cells #[.int .i64 0, .int .i64 0, .bool false, .bool false, .int .i64 0] 43)
  go_wp2_with fail
  refine (pose_nil _ _ _ _).mono ?_
  rintro e w13 ⟨rfl, hb13⟩
  have hc4 := bl_trans hc3 hb13
  go_wp2_with fail
  refine (drop_nil _ _).mono ?_
  rintro e w14 ⟨rfl, hb14⟩
  have hc5 := bl_trans hc4 hb14
  go_wp2_with fail
  refine (ids_nil _).mono ?_
  rintro e w15 ⟨rfl, hb15⟩
  have hc6 := bl_trans hc5 hb15
  go_wp2_with fail
  refine (kids_nil _ _).mono ?_
  rintro e w16 ⟨rfl, hb16⟩
  have hc7 := bl_trans hc6 hb16
  go_wp2_with fail
  refine (mat_nil _ _).mono ?_
  rintro e w17 ⟨rfl, hb17⟩
  have hc8 := bl_trans hc7 hb17
  go_wp2_with fail
  refine (move_nil _ _).mono ?_
  rintro e w18 ⟨rfl, hb18⟩
  have hc9 := bl_trans hc8 hb18
  go_wp2_with fail
  refine (twin_nil _).mono ?_
  rintro e w19 ⟨rfl, hb19⟩
  have hc10 := bl_trans hc9 hb19
  go_wp2_with fail
  refine (awake7_any _).mono ?_
  rintro e w20 ⟨rfl, hb20⟩
  have hc11 := bl_trans hc10 hb20
  go_wp2
  go_ret
  exact ⟨rfl, hc11⟩

set_option maxRecDepth 100000 in
theorem lifted (os : Os) (started : os.Started) (H : Type) (enc : TypeId × Value → H) :
    ReturnsInHanded {} Try.checked os 10 .any (Rows.marksNilSpec.pre6 enc Try.prog Try.f10 Rows.marksNilRow.domain false) (Rows.marksNilSpec.post enc Try.prog Try.f10 false true false false) := by
  refine returnsInHanded_of_change (C := Try.checked) own started (by kernel_rfl) Try.func10
    (ChangeSpec.witness6 (enc := enc) (C := Try.checked) false ⟨#[], #[.int .i64 0, .int .i64 0, .agg #[.int .i64 0, .int .i64 0, .bool false, .bool false, .int .i64 0]], []⟩ 8 (by kernel_rfl) (by kernel_rfl) (by kernel_rfl) (by kernel_rfl)) ?_
  intro W base args ds gs before hval0 hW hcnd _
  have hval : ∀ (j : Nat) t v, Try.f10.params[j]? = some t → args[j]? = some v → Value.okWide Try.prog W .any base t v := hval0
  have hW' := hW
  obtain ⟨p, q, hA0, hV, rfl, hfz, hnd⟩ := hW
  have hA : DataW.TrodAll enc Try.prog W 0 (fun _ => true) true Try.f10.params.toList args.toList ds p := hA0
  rw [Try.params10] at hA hval
  obtain ⟨v0, vs0, d0, ds0, p0, q0, hargs, rfl, rfl, h0, r0⟩ := trodAll_cons hA
  obtain ⟨v1, vs1, d1, ds1, p1, q1, rfl, rfl, rfl, h1, r1⟩ := trodAll_cons r0
  obtain ⟨v2, vs2, d2, ds2, p2, q2, rfl, rfl, rfl, h2, r2⟩ := trodAll_cons r1
  obtain ⟨rfl, rfl, rfl⟩ := trodAll_nil r2
  obtain rfl : args = #[v0, v1, v2] := by cases args; simp_all
  obtain ⟨rfl, rfl⟩ := trodVars_none hV
  have k0 := h0
  have lt0 : ∀ x ∈ p0, x.block < W.heap.size := by obtain ⟨m, hm⟩ := k0; exact DataW.trod_lt m _ _ _ hm
  obtain ⟨a0, rfl, hd0, hp0, w0⟩ := open_int Try.underlying3 (hval 0 3 v0 rfl rfl) h0
  have k1 := h1
  have lt1 : ∀ x ∈ p1, x.block < W.heap.size := by obtain ⟨m, hm⟩ := k1; exact DataW.trod_lt m _ _ _ hm
  obtain ⟨a1, rfl, hd1, hp1, w1⟩ := open_int Try.underlying3 (hval 1 3 v1 rfl rfl) h1
  have k2 := h2
  have lt2 : ∀ x ∈ p2, x.block < W.heap.size := by obtain ⟨m, hm⟩ := k2; exact DataW.trod_lt m _ _ _ hm
  obtain ⟨g2, rfl, w2⟩ := open_range (hval 2 43 v2 rfl rfl) h2
  clear hA0 hval0
  refine (walk a0 a1 g2 W w0 w1 w2).mono fun e W' ⟨he, bel⟩ => ?_
  subst he
  exact ⟨_, rfl, _, _, _, [], _, [], hW', trodAll_mk1 (shut_bool Try.underlying4 _), (trodAll_cons_mk (Below.trod laidOut (by kernel_rfl) (of_decide_eq_true (by kernel_rfl)) k0 bel lt0) (trodAll_cons_mk (Below.trod laidOut (by kernel_rfl) (of_decide_eq_true (by kernel_rfl)) k1 bel lt1) (trodAll_cons_mk (Below.trod laidOut (by kernel_rfl) (of_decide_eq_true (by kernel_rfl)) k2 bel lt2) trodAll_mk0))), rfl, bel.frame _, fun h => by cases h⟩

theorem over : Rows.marksNilRow.holds Try.pinned (OpenSpec.ofChange Rows.marksNilSpec) :=
  OpenClaim.holds_of_wide 10 Try.f10 rfl rfl rfl rfl rfl rfl rfl ⟨rfl, rfl, rfl, rfl, rfl⟩ rfl rfl rfl rfl rfl (by kernel_rfl) Try.func10 (by kernel_rfl)
    (of_decide_eq_true (by kernel_rfl)) (by unfold Func.isWrapper; first | (rw [if_pos (by decide +kernel)]; kernel_rfl) | (rw [if_neg (by decide +kernel)]; exact ⟨rfl, rfl⟩))
    (fun os started H enc _ => lifted os started H enc)

theorem proved : Rows.MarksNilSaid := over
end Go.Proofs.Ytjmoeahlbgdkbaa.marksNil
