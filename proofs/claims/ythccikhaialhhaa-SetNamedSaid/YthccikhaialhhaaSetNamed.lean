/- The named classes are the reference's, of each byte. Conditions: none beyond the form's own. -/
import Derived.Test.YthccikhaialhhaaRows
import Derived.Test.YthccikhaialhhaaArgs
import Derived.Test.YthccikhaialhhaaRowK
import Derived.Test.YthccikhaialhhaaRowArgs
namespace Go.Proofs.Ythccikhaialhhaa.setNamed
open Go.Proofs.Ythccikhaialhhaa
open Go.ChangeShapes Go.WideShapes Go.ChangeAt Go.RowKit Go.Deep
open Go.ChangeMaps (open_string shut_string)
set_option linter.unusedVariables false

theorem own : ownKnob Try.prog.godebug = none := by kernel_rfl
theorem laidOut : laidOutB Try.prog = true := by kernel_rfl
-- opt:8000000
open SetM
attribute [local go_sem ↓] Go.wp_at_zero Go.wp_at_succ
attribute [local go_sem] lt_bl le_bl
theorem nam_len (c : Int) : (namR c).length ≤ 1000 := by
  unfold namR; split
  · decide
  · split
    · decide
    · split <;> decide
theorem nam_short (c : Int) : ∀ s ∈ namR c, Short s := by
  intro s hs
  unfold namR at hs
  split at hs
  · simp only [rD, List.mem_cons, List.not_mem_nil, or_false] at hs
    rcases hs with rfl; exact ⟨by decide, by decide⟩
  · split at hs
    · exact short_rW s hs
    · split at hs
      · simp only [rS, List.mem_cons, List.not_mem_nil, or_false] at hs
        rcases hs with rfl | rfl <;> exact ⟨by decide, by decide⟩
      · cases hs
set_option maxRecDepth 100000 in
set_option maxHeartbeats 8000000 in
theorem walk (a0 : Int) (w : World) (w0 : (Lit.int .u8 a0).wf = true) :
    Calls Try.prog 4 #[.int .u8 a0] w fun e w' => e = .returned (.bool true) ∧ Below w.heap.size w w' := by
  have hl := nam_len a0
  have HSH := hide (nam_short a0)
  have HMAY := hide (nam_may a0)
  have HN1 := hide (fun W => named_any a0 W)
  have HN2 := hide (fun W => rnamed_any a0 W)
  clear w0
  generalize namR a0 = L at *
  generalize namB a0 = b at *
  go_enter Try.func4, Try.ntmps4
  go_wp2_with fail
  refine (HN1.out _).mono ?_
  rintro e w1 ⟨v1, rfl, hb1, hw1⟩
  have H1 := hide hw1
  clear hw1
  go_wp2_with fail
  refine (HN2.out _).mono ?_
  rintro e w2 ⟨v2, rfl, hb2, hw2⟩
  have H2 := hide hw2
  have H12 := hide (rwat_below H1.out hb2)
  clear hw2 HN1 HN2
  go_wp2_with fail
  refine (rowsb_any v1 v2 L L true _ H12.out H2.out hl hl (by simp)).mono ?_
  rintro e w3 ⟨rfl, hb3⟩
  have H13 := hide (rwat_below H12.out hb3)
  cases b
  all_goals
    go_wp2_with fail
    refine (mays_any v1 L true _ H13.out hl HSH.out HMAY.out).mono ?_
    rintro e w4 ⟨rfl, hb4⟩
    go_wp2_with fail
    refine (awake12_any _).mono ?_
    rintro e wz ⟨rfl, hbz⟩
    go_wp2
    go_ret
    exact ⟨rfl, bl_trans (bl_trans (bl_trans (bl_trans hb1 hb2) hb3) hb4) hbz⟩

set_option maxRecDepth 100000 in
theorem lifted (os : Os) (started : os.Started) (H : Type) (enc : TypeId × Value → H) :
    ReturnsInHanded {} Try.checked os 4 .any (Rows.setNamedSpec.pre6 enc Try.prog Try.f4 Rows.setNamedRow.domain false) (Rows.setNamedSpec.post enc Try.prog Try.f4 false true false false) := by
  refine returnsInHanded_of_change (C := Try.checked) own started (by kernel_rfl) Try.func4
    (ChangeSpec.witness6 (enc := enc) (C := Try.checked) false ⟨#[], #[.int .u8 0], []⟩ 8 (by kernel_rfl) (by kernel_rfl) (by kernel_rfl) (by kernel_rfl)) ?_
  intro W base args ds gs before hval0 hW hcnd _
  have hval : ∀ (j : Nat) t v, Try.f4.params[j]? = some t → args[j]? = some v → Value.okWide Try.prog W .any base t v := hval0
  have hW' := hW
  obtain ⟨p, q, hA0, hV, rfl, hfz, hnd⟩ := hW
  have hA : DataW.TrodAll enc Try.prog W 0 (fun _ => true) true Try.f4.params.toList args.toList ds p := hA0
  rw [Try.params4] at hA hval
  obtain ⟨v0, vs0, d0, ds0, p0, q0, hargs, rfl, rfl, h0, r0⟩ := trodAll_cons hA
  obtain ⟨rfl, rfl, rfl⟩ := trodAll_nil r0
  obtain rfl : args = #[v0] := by cases args; simp_all
  obtain ⟨rfl, rfl⟩ := trodVars_none hV
  have k0 := h0
  have lt0 : ∀ x ∈ p0, x.block < W.heap.size := by obtain ⟨m, hm⟩ := k0; exact DataW.trod_lt m _ _ _ hm
  obtain ⟨a0, rfl, hd0, hp0, w0⟩ := open_int Try.underlying5 (hval 0 5 v0 rfl rfl) h0
  clear hA0 hval0
  refine (walk a0 W w0).mono fun e W' ⟨he, bel⟩ => ?_
  subst he
  exact ⟨_, rfl, _, _, _, [], _, [], hW', trodAll_mk1 (shut_bool Try.underlying4 _), (trodAll_cons_mk (Below.trod laidOut (by kernel_rfl) (of_decide_eq_true (by kernel_rfl)) k0 bel lt0) trodAll_mk0), rfl, bel.frame _, fun h => by cases h⟩

theorem over : Rows.setNamedRow.holds Try.pinned (OpenSpec.ofChange Rows.setNamedSpec) :=
  OpenClaim.holds_of_wide 4 Try.f4 rfl rfl rfl rfl rfl rfl rfl ⟨rfl, rfl, rfl, rfl, rfl⟩ rfl rfl rfl rfl rfl (by kernel_rfl) Try.func4 (by kernel_rfl)
    (of_decide_eq_true (by kernel_rfl)) (by unfold Func.isWrapper; first | (rw [if_pos (by decide +kernel)]; kernel_rfl) | (rw [if_neg (by decide +kernel)]; exact ⟨rfl, rfl⟩))
    (fun os started H enc _ => lifted os started H enc)

theorem proved : Rows.SetNamedSaid := over
end Go.Proofs.Ythccikhaialhhaa.setNamed
