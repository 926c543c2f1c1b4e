/- Any stretches, put together: the package and the reference answer the same. Conditions: none beyond the form's own. -/
import Derived.Test.YtepmkpjpdidfkaaRows
import Derived.Test.YtepmkpjpdidfkaaArgs
import Derived.Test.YtepmkpjpdidfkaaSpanJ
import Derived.Test.YtepmkpjpdidfkaaSpanArgs
import Derived.Deep.RegionHeld3
namespace Go.Proofs.Ytepmkpjpdidfkaa.unionTells
open Go.Proofs.Ytepmkpjpdidfkaa
open Go.ChangeShapes Go.WideShapes Go.ChangeAt Go.RowKit Go.Deep
open Go.ChangeMaps (open_string shut_string)
set_option linter.unusedVariables false

theorem own : ownKnob Try.prog.godebug = none := by kernel_rfl
theorem laidOut : laidOutB Try.prog = true := by kernel_rfl
-- opt:4000000
open SpanM
attribute [local go_sem ↓] Go.wp_at_zero Go.wp_at_succ
theorem uniF_le (l : List Sp) : (uniF (sortS l)).length ≤ l.length := by
  have := uniF_len (sortS l) (sortS l).length
  rw [List.take_of_length_le (Nat.le_refl _), sortS_len] at this
  exact this
theorem spans_eq (v u : Value) (l k : List Sp) (w : World) (h : SpAt w v l) (g : SpAt w u k) (hl : l.length ≤ 1000) (hk : k.length ≤ 1000) (e : l = k) :
    Calls Try.prog 22 #[v, u] w fun e w' => e = .returned (.bool true) ∧ Below w.heap.size w w' :=
  (spans_any v u l k w h g hl hk).mono fun _ _ ⟨he, n, hw⟩ => ⟨by rw [he, e]; simp, by rw [hw]; exact bl_drewN (bl_refl w) n⟩
set_option maxRecDepth 100000 in
set_option maxHeartbeats 4000000 in
theorem walk (a0 : Value) (l0 : List SpanM.Sp) (w : World) (w0 : SpAt w a0 l0) (b0 : ∀ s ∈ l0, Wf s) :
    Calls Try.prog 5 #[a0] w fun e w' => e = .returned (.bool true) ∧ Below w.heap.size w w' := by
  obtain ⟨aA, cA, rfl⟩ := spat_len w0
  by_cases hs : l0.length ≤ 40
  · have W0 := hide w0
    have hul := uniF_le l0
    clear w0
    go_enter Try.func5, Try.ntmps5
    go_wp2_with fail
    refine (union_any _ l0 _ W0.out (by omega)).mono ?_
    rintro e w2 ⟨v1, rfl, hb2, ho2⟩
    have H1 := hide (own_spat ho2)
    have W2 := hide (spat_below W0.out hb2)
    clear ho2
    go_wp2_with fail
    refine (runion_any _ l0 _ W2.out (by omega)).mono ?_
    rintro e w3 ⟨v2, rfl, hb3, ho3⟩
    have H2 := hide (own_spat ho3)
    have H1' := hide (spat_below H1.out hb3)
    clear ho3
    go_wp2_with fail
    refine (spans_eq v1 v2 _ _ _ H1'.out H2.out (by omega) (by omega) rfl).mono ?_
    rintro e w4 ⟨rfl, hb4⟩
    go_wp2_with fail
    refine (awake5_any _).mono ?_
    rintro e w5 ⟨rfl, hb5⟩
    go_wp2
    go_ret
    exact ⟨rfl, bl_trans (bl_trans (bl_trans hb2 hb3) hb4) hb5⟩
  · go_enter Try.func5, Try.ntmps5
    go_wp2_with fail
    refine (awake5_any _).mono ?_
    rintro e w1 ⟨rfl, hb1⟩
    go_wp2
    go_ret
    exact ⟨rfl, hb1⟩

set_option maxRecDepth 100000 in
theorem lifted (os : Os) (started : os.Started) (H : Type) (enc : TypeId × Value → H) :
    ReturnsInHanded {} Try.checked os 5 .any (Rows.unionTellsSpec.pre6 enc Try.prog Try.f5 Rows.unionTellsRow.domain false) (Rows.unionTellsSpec.post enc Try.prog Try.f5 false true false false) := by
  refine returnsInHanded_of_change (C := Try.checked) own started (by kernel_rfl) Try.func5
    (ChangeSpec.witness6 (enc := enc) (C := Try.checked) false ⟨#[], #[.slice none 0 0], []⟩ 8 (by kernel_rfl) (by kernel_rfl) (by kernel_rfl) (by kernel_rfl)) ?_
  intro W base args ds gs before hval0 hW hcnd _
  have hval : ∀ (j : Nat) t v, Try.f5.params[j]? = some t → args[j]? = some v → Value.okWide Try.prog W .any base t v := hval0
  have hW' := hW
  obtain ⟨p, q, hA0, hV, rfl, hfz, hnd⟩ := hW
  have hA : DataW.TrodAll enc Try.prog W 0 (fun _ => true) true Try.f5.params.toList args.toList ds p := hA0
  rw [Try.params5] at hA hval
  obtain ⟨v0, vs0, d0, ds0, p0, q0, hargs, rfl, rfl, h0, r0⟩ := trodAll_cons hA
  obtain ⟨rfl, rfl, rfl⟩ := trodAll_nil r0
  obtain rfl : args = #[v0] := by cases args; simp_all
  obtain ⟨rfl, rfl⟩ := trodVars_none hV
  have k0 := h0
  have lt0 : ∀ x ∈ p0, x.block < W.heap.size := by obtain ⟨m, hm⟩ := k0; exact DataW.trod_lt m _ _ _ hm
  obtain ⟨l0, w0, b0⟩ := open_spans (hval 0 29 v0 rfl rfl) h0
  clear hA0 hval0
  refine (walk v0 l0 W w0 b0).mono fun e W' ⟨he, bel⟩ => ?_
  subst he
  exact ⟨_, rfl, _, _, _, [], _, [], hW', trodAll_mk1 (shut_bool Try.underlying4 _), (trodAll_cons_mk (Below.trod laidOut (by kernel_rfl) (of_decide_eq_true (by kernel_rfl)) k0 bel lt0) trodAll_mk0), rfl, bel.frame _, fun h => by cases h⟩

theorem over : Rows.unionTellsRow.holds Try.pinned (OpenSpec.ofChange Rows.unionTellsSpec) :=
  OpenClaim.holds_of_wide 5 Try.f5 rfl rfl rfl rfl rfl rfl rfl ⟨rfl, rfl, rfl, rfl, rfl⟩ rfl rfl rfl rfl rfl (by kernel_rfl) Try.func5 (by kernel_rfl)
    (of_decide_eq_true (by kernel_rfl)) (by unfold Func.isWrapper; first | (rw [if_pos (by decide +kernel)]; kernel_rfl) | (rw [if_neg (by decide +kernel)]; exact ⟨rfl, rfl⟩))
    (fun os started H enc _ => lifted os started H enc)

theorem proved : Rows.UnionTellsSaid := over
end Go.Proofs.Ytepmkpjpdidfkaa.unionTells
