/- Any rows: may they be, what are they put together, is a character in them: the package and the reference answer the same. Conditions: none beyond the form's own. -/
import Derived.Test.YthccikhaialhhaaRows
import Derived.Test.YthccikhaialhhaaArgs
import Derived.Test.YthccikhaialhhaaRowK
import Derived.Test.YthccikhaialhhaaRowArgs
namespace Go.Proofs.Ythccikhaialhhaa.setTells
open Go.Proofs.Ythccikhaialhhaa
open Go.ChangeShapes Go.WideShapes Go.ChangeAt Go.RowKit Go.Deep
open Go.ChangeMaps (open_string shut_string)
set_option linter.unusedVariables false

theorem own : ownKnob Try.prog.godebug = none := by kernel_rfl
theorem laidOut : laidOutB Try.prog = true := by kernel_rfl
-- opt:8000000
open SetM
attribute [local go_sem ↓] Go.wp_at_zero Go.wp_at_succ
attribute [local go_sem] lt_bl le_bl
set_option maxRecDepth 100000 in
set_option maxHeartbeats 8000000 in
theorem walk (a0 : Value) (l0 : List SetM.Rw) (a1 : Bool) (a2 : Bool) (a3 : ByteArray) (w : World) (w0 : RwAt w a0 l0) (b0 : ∀ s ∈ l0, WfR s) (w3 : a3.size ≤ maxLen) :
    Calls Try.prog 3 #[a0, .bool a1, .bool a2, .string a3] w fun e w' => e = .returned (.bool true) ∧ Below w.heap.size w w' := by
  have HB := hide b0
  obtain ⟨aA, cA, rfl⟩ := rwat_len w0
  have W0 := hide w0
  clear w0 b0
  go_enter Try.func3, Try.ntmps3
  go_wp2_with fail
  refine (much_any _ l0 30 200 _ W0.out (by omega) (by omega) (fun s hs => HB.out s hs)).mono ?_
  rintro e w1 ⟨r, rfl, hb1, HM⟩
  have W1 := hide (rwat_below W0.out hb1)
  cases r
  · obtain ⟨hm1, hm2⟩ := HM.out rfl
    have HSH := hide (show ∀ s ∈ l0, Short s from fun s hs => ⟨by have := (hm2 s hs).1; omega, by have := (hm2 s hs).2; omega⟩)
    have HS2 := hide hm2
    clear hm2 HM W0 HB
    by_cases hc : a3.size ≤ 20
    · obtain ⟨p, hp⟩ : ∃ p, mayF l0 = p := ⟨_, rfl⟩
      obtain ⟨U, hU⟩ : ∃ U, uniF (sortS (okL l0)) = U := ⟨_, rfl⟩
      obtain ⟨q, hq⟩ : ∃ q, hasF l0 a1 a2 a3 = q := ⟨_, rfl⟩
      have hUl := union_len l0
      rw [hU] at hUl
      have HP := hide hp
      have HU := hide hU
      have HQ := hide hq
      clear hp hU hq
      go_wp2_with fail
      refine (mays_any _ l0 p _ W1.out (by omega) HSH.out HP.out).mono ?_
      rintro e w2 ⟨rfl, hb2⟩
      have W2 := hide (rwat_below W1.out hb2)
      go_wp2_with fail
      refine (rmays_any _ l0 p _ W2.out (by omega) HSH.out HP.out).mono ?_
      rintro e w3 ⟨rfl, hb3⟩
      have W3 := hide (rwat_below W2.out hb3)
      go_wp2_with fail
      refine (unione_any _ l0 U _ W3.out (by omega) HSH.out HU.out).mono ?_
      rintro e w4 ⟨v4, rfl, hb4, ho4⟩
      have W4 := hide (rwat_below W3.out hb4)
      have H4 := hide (own_rwat ho4)
      clear ho4
      go_wp2_with fail
      refine (runione_any _ l0 U _ W4.out (by omega) HSH.out HU.out).mono ?_
      rintro e w5 ⟨v5, rfl, hb5, ho5⟩
      have W5 := hide (rwat_below W4.out hb5)
      have H5 := hide (own_rwat ho5)
      have H45 := hide (rwat_below H4.out hb5)
      clear ho5
      go_wp2_with fail
      refine (rowsb_any v4 v5 U U true _ H45.out H5.out (by omega) (by omega) (by simp)).mono ?_
      rintro e w6 ⟨rfl, hb6⟩
      have W6 := hide (rwat_below W5.out hb6)
      go_wp2_with fail
      refine (hass_any _ l0 a1 a2 a3 q _ W6.out (by omega) (by omega) HQ.out).mono ?_
      rintro e w7 ⟨rfl, hb7⟩
      have W7 := hide (rwat_below W6.out hb7)
      go_wp2_with fail
      refine (rhass_any _ l0 a1 a2 a3 q _ W7.out (by omega) (by omega) HQ.out).mono ?_
      rintro e w8 ⟨rfl, hb8⟩
      go_wp2_with fail
      refine (awake12_any _).mono ?_
      rintro e wz ⟨rfl, hbz⟩
      go_wp2
      go_ret
      exact ⟨rfl, bl_trans (bl_trans (bl_trans (bl_trans (bl_trans (bl_trans (bl_trans (bl_trans hb1 hb2) hb3) hb4) hb5) hb6) hb7) hb8) hbz⟩
    · go_wp2_with fail
      refine (awake12_any _).mono ?_
      rintro e wz ⟨rfl, hbz⟩
      go_wp2
      go_ret
      exact ⟨rfl, bl_trans hb1 hbz⟩
  · go_wp2_with fail
    refine (awake12_any _).mono ?_
    rintro e wz ⟨rfl, hbz⟩
    go_wp2
    go_ret
    exact ⟨rfl, bl_trans hb1 hbz⟩

set_option maxRecDepth 100000 in
theorem lifted (os : Os) (started : os.Started) (H : Type) (enc : TypeId × Value → H) :
    ReturnsInHanded {} Try.checked os 3 .any (Rows.setTellsSpec.pre6 enc Try.prog Try.f3 Rows.setTellsRow.domain false) (Rows.setTellsSpec.post enc Try.prog Try.f3 false true false false) := by
  refine returnsInHanded_of_change (C := Try.checked) own started (by kernel_rfl) Try.func3
    (ChangeSpec.witness6 (enc := enc) (C := Try.checked) false ⟨#[], #[.slice none 0 0, .bool false, .bool false, .string ByteArray.empty], []⟩ 8 (by kernel_rfl) (by kernel_rfl) (by kernel_rfl) (by kernel_rfl)) ?_
  intro W base args ds gs before hval0 hW hcnd _
  have hval : ∀ (j : Nat) t v, Try.f3.params[j]? = some t → args[j]? = some v → Value.okWide Try.prog W .any base t v := hval0
  have hW' := hW
  obtain ⟨p, q, hA0, hV, rfl, hfz, hnd⟩ := hW
  have hA : DataW.TrodAll enc Try.prog W 0 (fun _ => true) true Try.f3.params.toList args.toList ds p := hA0
  rw [Try.params3] at hA hval
  obtain ⟨v0, vs0, d0, ds0, p0, q0, hargs, rfl, rfl, h0, r0⟩ := trodAll_cons hA
  obtain ⟨v1, vs1, d1, ds1, p1, q1, rfl, rfl, rfl, h1, r1⟩ := trodAll_cons r0
  obtain ⟨v2, vs2, d2, ds2, p2, q2, rfl, rfl, rfl, h2, r2⟩ := trodAll_cons r1
  obtain ⟨v3, vs3, d3, ds3, p3, q3, rfl, rfl, rfl, h3, r3⟩ := trodAll_cons r2
  obtain ⟨rfl, rfl, rfl⟩ := trodAll_nil r3
  obtain rfl : args = #[v0, v1, v2, v3] := by cases args; simp_all
  obtain ⟨rfl, rfl⟩ := trodVars_none hV
  have k0 := h0
  have lt0 : ∀ x ∈ p0, x.block < W.heap.size := by obtain ⟨m, hm⟩ := k0; exact DataW.trod_lt m _ _ _ hm
  obtain ⟨l0, w0, b0⟩ := open_rows (hval 0 22 v0 rfl rfl) h0
  have k1 := h1
  have lt1 : ∀ x ∈ p1, x.block < W.heap.size := by obtain ⟨m, hm⟩ := k1; exact DataW.trod_lt m _ _ _ hm
  obtain ⟨a1, rfl, hd1, hp1⟩ := open_bool Try.underlying4 (hval 1 4 v1 rfl rfl) h1
  have k2 := h2
  have lt2 : ∀ x ∈ p2, x.block < W.heap.size := by obtain ⟨m, hm⟩ := k2; exact DataW.trod_lt m _ _ _ hm
  obtain ⟨a2, rfl, hd2, hp2⟩ := open_bool Try.underlying4 (hval 2 4 v2 rfl rfl) h2
  have k3 := h3
  have lt3 : ∀ x ∈ p3, x.block < W.heap.size := by obtain ⟨m, hm⟩ := k3; exact DataW.trod_lt m _ _ _ hm
  obtain ⟨a3, rfl, hd3, hp3, w3⟩ := open_string Try.underlying9 (hval 3 9 v3 rfl rfl) h3
  clear hA0 hval0
  refine (walk v0 l0 a1 a2 a3 W w0 b0 w3).mono fun e W' ⟨he, bel⟩ => ?_
  subst he
  exact ⟨_, rfl, _, _, _, [], _, [], hW', trodAll_mk1 (shut_bool Try.underlying4 _), (trodAll_cons_mk (Below.trod laidOut (by kernel_rfl) (of_decide_eq_true (by kernel_rfl)) k0 bel lt0) (trodAll_cons_mk (Below.trod laidOut (by kernel_rfl) (of_decide_eq_true (by kernel_rfl)) k1 bel lt1) (trodAll_cons_mk (Below.trod laidOut (by kernel_rfl) (of_decide_eq_true (by kernel_rfl)) k2 bel lt2) (trodAll_cons_mk (Below.trod laidOut (by kernel_rfl) (of_decide_eq_true (by kernel_rfl)) k3 bel lt3) trodAll_mk0)))), rfl, bel.frame _, fun h => by cases h⟩

theorem over : Rows.setTellsRow.holds Try.pinned (OpenSpec.ofChange Rows.setTellsSpec) :=
  OpenClaim.holds_of_wide 3 Try.f3 rfl rfl rfl rfl rfl rfl rfl ⟨rfl, rfl, rfl, rfl, rfl⟩ rfl rfl rfl rfl rfl (by kernel_rfl) Try.func3 (by kernel_rfl)
    (of_decide_eq_true (by kernel_rfl)) (by unfold Func.isWrapper; first | (rw [if_pos (by decide +kernel)]; kernel_rfl) | (rw [if_neg (by decide +kernel)]; exact ⟨rfl, rfl⟩))
    (fun os started H enc _ => lifted os started H enc)

theorem proved : Rows.SetTellsSaid := over
end Go.Proofs.Ythccikhaialhhaa.setTells
