/- What is in rows that are some is in their Union, and nothing else; the Union may be, and is its own. Conditions: none beyond the form's own. -/
import Derived.Test.YthccikhaialhhaaRows
import Derived.Test.YthccikhaialhhaaArgs
import Derived.Test.YthccikhaialhhaaRowK
import Derived.Test.YthccikhaialhhaaRowArgs
namespace Go.Proofs.Ythccikhaialhhaa.setCovers
open Go.Proofs.Ythccikhaialhhaa
open Go.ChangeShapes Go.WideShapes Go.ChangeAt Go.RowKit Go.Deep
open Go.ChangeMaps (open_string shut_string)
set_option linter.unusedVariables false

theorem own : ownKnob Try.prog.godebug = none := by kernel_rfl
theorem laidOut : laidOutB Try.prog = true := by kernel_rfl
-- opt:8000000
open SetM
attribute [local go_sem ↓] Go.wp_at_zero Go.wp_at_succ
attribute [local go_sem] lt_bl le_bl
set_option maxRecDepth 100000 in
set_option maxHeartbeats 8000000 in
theorem walk (a0 : Value) (l0 : List SetM.Rw) (a1 : Bool) (a2 : ByteArray) (w : World) (w0 : RwAt w a0 l0) (b0 : ∀ s ∈ l0, WfR s) (w2 : a2.size ≤ maxLen) :
    Calls Try.prog 5 #[a0, .bool a1, .string a2] w fun e w' => e = .returned (.bool true) ∧ Below w.heap.size w w' := by
  have HB := hide b0
  obtain ⟨aA, cA, rfl⟩ := rwat_len w0
  have W0 := hide w0
  clear w0 b0
  go_enter Try.func5, Try.ntmps5
  go_wp2_with fail
  refine (much_any _ l0 20 200 _ W0.out (by omega) (by omega) (fun s hs => HB.out s hs)).mono ?_
  rintro e w1 ⟨r, rfl, hb1, HM⟩
  have W1 := hide (rwat_below W0.out hb1)
  cases r
  · obtain ⟨hm1, hm2⟩ := HM.out rfl
    have HSH := hide (show ∀ s ∈ l0, Short s from fun s hs => ⟨by have := (hm2 s hs).1; omega, by have := (hm2 s hs).2; omega⟩)
    have HS2 := hide hm2
    clear hm2 HM W0 HB
    by_cases hc : a2.size ≤ 20
    · obtain ⟨U, hU⟩ : ∃ U, uniF (sortS (okL l0)) = U := ⟨_, rfl⟩
      obtain ⟨K, hK⟩ : ∃ K, okL l0 = K := ⟨_, rfl⟩
      have hUl := union_len l0
      have hKl := okL_le l0 l0.length
      rw [List.take_length] at hKl
      have hin := union_in l0
      have hmay := union_may l0
      have hself := union_self _ hmay
      have hsh := union_short l0 200 HS2.out
      rw [hU] at hUl hmay hself hsh hin
      rw [hK] at hKl hin
      have hhas : hasF K false a1 a2 = hasF U false a1 a2 := by unfold hasF; rw [hin, hin, hin]
      obtain ⟨q, hq⟩ : ∃ q, hasF U false a1 a2 = q := ⟨_, rfl⟩
      have HQ2 := hide (hhas.trans hq)
      have HU := hide hU
      have HQ := hide hq
      have HMAY := hide hmay
      have HSELF := hide hself
      have HKU := hide hK
      have HSU := hide (show ∀ s ∈ U, Short s from fun s hs => ⟨by have := (hsh s hs).1; omega, by have := (hsh s hs).2; omega⟩)
      clear hU hq hin hmay hself hsh hhas hK
      go_wp2_with fail
      refine (unione_any _ l0 U _ W1.out (by omega) HSH.out HU.out).mono ?_
      rintro e w2 ⟨v2, rfl, hb2, ho2⟩
      have W2 := hide (rwat_below W1.out hb2)
      have H2 := hide (own_rwat ho2)
      clear ho2
      go_wp2_with fail
      refine (mays_any v2 U true _ H2.out (by omega) HSU.out HMAY.out).mono ?_
      rintro e w3 ⟨rfl, hb3⟩
      have W3 := hide (rwat_below W2.out hb3)
      have H3 := hide (rwat_below H2.out hb3)
      go_wp2_with fail
      refine (unione_any v2 U U _ H3.out (by omega) HSU.out HSELF.out).mono ?_
      rintro e w4 ⟨v4, rfl, hb4, ho4⟩
      have W4 := hide (rwat_below W3.out hb4)
      have H4 := hide (rwat_below H3.out hb4)
      have G4 := hide (own_rwat ho4)
      clear ho4
      go_wp2_with fail
      refine (rowsb_any v4 v2 U U true _ G4.out H4.out (by omega) (by omega) (by simp)).mono ?_
      rintro e w5 ⟨rfl, hb5⟩
      have W5 := hide (rwat_below W4.out hb5)
      have H5 := hide (rwat_below H4.out hb5)
      go_wp2_with fail
      refine (proper_any _ l0 _ W5.out (by omega) HSH.out).mono ?_
      rintro e w6 ⟨v6, rfl, hb6, ho6⟩
      rw [HKU.out] at ho6
      have H6 := hide (rwat_below H5.out hb6)
      have G6 := hide (own_rwat ho6)
      clear ho6
      go_wp2_with fail
      refine (hass_any v6 K false a1 a2 q _ G6.out (by omega) (by omega) HQ2.out).mono ?_
      rintro e w7 ⟨rfl, hb7⟩
      have H7 := hide (rwat_below H6.out hb7)
      go_wp2_with fail
      refine (hass_any v2 U false a1 a2 q _ H7.out (by omega) (by omega) HQ.out).mono ?_
      rintro e w8 ⟨rfl, hb8⟩
      go_wp2_with fail
      refine (awake12_any _).mono ?_
      rintro e wz ⟨rfl, hbz⟩
      go_wp2
      go_ret
      exact ⟨rfl, bl_trans (bl_trans (bl_trans (bl_trans (bl_trans (bl_trans (bl_trans (bl_trans hb1 hb2) hb3) hb4) hb5) hb6) hb7) hb8) hbz⟩
    · go_wp2_with fail
      refine (awake12_any _).mono ?_
      rintro e wz ⟨rfl, hbz⟩
      go_wp2
      go_ret
      exact ⟨rfl, bl_trans hb1 hbz⟩
  · go_wp2_with fail
    refine (awake12_any _).mono ?_
    rintro e wz ⟨rfl, hbz⟩
    go_wp2
    go_ret
    exact ⟨rfl, bl_trans hb1 hbz⟩

set_option maxRecDepth 100000 in
theorem lifted (os : Os) (started : os.Started) (H : Type) (enc : TypeId × Value → H) :
    ReturnsInHanded {} Try.checked os 5 .any (Rows.setCoversSpec.pre6 enc Try.prog Try.f5 Rows.setCoversRow.domain false) (Rows.setCoversSpec.post enc Try.prog Try.f5 false true false false) := by
  refine returnsInHanded_of_change (C := Try.checked) own started (by kernel_rfl) Try.func5
    (ChangeSpec.witness6 (enc := enc) (C := Try.checked) false ⟨#[], #[.slice none 0 0, .bool false, .string ByteArray.empty], []⟩ 8 (by kernel_rfl) (by kernel_rfl) (by kernel_rfl) (by kernel_rfl)) ?_
  intro W base args ds gs before hval0 hW hcnd _
  have hval : ∀ (j : Nat) t v, Try.f5.params[j]? = some t → args[j]? = some v → Value.okWide Try.prog W .any base t v := hval0
  have hW' := hW
  obtain ⟨p, q, hA0, hV, rfl, hfz, hnd⟩ := hW
  have hA : DataW.TrodAll enc Try.prog W 0 (fun _ => true) true Try.f5.params.toList args.toList ds p := hA0
  rw [Try.params5] at hA hval
  obtain ⟨v0, vs0, d0, ds0, p0, q0, hargs, rfl, rfl, h0, r0⟩ := trodAll_cons hA
  obtain ⟨v1, vs1, d1, ds1, p1, q1, rfl, rfl, rfl, h1, r1⟩ := trodAll_cons r0
  obtain ⟨v2, vs2, d2, ds2, p2, q2, rfl, rfl, rfl, h2, r2⟩ := trodAll_cons r1
  obtain ⟨rfl, rfl, rfl⟩ := trodAll_nil r2
  obtain rfl : args = #[v0, v1, v2] := by cases args; simp_all
  obtain ⟨rfl, rfl⟩ := trodVars_none hV
  have k0 := h0
  have lt0 : ∀ x ∈ p0, x.block < W.heap.size := by obtain ⟨m, hm⟩ := k0; exact DataW.trod_lt m _ _ _ hm
  obtain ⟨l0, w0, b0⟩ := open_rows (hval 0 22 v0 rfl rfl) h0
  have k1 := h1
  have lt1 : ∀ x ∈ p1, x.block < W.heap.size := by obtain ⟨m, hm⟩ := k1; exact DataW.trod_lt m _ _ _ hm
  obtain ⟨a1, rfl, hd1, hp1⟩ := open_bool Try.underlying4 (hval 1 4 v1 rfl rfl) h1
  have k2 := h2
  have lt2 : ∀ x ∈ p2, x.block < W.heap.size := by obtain ⟨m, hm⟩ := k2; exact DataW.trod_lt m _ _ _ hm
  obtain ⟨a2, rfl, hd2, hp2, w2⟩ := open_string Try.underlying9 (hval 2 9 v2 rfl rfl) h2
  clear hA0 hval0
  refine (walk v0 l0 a1 a2 W w0 b0 w2).mono fun e W' ⟨he, bel⟩ => ?_
  subst he
  exact ⟨_, rfl, _, _, _, [], _, [], hW', trodAll_mk1 (shut_bool Try.underlying4 _), (trodAll_cons_mk (Below.trod laidOut (by kernel_rfl) (of_decide_eq_true (by kernel_rfl)) k0 bel lt0) (trodAll_cons_mk (Below.trod laidOut (by kernel_rfl) (of_decide_eq_true (by kernel_rfl)) k1 bel lt1) (trodAll_cons_mk (Below.trod laidOut (by kernel_rfl) (of_decide_eq_true (by kernel_rfl)) k2 bel lt2) trodAll_mk0))), rfl, bel.frame _, fun h => by cases h⟩

theorem over : Rows.setCoversRow.holds Try.pinned (OpenSpec.ofChange Rows.setCoversSpec) :=
  OpenClaim.holds_of_wide 5 Try.f5 rfl rfl rfl rfl rfl rfl rfl ⟨rfl, rfl, rfl, rfl, rfl⟩ rfl rfl rfl rfl rfl (by kernel_rfl) Try.func5 (by kernel_rfl)
    (of_decide_eq_true (by kernel_rfl)) (by unfold Func.isWrapper; first | (rw [if_pos (by decide +kernel)]; kernel_rfl) | (rw [if_neg (by decide +kernel)]; exact ⟨rfl, rfl⟩))
    (fun os started H enc _ => lifted os started H enc)

theorem proved : Rows.SetCoversSaid := over
end Go.Proofs.Ythccikhaialhhaa.setCovers
