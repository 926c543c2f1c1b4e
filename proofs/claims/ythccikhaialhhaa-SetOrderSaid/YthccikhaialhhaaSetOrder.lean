/- The Union does not hang on the order, nor on what is told twice, nor on rows that are none. Conditions: none beyond the form's own. -/
import Derived.Test.YthccikhaialhhaaRows
import Derived.Test.YthccikhaialhhaaArgs
import Derived.Test.YthccikhaialhhaaRowK
import Derived.Test.YthccikhaialhhaaRowArgs
import Derived.Deep.RegionHeld3
import Derived.Deep.AppendLies
namespace Go.Proofs.Ythccikhaialhhaa.setOrder
open Go.Proofs.Ythccikhaialhhaa
open Go.ChangeShapes Go.WideShapes Go.ChangeAt Go.RowKit Go.Deep
open Go.ChangeMaps (open_string shut_string)
set_option linter.unusedVariables false

theorem own : ownKnob Try.prog.godebug = none := by kernel_rfl
theorem laidOut : laidOutB Try.prog = true := by kernel_rfl
-- opt:8000000
open SetM
attribute [local go_sem ↓] Go.wp_at_zero Go.wp_at_succ
attribute [local go_sem] lt_bl le_bl
def bb : Rw := (⟨#[98]⟩, ⟨#[97]⟩)
def ee : Rw := (⟨#[]⟩, ⟨#[]⟩)
theorem row_bb : rowB bb = false := by simp only [rowB, bb, bl_d]; decide +kernel
theorem row_ee : rowB ee = false := by simp only [rowB, ee, bl_d]; decide +kernel
theorem flat4 (s : Rw) : flatR [s, bb, s, ee] = [.string s.1, .string s.2, .string ⟨#[98]⟩, .string ⟨#[97]⟩, .string s.1, .string s.2, .string ⟨#[]⟩, .string ⟨#[]⟩] := rfl
theorem back_mem (l bk : List Rw) (m : Nat) (hm : m < l.length) (h : ∀ s, rowB s = true → (s ∈ bk ↔ s ∈ l.drop (m + 1))) : ∀ s, rowB s = true → (s ∈ bk ++ [l[m], bb, l[m], ee] ↔ s ∈ l.drop m) := by
  intro s hs
  have n1 : s ≠ bb := fun e => by rw [e, row_bb] at hs; cases hs
  have n2 : s ≠ ee := fun e => by rw [e, row_ee] at hs; cases hs
  rw [List.drop_eq_getElem_cons hm, List.mem_append, h s hs, List.mem_cons]
  simp only [List.mem_cons, List.not_mem_nil, or_false, n1, n2, false_or]
  constructor
  · rintro (h1 | h1 | h1)
    · exact .inr h1
    · exact .inl h1
    · exact .inl h1
  · rintro (h1 | h1)
    · exact .inr (.inl h1)
    · exact .inl h1
set_option maxRecDepth 100000 in
set_option maxHeartbeats 8000000 in
theorem walk (a0 : Value) (l0 : List SetM.Rw) (w : World) (w0 : RwAt w a0 l0) (b0 : ∀ s ∈ l0, WfR s) :
    Calls Try.prog 6 #[a0] w fun e w' => e = .returned (.bool true) ∧ Below w.heap.size w w' := by
  have HB := hide b0
  obtain ⟨aA, cA, rfl⟩ := rwat_len w0
  have W0 := hide w0
  clear w0 b0
  go_enter Try.func6, Try.ntmps6
  go_wp2_with fail
  refine (much_any _ l0 20 200 _ W0.out (by omega) (by omega) (fun s hs => HB.out s hs)).mono ?_
  rintro e w1 ⟨r, rfl, hb1, HM⟩
  have W1 := hide (rwat_below W0.out hb1)
  cases r
  · obtain ⟨hm1, hm2⟩ := HM.out rfl
    have HSH := hide (show ∀ s ∈ l0, Short s from fun s hs => ⟨by have := (hm2 s hs).1; omega, by have := (hm2 s hs).2; omega⟩)
    have HS2 := hide hm2
    clear hm2 HM W0 HB
    obtain ⟨i0, hi0, hz0', hz1, hz2⟩ := info_parts info_rw
    go_wp2
    go_loopw [3, 4] (fun v i wr => ∃ (j : Nat) (bk : List Rw), i = .int .i64 ((j : Int) - 1) ∧ j ≤ l0.length ∧ bk.length + 4 * j ≤ 80 ∧ Hid (∀ s, rowB s = true → (s ∈ bk ↔ s ∈ l0.drop j)) ∧ Hid (∀ s ∈ bk, Short s) ∧ wr.ownsRow w1.heap.size 36 2 v bk.length (flatR bk) ∧ Below w1.heap.size w1 wr)
      (fun _ i _ => (intOf i + 1).toNat)
    case atStart => exact ⟨l0.length, [], rfl, Nat.le_refl _, by simp; omega, hide (by simp), hide (by simp), ⟨rfl, .inl ⟨rfl, rfl⟩⟩, bl_refl w1⟩
    case round =>
      obtain ⟨j, bl, rfl, hj, hbl2, HM, HSB, hv, hbl⟩ := hrel
      rcases Nat.eq_zero_or_pos j with rfl | hp
      · have hmem : ∀ s, s ∈ okL l0 ↔ s ∈ okL bl := fun s => by
          unfold okL
          rw [List.mem_filter, List.mem_filter]
          constructor
          · rintro ⟨h1, h2⟩; exact ⟨(HM.out s h2).2 (by simpa using h1), h2⟩
          · rintro ⟨h1, h2⟩; exact ⟨by simpa using (HM.out s h2).1 h1, h2⟩
        have hsame := uni_same (okL l0) (okL bl) (fun s hs => (rowB_ok (okL_row l0 s hs)).2.2) hmem
        obtain ⟨U, hU⟩ : ∃ U, uniF (sortS (okL l0)) = U := ⟨_, rfl⟩
        have hUl := union_len l0
        rw [hU] at hsame hUl
        have HU := hide hU
        have HU2 := hide hsame.symm
        clear HM hmem hsame hU
        obtain ⟨aV, cV, rfl⟩ := own_slice hv
        have HSP := hide (own_rwat hv)
        have HA := hide (rwat_below W1.out hbl)
        clear hv
        go_wp2_with fail
        refine (unione_any _ l0 U _ HA.out (by omega) HSH.out HU.out).mono ?_
        rintro e w2 ⟨v1, rfl, hb2, ho2⟩
        have H1 := hide (own_rwat ho2)
        have HB := hide (rwat_below HSP.out hb2)
        clear ho2
        go_wp2_with fail
        refine (unione_any _ bl U _ HB.out (by omega) HSB.out HU2.out).mono ?_
        rintro e w3 ⟨v2, rfl, hb3, ho3⟩
        have H2 := hide (own_rwat ho3)
        have H1' := hide (rwat_below H1.out hb3)
        clear ho3
        go_wp2_with fail
        refine (rowsb_any v1 v2 U U true _ H1'.out H2.out (by omega) (by omega) (by simp)).mono ?_
        rintro e w4 ⟨rfl, hb4⟩
        go_wp2_with fail
        refine (awake12_any _).mono ?_
        rintro e wz ⟨rfl, hbz⟩
        go_wp2
        go_ret
        exact ⟨rfl, bl_trans (bl_trans (bl_trans (bl_trans (bl_trans hb1 hbl) hb2) hb3) hb4) hbz⟩
      · obtain ⟨m, rfl⟩ : ∃ m, j = m + 1 := ⟨j - 1, by omega⟩
        have hbc := (bl_cell hbl).1
        obtain ⟨b1, o1, c1, hv1, hc1, hm1', hlb1, hcell1⟩ := rwat_some W1.out (by omega)
        injection hv1 with hv1 _ hv1c
        subst hv1 hv1c
        unfold maxLen at hm1'
        obtain ⟨x1, x2⟩ := hcell1 m (by omega)
        rw [← hbc b1 _ hlb1] at x1 x2
        have hmem2 := back_mem l0 bl m (by omega) HM.out
        have hss := HSH.out l0[m] (List.getElem_mem (by omega))
        have hsb : ∀ s ∈ bl ++ [l0[m], bb, l0[m], ee], Short s := fun s hs => by
          rcases List.mem_append.1 hs with h1 | h1
          · exact HSB.out s h1
          · simp only [List.mem_cons, List.not_mem_nil, or_false] at h1
            rcases h1 with rfl | rfl | rfl | rfl
            · exact hss
            · exact ⟨by decide, by decide⟩
            · exact hss
            · exact ⟨by decide, by decide⟩
        have HMEM := hide hmem2
        have HSB2 := hide hsb
        have hi1 : ((m : Nat) : Int) < (l0.length : Int) := by omega
        have hi0' : (0 : Int) ≤ (m : Int) := by omega
        clear hcell1 hmem2 HM hbc hsb hss HSB
        generalize l0[m] = s at *
        have ag : u3.ownBlock ≠ some b1 := fun h => by have := (World.ownsRow.lt hv _ h).1; omega
        have hbs : w1.heap.size ≤ wr.heap.size := hbl.size
        have hnum : ((m : Int) + 1 - 1) = (m : Int) := by omega
        go_wp2
        go_region_held3 (fun w' => w'.cell? ⟨b1, o1 + m * 2, none⟩ = some (.string s.1) ∧ w'.cell? ⟨b1, o1 + m * 2 + 1, none⟩ = some (.string s.2))
          (first
            | go_keep
            | (go_split_ands
               refine ⟨?_, ?_⟩
               · (rw [hgrow.cell_far _ (by simp; omega) (Ne.symm ag)]; assumption)
               · (rw [hgrow.cell_far _ (by simp; omega) (Ne.symm ag)]; assumption)))
          ((refine step_append_lies _ (by rfl) _ _ _ (by rfl) w1.heap.size 36 i0 _ 2 32 Try.underlying22 hi0 hz0' hz1 hz2 rfl (by omega) u3 bl.length (flatR bl) (by rfl) ((hv.alloc _).drew)
              ⟨wr.heap.size, 0, none⟩ 4 4 (flatR [s, bb, s, ee]) (by rfl) (by rfl) (World.news_of_block (cs := #[.string s.1, .string s.2, .string ⟨#[98]⟩, .string ⟨#[97]⟩, .string s.1, .string s.2, .string ⟨#[]⟩, .string ⟨#[]⟩]) (t := 36) (fr := (0, 0)) (heap_alloc_new wr _)) (flatR_one _)
              (by omega) (by unfold maxLen; omega) (by omega) (by simp; omega) (wr.heap.size + 1) (by simp) ?_; intro gg cap w3 hown1 hgrow hat hlt))
        all_goals
          have hv5 : w3.ownsRow w1.heap.size 36 2 (.slice (some ⟨gg, 0, none⟩) (bl.length + 4) cap) (bl ++ [s, bb, s, ee]).length (flatR (bl ++ [s, bb, s, ee])) := by
            rw [flatR_app, List.length_append]; exact hown1
          have hbl5 : Below w1.heap.size w1 w3 := bl_own (bl_drew (bl_alloc hbl _)) ((hv.alloc _).drew) hgrow (Nat.le_refl _)
          have hln : (bl ++ [s, bb, s, ee]).length + 4 * m ≤ 80 := by simp; omega
          clear hown1
          go_wp2
          refine ⟨?_, by first | (simp [intOf]; done) | (simp [intOf]; omega)⟩
          first
            | exact ⟨m, bl ++ [s, bb, s, ee], rfl, by omega, hln, HMEM, HSB2, hv5, hbl5⟩
            | ((repeat apply Exists.intro); exact ⟨⟨m, bl ++ [s, bb, s, ee], rfl, by omega, hln, HMEM, HSB2, hv5, hbl5⟩, rfl⟩)
  · go_wp2_with fail
    refine (awake12_any _).mono ?_
    rintro e wz ⟨rfl, hbz⟩
    go_wp2
    go_ret
    exact ⟨rfl, bl_trans hb1 hbz⟩

set_option maxRecDepth 100000 in
theorem lifted (os : Os) (started : os.Started) (H : Type) (enc : TypeId × Value → H) :
    ReturnsInHanded {} Try.checked os 6 .any (Rows.setOrderSpec.pre6 enc Try.prog Try.f6 Rows.setOrderRow.domain false) (Rows.setOrderSpec.post enc Try.prog Try.f6 false true false false) := by
  refine returnsInHanded_of_change (C := Try.checked) own started (by kernel_rfl) Try.func6
    (ChangeSpec.witness6 (enc := enc) (C := Try.checked) false ⟨#[], #[.slice none 0 0], []⟩ 8 (by kernel_rfl) (by kernel_rfl) (by kernel_rfl) (by kernel_rfl)) ?_
  intro W base args ds gs before hval0 hW hcnd _
  have hval : ∀ (j : Nat) t v, Try.f6.params[j]? = some t → args[j]? = some v → Value.okWide Try.prog W .any base t v := hval0
  have hW' := hW
  obtain ⟨p, q, hA0, hV, rfl, hfz, hnd⟩ := hW
  have hA : DataW.TrodAll enc Try.prog W 0 (fun _ => true) true Try.f6.params.toList args.toList ds p := hA0
  rw [Try.params6] at hA hval
  obtain ⟨v0, vs0, d0, ds0, p0, q0, hargs, rfl, rfl, h0, r0⟩ := trodAll_cons hA
  obtain ⟨rfl, rfl, rfl⟩ := trodAll_nil r0
  obtain rfl : args = #[v0] := by cases args; simp_all
  obtain ⟨rfl, rfl⟩ := trodVars_none hV
  have k0 := h0
  have lt0 : ∀ x ∈ p0, x.block < W.heap.size := by obtain ⟨m, hm⟩ := k0; exact DataW.trod_lt m _ _ _ hm
  obtain ⟨l0, w0, b0⟩ := open_rows (hval 0 22 v0 rfl rfl) h0
  clear hA0 hval0
  refine (walk v0 l0 W w0 b0).mono fun e W' ⟨he, bel⟩ => ?_
  subst he
  exact ⟨_, rfl, _, _, _, [], _, [], hW', trodAll_mk1 (shut_bool Try.underlying4 _), (trodAll_cons_mk (Below.trod laidOut (by kernel_rfl) (of_decide_eq_true (by kernel_rfl)) k0 bel lt0) trodAll_mk0), rfl, bel.frame _, fun h => by cases h⟩

theorem over : Rows.setOrderRow.holds Try.pinned (OpenSpec.ofChange Rows.setOrderSpec) :=
  OpenClaim.holds_of_wide 6 Try.f6 rfl rfl rfl rfl rfl rfl rfl ⟨rfl, rfl, rfl, rfl, rfl⟩ rfl rfl rfl rfl rfl (by kernel_rfl) Try.func6 (by kernel_rfl)
    (of_decide_eq_true (by kernel_rfl)) (by unfold Func.isWrapper; first | (rw [if_pos (by decide +kernel)]; kernel_rfl) | (rw [if_neg (by decide +kernel)]; exact ⟨rfl, rfl⟩))
    (fun os started H enc _ => lifted os started H enc)

theorem proved : Rows.SetOrderSaid := over
end Go.Proofs.Ythccikhaialhhaa.setOrder
