/- The Union does not hang on the order, nor on what is told twice. Conditions: none beyond the form's own. -/
import Derived.Test.YtepmkpjpdidfkaaRows
import Derived.Test.YtepmkpjpdidfkaaArgs
import Derived.Test.YtepmkpjpdidfkaaSpanH
import Derived.Deep.RegionHeld3
import Derived.Deep.AppendLies
namespace Go.Proofs.Ytepmkpjpdidfkaa.unionOrder
open Go.Proofs.Ytepmkpjpdidfkaa
open Go.ChangeShapes Go.WideShapes Go.ChangeAt Go.RowKit Go.Deep
open Go.ChangeMaps (open_string shut_string)
set_option linter.unusedVariables false

theorem own : ownKnob Try.prog.godebug = none := by kernel_rfl
theorem laidOut : laidOutB Try.prog = true := by kernel_rfl
-- opt:4000000
open SpanM
attribute [local go_sem ↓] Go.wp_at_zero Go.wp_at_succ
theorem same_union (l k : List Sp) (h : ∀ s, s ∈ k ↔ s ∈ l) : uniF (sortS l) = uniF (sortS k) :=
  uni_eq _ _ (sortS_sorted l) (sortS_sorted k) (cov_mem fun s => by rw [(sortS_perm l).mem_iff, (sortS_perm k).mem_iff, h s])
theorem uniF_le (l : List Sp) : (uniF (sortS l)).length ≤ l.length := by
  have := uniF_len (sortS l) (sortS l).length
  rw [List.take_of_length_le (Nat.le_refl _), sortS_len] at this
  exact this
theorem spans_eq (v u : Value) (l k : List Sp) (w : World) (h : SpAt w v l) (g : SpAt w u k) (hl : l.length ≤ 1000) (hk : k.length ≤ 1000) (e : l = k) :
    Calls Try.prog 22 #[v, u] w fun e w' => e = .returned (.bool true) ∧ Below w.heap.size w w' :=
  (spans_any v u l k w h g hl hk).mono fun _ _ ⟨he, n, hw⟩ => ⟨by rw [he, e]; simp, by rw [hw]; exact bl_drewN (bl_refl w) n⟩
set_option maxRecDepth 100000 in
set_option maxHeartbeats 4000000 in
theorem walk (a0 : Value) (l0 : List SpanM.Sp) (w : World) (w0 : SpAt w a0 l0) (b0 : ∀ s ∈ l0, Wf s) :
    Calls Try.prog 7 #[a0] w fun e w' => e = .returned (.bool true) ∧ Below w.heap.size w w' := by
  by_cases hs : l0.length ≤ 30
  · obtain ⟨i0, hi0, hz0', hz1, hz2⟩ := info_parts info_sp
    obtain ⟨aA, cA, rfl⟩ := spat_len w0
    have W0 := hide w0
    clear w0
    go_enter Try.func7, Try.ntmps7
    go_wp2
    go_loopw [3, 4] (fun v i wr => ∃ (j : Nat) (bl : List Sp), i = .int .i64 ((j : Int) - 1) ∧ j ≤ l0.length ∧ bl.length + 2 * j ≤ 60 ∧ Hid (∀ s, s ∈ bl ↔ s ∈ l0.drop j) ∧ wr.ownsRow w.heap.size 23 2 v bl.length (flat bl) ∧ Below w.heap.size w wr)
      (fun _ i _ => (intOf i + 1).toNat)
    case atStart => exact ⟨l0.length, [], rfl, Nat.le_refl _, by simp; omega, hide (by simp), ⟨rfl, .inl ⟨rfl, rfl⟩⟩, bl_refl w⟩
    case round =>
      obtain ⟨j, bl, rfl, hj, hbl2, HM, hv, hbl⟩ := hrel
      rcases Nat.eq_zero_or_pos j with rfl | hp
      · have hmem : ∀ s, s ∈ bl ↔ s ∈ l0 := by have := HM.out; simpa using this
        have HMEM := hide hmem
        clear HM hmem
        obtain ⟨aV, cV, rfl⟩ := own_slice hv
        have HSP := hide (own_spat hv)
        have HA := hide (spat_below W0.out hbl)
        clear hv
        go_wp2_with fail
        refine (union_any _ l0 _ HA.out (by omega)).mono ?_
        rintro e w2 ⟨v1, rfl, hb2, ho2⟩
        have H1 := hide (own_spat ho2)
        have HB := hide (spat_below HSP.out hb2)
        clear ho2
        go_wp2_with fail
        refine (union_any _ bl _ HB.out (by omega)).mono ?_
        rintro e w3 ⟨v2, rfl, hb3, ho3⟩
        have H2 := hide (own_spat ho3)
        have H1' := hide (spat_below H1.out hb3)
        clear ho3
        go_wp2_with fail
        refine (spans_eq v1 v2 _ _ _ H1'.out H2.out (by have := uniF_le l0; omega) (by have := uniF_le bl; omega) (same_union l0 bl HMEM.out)).mono ?_
        rintro e w4 ⟨rfl, hb4⟩
        go_wp2_with fail
        refine (awake5_any _).mono ?_
        rintro e w5 ⟨rfl, hb5⟩
        go_wp2
        go_ret
        exact ⟨rfl, bl_trans (bl_trans (bl_trans (bl_trans hbl hb2) hb3) hb4) hb5⟩
      · obtain ⟨m, rfl⟩ : ∃ m, j = m + 1 := ⟨j - 1, by omega⟩
        obtain ⟨b1, o1, c1, hv1, hc1, hm1, hlb1, hcell1⟩ := spat_some W0.out (by omega)
        injection hv1 with hv1 _ hv1c
        subst hv1 hv1c
        unfold maxLen at hm1
        have hbc := (bl_cell hbl).1
        obtain ⟨x1, x2⟩ := hcell1 m (by omega)
        rw [← hbc b1 _ hlb1] at x1 x2
        have hmem2 : ∀ s, s ∈ bl ++ [l0[m], l0[m]] ↔ s ∈ l0.drop m := fun s => by
          rw [List.drop_eq_getElem_cons (by omega), List.mem_append, HM.out s, List.mem_cons]
          simp only [List.mem_cons, List.not_mem_nil, or_false, or_self]
          exact or_comm
        have HMEM := hide hmem2
        have hi1 : ((m : Nat) : Int) < (l0.length : Int) := by omega
        have hi0' : (0 : Int) ≤ (m : Int) := by omega
        clear hcell1 hmem2 HM hbc
        generalize l0[m] = s at *
        have ag : u3.ownBlock ≠ some b1 := fun h => by have := (World.ownsRow.lt hv _ h).1; omega
        have hbs : w.heap.size ≤ wr.heap.size := hbl.size
        have hnum : ((m : Int) + 1 - 1) = (m : Int) := by omega
        go_wp2
        go_region_held3 (fun w' => w'.cell? ⟨b1, o1 + m * 2, none⟩ = some (.int .i64 s.1) ∧ w'.cell? ⟨b1, o1 + m * 2 + 1, none⟩ = some (.int .i64 s.2))
          (first
            | go_keep
            | (go_split_ands
               refine ⟨?_, ?_⟩
               · (rw [hgrow.cell_far _ (by simp; omega) (Ne.symm ag)]; assumption)
               · (rw [hgrow.cell_far _ (by simp; omega) (Ne.symm ag)]; assumption)))
          ((refine step_append_lies _ (by rfl) _ _ _ (by rfl) w.heap.size 23 i0 _ 2 16 Try.underlying29 hi0 hz0' hz1 hz2 rfl (by omega) u3 bl.length (flat bl) (by rfl) ((hv.alloc _).drew)
              ⟨wr.heap.size, 0, none⟩ 2 2 (flat [s, s]) (by rfl) (by rfl) (World.news_of_block (cs := #[.int .i64 s.1, .int .i64 s.2, .int .i64 s.1, .int .i64 s.2]) (t := 23) (fr := (0, 0)) (heap_alloc_new wr _)) (flat_one _)
              (by omega) (by unfold maxLen; omega) (by omega) (by simp; omega) (wr.heap.size + 1) (by simp) ?_; intro gg cap w3 hown1 hgrow hat hlt))
        all_goals
          have hv5 : w3.ownsRow w.heap.size 23 2 (.slice (some ⟨gg, 0, none⟩) (bl.length + 2) cap) (bl ++ [s, s]).length (flat (bl ++ [s, s])) := by
            rw [flat_app, List.length_append]; exact hown1
          have hbl5 : Below w.heap.size w w3 := bl_own (bl_drew (bl_alloc hbl _)) ((hv.alloc _).drew) hgrow (Nat.le_refl _)
          have hln : (bl ++ [s, s]).length + 2 * m ≤ 60 := by simp; omega
          clear hown1
          go_wp2
          refine ⟨?_, by first | (simp [intOf]; done) | (simp [intOf]; omega)⟩
          first
            | exact ⟨m, bl ++ [s, s], rfl, by omega, hln, HMEM, hv5, hbl5⟩
            | ((repeat apply Exists.intro); exact ⟨⟨m, bl ++ [s, s], rfl, by omega, hln, HMEM, hv5, hbl5⟩, rfl⟩)
  · go_enter Try.func7, Try.ntmps7
    obtain ⟨aA, cA, rfl⟩ := spat_len w0
    go_wp2_with fail
    refine (awake5_any _).mono ?_
    rintro e w1 ⟨rfl, hb1⟩
    go_wp2
    go_ret
    exact ⟨rfl, hb1⟩

set_option maxRecDepth 100000 in
theorem lifted (os : Os) (started : os.Started) (H : Type) (enc : TypeId × Value → H) :
    ReturnsInHanded {} Try.checked os 7 .any (Rows.unionOrderSpec.pre6 enc Try.prog Try.f7 Rows.unionOrderRow.domain false) (Rows.unionOrderSpec.post enc Try.prog Try.f7 false true false false) := by
  refine returnsInHanded_of_change (C := Try.checked) own started (by kernel_rfl) Try.func7
    (ChangeSpec.witness6 (enc := enc) (C := Try.checked) false ⟨#[], #[.slice none 0 0], []⟩ 8 (by kernel_rfl) (by kernel_rfl) (by kernel_rfl) (by kernel_rfl)) ?_
  intro W base args ds gs before hval0 hW hcnd _
  have hval : ∀ (j : Nat) t v, Try.f7.params[j]? = some t → args[j]? = some v → Value.okWide Try.prog W .any base t v := hval0
  have hW' := hW
  obtain ⟨p, q, hA0, hV, rfl, hfz, hnd⟩ := hW
  have hA : DataW.TrodAll enc Try.prog W 0 (fun _ => true) true Try.f7.params.toList args.toList ds p := hA0
  rw [Try.params7] at hA hval
  obtain ⟨v0, vs0, d0, ds0, p0, q0, hargs, rfl, rfl, h0, r0⟩ := trodAll_cons hA
  obtain ⟨rfl, rfl, rfl⟩ := trodAll_nil r0
  obtain rfl : args = #[v0] := by cases args; simp_all
  obtain ⟨rfl, rfl⟩ := trodVars_none hV
  have k0 := h0
  have lt0 : ∀ x ∈ p0, x.block < W.heap.size := by obtain ⟨m, hm⟩ := k0; exact DataW.trod_lt m _ _ _ hm
  obtain ⟨l0, w0, b0⟩ := open_spans (hval 0 29 v0 rfl rfl) h0
  clear hA0 hval0
  refine (walk v0 l0 W w0 b0).mono fun e W' ⟨he, bel⟩ => ?_
  subst he
  exact ⟨_, rfl, _, _, _, [], _, [], hW', trodAll_mk1 (shut_bool Try.underlying4 _), (trodAll_cons_mk (Below.trod laidOut (by kernel_rfl) (of_decide_eq_true (by kernel_rfl)) k0 bel lt0) trodAll_mk0), rfl, bel.frame _, fun h => by cases h⟩

theorem over : Rows.unionOrderRow.holds Try.pinned (OpenSpec.ofChange Rows.unionOrderSpec) :=
  OpenClaim.holds_of_wide 7 Try.f7 rfl rfl rfl rfl rfl rfl rfl ⟨rfl, rfl, rfl, rfl, rfl⟩ rfl rfl rfl rfl rfl (by kernel_rfl) Try.func7 (by kernel_rfl)
    (of_decide_eq_true (by kernel_rfl)) (by unfold Func.isWrapper; first | (rw [if_pos (by decide +kernel)]; kernel_rfl) | (rw [if_neg (by decide +kernel)]; exact ⟨rfl, rfl⟩))
    (fun os started H enc _ => lifted os started H enc)

theorem proved : Rows.UnionOrderSaid := over
end Go.Proofs.Ytepmkpjpdidfkaa.unionOrder
