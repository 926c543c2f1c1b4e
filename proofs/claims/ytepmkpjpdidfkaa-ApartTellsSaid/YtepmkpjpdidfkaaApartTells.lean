/- Are any stretches Apart: the package and the reference answer the same, in whatever order they are told. Conditions: none beyond the form's own. -/
import Derived.Test.YtepmkpjpdidfkaaRows
import Derived.Test.YtepmkpjpdidfkaaArgs
import Derived.Test.YtepmkpjpdidfkaaSpanJ
import Derived.Test.YtepmkpjpdidfkaaSpanArgs
import Derived.Deep.RegionHeld3
import Derived.Test.YtepmkpjpdidfkaaLow
namespace Go.Proofs.Ytepmkpjpdidfkaa.apartTells
open Go.Proofs.Ytepmkpjpdidfkaa
open Go.ChangeShapes Go.WideShapes Go.ChangeAt Go.RowKit Go.Deep
open Go.ChangeMaps (open_string shut_string)
set_option linter.unusedVariables false

theorem own : ownKnob Try.prog.godebug = none := by kernel_rfl
theorem laidOut : laidOutB Try.prog = true := by kernel_rfl
-- opt:8000000
open SpanM
attribute [local go_sem ↓] Go.wp_at_zero Go.wp_at_succ
theorem flat_cells {w : World} {b off : Nat} {l : List Sp} (h : ∀ i (h : i < l.length), w.cell? ⟨b, off + i * 2, none⟩ = some (.int .i64 l[i].1) ∧ w.cell? ⟨b, off + i * 2 + 1, none⟩ = some (.int .i64 l[i].2)) :
    ∀ j u, (flat l)[j]? = some u → w.cell? ⟨b, off + j, none⟩ = some u := by
  intro j u hu
  have hj : j < l.length * 2 := by
    have := (List.getElem?_eq_some_iff.1 hu).1
    rwa [flat_len] at this
  have hf := flat_at l (j / 2) (by omega)
  have hc := h (j / 2) (by omega)
  rcases Nat.mod_two_eq_zero_or_one j with hh | hh
  · have ht : j / 2 * 2 = j := by omega
    rw [ht] at hf hc
    rw [hu] at hf
    rw [Option.some.inj hf.1]
    exact hc.1
  · have ht : off + j / 2 * 2 + 1 = off + j := by omega
    have ht2 : j / 2 * 2 + 1 = j := by omega
    rw [ht] at hc
    rw [ht2, hu] at hf
    rw [Option.some.inj hf.2]
    exact hc.2
theorem spat_front {w : World} {A : Option Addr} {c k : Nat} {l : List Sp} (h : SpAt w (.slice A l.length c) l) (hk : k ≤ l.length) : Src w 2 A k (flat (l.take k)) := by
  refine ⟨by rw [flat_len, List.length_take]; omega, ?_⟩
  rcases Nat.eq_zero_or_pos k with h0 | h0
  · exact .inl h0
  · obtain ⟨b, off, c', hv, _, _, _, hc⟩ := spat_some h (by omega)
    injection hv with hv _ _
    subst hv
    refine .inr ⟨_, rfl, fun j u hu => ?_⟩
    rw [addr_add]
    refine flat_cells hc j u ?_
    rw [← flat_take, List.getElem?_take] at hu
    split at hu
    · exact hu
    · cases hu
theorem spat_from {w : World} {A : Option Addr} {c k : Nat} {l : List Sp} (h : SpAt w (.slice A l.length c) l) (hk : k ≤ l.length) : Src w 2 (if c = k then A else A.map (·.add (k * 2))) (l.length - k) (flat (l.drop k)) := by
  refine ⟨by rw [flat_len, List.length_drop], ?_⟩
  by_cases hkl : k = l.length
  · exact .inl (by omega)
  · obtain ⟨b, off, c', hv, hc1, _, _, hc⟩ := spat_some h (by omega)
    injection hv with hv _ hcc
    subst hv hcc
    rw [if_neg (by omega)]
    refine .inr ⟨_, rfl, fun j u hu => ?_⟩
    show w.cell? (((⟨b, off, none⟩ : Addr).add (k * 2)).add j) = some u
    rw [addr_add, addr_add, Nat.add_assoc]
    refine flat_cells hc _ u ?_
    rw [← flat_drop, List.getElem?_drop] at hu
    exact hu
theorem turned (l : List Sp) (k : Nat) : sortS (l.drop k ++ l.take k) = sortS l := by
  refine sortS_eq ((sortS_perm l).trans ?_) (sortS_sorted l)
  have h : (l.take k ++ l.drop k).Perm (l.drop k ++ l.take k) := List.perm_append_comm
  rw [List.take_append_drop] at h
  exact h
theorem raparte_any (v : Value) (l : List Sp) (r : Bool) (w : World) (h : SpAt w v l) (hl : l.length ≤ 1000) (hr : apF (sortS l) = r) :
    Calls Try.prog 27 #[v] w fun e w' => e = .returned (.bool r) ∧ Below w.heap.size w w' := by
  subst hr; exact rapart_any v l w h hl
set_option maxRecDepth 100000 in
set_option maxHeartbeats 8000000 in
theorem walk (a0 : Value) (l0 : List SpanM.Sp) (a1 : Int) (w : World) (w0 : SpAt w a0 l0) (b0 : ∀ s ∈ l0, Wf s) (w1 : (Lit.int .i64 a1).wf = true) :
    Calls Try.prog 8 #[a0, .int .i64 a1] w fun e w' => e = .returned (.bool true) ∧ Below w.heap.size w w' := by
  obtain ⟨aA, cA, rfl⟩ := spat_len w0
  by_cases hs : l0.length ≤ 30
  · obtain ⟨i0, hi0, hz0', hz1, hz2⟩ := info_parts info_sp
    have W0 := hide w0
    clear w0
    have hkl := lowN_lt a1 (l0.length + 1) (by omega)
    go_enter Try.func8, Try.ntmps8
    go_wp2_with fail
    refine (low_any a1 (l0.length + 1) _ (by omega) (by omega)).mono ?_
    rintro e w1 ⟨rfl, rfl⟩
    generalize lowN a1 (l0.length + 1) = k at *
    have hlc : l0.length ≤ cA := by
      rcases W0.out with ⟨h, h1⟩ | ⟨x, c, h, h1, _⟩
      · rw [h1]; simp
      · injection h with _ _ hc; omega
    obtain ⟨r, hr⟩ : ∃ r, apF (sortS l0) = r := ⟨_, rfl⟩
    have HR := hide hr
    have HR2 := hide (show apF (sortS (l0.drop k ++ l0.take k)) = r by rw [turned]; exact hr)
    have hslo := fun (W : World) => run_slice_to (P := Try.prog) 29 23 i0 Try.underlying29 hi0 aA l0.length cA k (k : Int) rfl (by omega) W
    have hshi := fun (W : World) => run_slice_from (P := Try.prog) 29 23 i0 Try.underlying29 hi0 aA l0.length cA k (k : Int) rfl (by omega) W
    rw [hz1] at hshi
    have SLO := hide (spat_front (k := k) W0.out (by omega))
    have SHI := hide (spat_from (k := k) W0.out (by omega))
    generalize (if cA = k then aA else aA.map (·.add (k * 2))) = a2 at *
    clear hr
    go_wp2
    go_region_held3 (fun w' => Below w.heap.size w w')
      ((try go_split_ands
        repeat (first | assumption | exact bl_refl _ | refine bl_drew ?_ | refine bl_alloc ?_ _)))
      (first
        | (refine step_src _ (by rfl) (.tmp 16) (.tmp 19) 29 (by rfl) w.heap.size 23 i0 (.agg #[.int .i64 0, .int .i64 0]) 2 16 Try.underlying29 hi0 hz0' hz1 hz2 rfl (by decide) (.slice (some ⟨_, 0, none⟩) 0 0) 0 [] (by rfl) (own_at (by (try refine heap_drew ?_); first | exact heap_new (by simp) | exact heap_old (heap_new (by simp))) (by first | (simp; done) | (simp; omega))) a2 (l0.length - k) (cA - k) (flat (l0.drop k)) (by rfl) (src_below SHI.out (by assumption)) (flat_one _) (by omega) (by decide) (by first | (simp; done) | (simp; omega)) ?_; intro v8 w8 hv8 hg8; have B8 := bl_grown (a := w) (by assumption) hg8 (fun k hk => by cases hk; first | (simp; done) | (simp; omega)))
        | (refine step_src _ (by rfl) (.tmp 20) (.tmp 23) 29 (by rfl) w.heap.size 23 i0 (.agg #[.int .i64 0, .int .i64 0]) 2 16 Try.underlying29 hi0 hz0' hz1 hz2 rfl (by decide) v8 (0 + (l0.length - k)) ([] ++ flat (l0.drop k)) (by rfl) hv8 aA k cA (flat (l0.take k)) (by rfl) (src_below SLO.out (by assumption)) (flat_one _) (by omega) (by decide) (by have := B8.size; omega) ?_; intro v9 w9 hv9 hg9; have B9 := bl_grown (a := w) (by assumption) hg9 (fun k hk => (hv8.lt k hk).1))
        | fail)
    all_goals
      have hv9' : w9.ownsRow w.heap.size 23 2 v9 (l0.drop k ++ l0.take k).length (flat (l0.drop k ++ l0.take k)) := by
        rw [flat_app, show (l0.drop k ++ l0.take k).length = 0 + (l0.length - k) + k by simp; omega]
        exact hv9
      have H9 := hide (own_spat hv9')
      have hl9 : (l0.drop k ++ l0.take k).length ≤ 1000 := by simp; omega
      have W9 := hide (spat_below W0.out B9)
      clear hv9 hv9' hv8 hg8 hg9 B8 hslo hshi SLO SHI
      go_wp2_with fail
      refine (aparte_any _ l0 r _ W9.out (by omega) HR.out).mono ?_
      rintro e w10 ⟨rfl, hb10⟩
      have W10 := hide (spat_below W9.out hb10)
      have H10 := hide (spat_below H9.out hb10)
      go_wp2_with fail
      refine (raparte_any _ l0 r _ W10.out (by omega) HR.out).mono ?_
      rintro e w11 ⟨rfl, hb11⟩
      have W11 := hide (spat_below W10.out hb11)
      have H11 := hide (spat_below H10.out hb11)
      go_wp2_with fail
      refine (aparte_any _ (l0.drop k ++ l0.take k) r _ H11.out hl9 HR2.out).mono ?_
      rintro e w12 ⟨rfl, hb12⟩
      have W12 := hide (spat_below W11.out hb12)
      go_wp2_with fail
      refine (aparte_any _ l0 r _ W12.out (by omega) HR.out).mono ?_
      rintro e w13 ⟨rfl, hb13⟩
      go_wp2_with fail
      refine (awake5_any _).mono ?_
      rintro e w14 ⟨rfl, hb14⟩
      go_wp2
      go_ret
      exact ⟨rfl, bl_trans (bl_trans (bl_trans (bl_trans (bl_trans B9 hb10) hb11) hb12) hb13) hb14⟩
  · go_enter Try.func8, Try.ntmps8
    go_wp2_with fail
    refine (awake5_any _).mono ?_
    rintro e w1 ⟨rfl, hb1⟩
    go_wp2
    go_ret
    exact ⟨rfl, hb1⟩

set_option maxRecDepth 100000 in
theorem lifted (os : Os) (started : os.Started) (H : Type) (enc : TypeId × Value → H) :
    ReturnsInHanded {} Try.checked os 8 .any (Rows.apartTellsSpec.pre6 enc Try.prog Try.f8 Rows.apartTellsRow.domain false) (Rows.apartTellsSpec.post enc Try.prog Try.f8 false true false false) := by
  refine returnsInHanded_of_change (C := Try.checked) own started (by kernel_rfl) Try.func8
    (ChangeSpec.witness6 (enc := enc) (C := Try.checked) false ⟨#[], #[.slice none 0 0, .int .i64 0], []⟩ 8 (by kernel_rfl) (by kernel_rfl) (by kernel_rfl) (by kernel_rfl)) ?_
  intro W base args ds gs before hval0 hW hcnd _
  have hval : ∀ (j : Nat) t v, Try.f8.params[j]? = some t → args[j]? = some v → Value.okWide Try.prog W .any base t v := hval0
  have hW' := hW
  obtain ⟨p, q, hA0, hV, rfl, hfz, hnd⟩ := hW
  have hA : DataW.TrodAll enc Try.prog W 0 (fun _ => true) true Try.f8.params.toList args.toList ds p := hA0
  rw [Try.params8] at hA hval
  obtain ⟨v0, vs0, d0, ds0, p0, q0, hargs, rfl, rfl, h0, r0⟩ := trodAll_cons hA
  obtain ⟨v1, vs1, d1, ds1, p1, q1, rfl, rfl, rfl, h1, r1⟩ := trodAll_cons r0
  obtain ⟨rfl, rfl, rfl⟩ := trodAll_nil r1
  obtain rfl : args = #[v0, v1] := by cases args; simp_all
  obtain ⟨rfl, rfl⟩ := trodVars_none hV
  have k0 := h0
  have lt0 : ∀ x ∈ p0, x.block < W.heap.size := by obtain ⟨m, hm⟩ := k0; exact DataW.trod_lt m _ _ _ hm
  obtain ⟨l0, w0, b0⟩ := open_spans (hval 0 29 v0 rfl rfl) h0
  have k1 := h1
  have lt1 : ∀ x ∈ p1, x.block < W.heap.size := by obtain ⟨m, hm⟩ := k1; exact DataW.trod_lt m _ _ _ hm
  obtain ⟨a1, rfl, hd1, hp1, w1⟩ := open_int Try.underlying3 (hval 1 3 v1 rfl rfl) h1
  clear hA0 hval0
  refine (walk v0 l0 a1 W w0 b0 w1).mono fun e W' ⟨he, bel⟩ => ?_
  subst he
  exact ⟨_, rfl, _, _, _, [], _, [], hW', trodAll_mk1 (shut_bool Try.underlying4 _), (trodAll_cons_mk (Below.trod laidOut (by kernel_rfl) (of_decide_eq_true (by kernel_rfl)) k0 bel lt0) (trodAll_cons_mk (Below.trod laidOut (by kernel_rfl) (of_decide_eq_true (by kernel_rfl)) k1 bel lt1) trodAll_mk0)), rfl, bel.frame _, fun h => by cases h⟩

theorem over : Rows.apartTellsRow.holds Try.pinned (OpenSpec.ofChange Rows.apartTellsSpec) :=
  OpenClaim.holds_of_wide 8 Try.f8 rfl rfl rfl rfl rfl rfl rfl ⟨rfl, rfl, rfl, rfl, rfl⟩ rfl rfl rfl rfl rfl (by kernel_rfl) Try.func8 (by kernel_rfl)
    (of_decide_eq_true (by kernel_rfl)) (by unfold Func.isWrapper; first | (rw [if_pos (by decide +kernel)]; kernel_rfl) | (rw [if_neg (by decide +kernel)]; exact ⟨rfl, rfl⟩))
    (fun os started H enc _ => lifted os started H enc)

theorem proved : Rows.ApartTellsSaid := over
end Go.Proofs.Ytepmkpjpdidfkaa.apartTells
