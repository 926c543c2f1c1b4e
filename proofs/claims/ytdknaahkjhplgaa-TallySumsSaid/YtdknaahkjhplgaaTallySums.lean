/- Plus is of each both together, whatever they are, in either order; so is Fold of both. Conditions: none beyond the form's own. -/
import Derived.Test.YtdknaahkjhplgaaRows
import Derived.Test.YtdknaahkjhplgaaArgs
import Derived.Test.YtdknaahkjhplgaaFold
import Derived.Deep.RegionHeld3
import Derived.Deep.DeepFit
namespace Go.Proofs.Ytdknaahkjhplgaa.tallySums
open Go.Proofs.Ytdknaahkjhplgaa
open Go.ChangeShapes Go.WideShapes Go.ChangeAt Go.RowKit Go.Deep
open Go.ChangeMaps (open_string shut_string)
set_option linter.unusedVariables false

theorem own : ownKnob Try.prog.godebug = none := by kernel_rfl
theorem laidOut : laidOutB Try.prog = true := by kernel_rfl
def okN (x : Int) : Prop := -1099511627776 ≤ x ∧ x ≤ 1099511627776
instance (x : Int) : Decidable (okN x) := by unfold okN; exact inferInstance
theorem w64 (n : Int) (h : -9223372036854775808 ≤ n ∧ n ≤ 9223372036854775807) : wrap64 n = n := by unfold wrap64; omega
theorem bl_keep {W w1 : World} (hb : Below W.heap.size W w1) : ∀ b o v, W.cell? ⟨b, o, none⟩ = some v → w1.cell? ⟨b, o, none⟩ = some v :=
  fun _ _ _ h => (hb.cell (World.block_lt_of_cell? W _ h)).trans h
theorem plusA (a b c d a' b' c' d' s0 s1 s2 s3 : Int) (h0 : a + a' = s0) (h1 : b + b' = s1) (h2 : c + c' = s2) (h3 : d + d' = s3) (k0 : -4000000000000 ≤ s0 ∧ s0 ≤ 4000000000000) (k1 : -4000000000000 ≤ s1 ∧ s1 ≤ 4000000000000) (k2 : -4000000000000 ≤ s2 ∧ s2 ≤ 4000000000000) (k3 : -4000000000000 ≤ s3 ∧ s3 ≤ 4000000000000) (w : World) :
    Calls Try.prog 23 #[.agg #[.int .i64 a, .int .i64 b, .int .i64 c, .int .i64 d], .agg #[.int .i64 a', .int .i64 b', .int .i64 c', .int .i64 d']] w fun e w' => e = .returned (.agg #[.int .i64 s0, .int .i64 s1, .int .i64 s2, .int .i64 s3]) ∧ Below w.heap.size w w' := by
  have := plus_any a b c d a' b' c' d' w
  rw [w64 _ (by omega), w64 _ (by omega), w64 _ (by omega), w64 _ (by omega), h0, h1, h2, h3] at this
  exact this
theorem foldA (w : World) (g : Nat) (a b c d a' b' c' d' s0 s1 s2 s3 : Int) (e0 : a + a' = s0) (e1 : b + b' = s1) (e2 : c + c' = s2) (e3 : d + d' = s3) (k0 : -4000000000000 ≤ s0 ∧ s0 ≤ 4000000000000) (k1 : -4000000000000 ≤ s1 ∧ s1 ≤ 4000000000000) (k2 : -4000000000000 ≤ s2 ∧ s2 ≤ 4000000000000) (k3 : -4000000000000 ≤ s3 ∧ s3 ≤ 4000000000000)
    (j0 : -4000000000000 ≤ a ∧ a ≤ 4000000000000) (j1 : -4000000000000 ≤ b ∧ b ≤ 4000000000000) (j2 : -4000000000000 ≤ c ∧ c ≤ 4000000000000) (j3 : -4000000000000 ≤ d ∧ d ≤ 4000000000000)
    (h : Calls Try.prog 25 #[.slice (some ⟨g, 0, none⟩) 2 2] w fun e w' => e = .returned (.agg #[.int .i64 (wrap64 (wrap64 (0 + a) + a')), .int .i64 (wrap64 (wrap64 (0 + b) + b')), .int .i64 (wrap64 (wrap64 (0 + c) + c')), .int .i64 (wrap64 (wrap64 (0 + d) + d'))]) ∧ Below w.heap.size w w') :
    Calls Try.prog 25 #[.slice (some ⟨g, 0, none⟩) 2 2] w fun e w' => e = .returned (.agg #[.int .i64 s0, .int .i64 s1, .int .i64 s2, .int .i64 s3]) ∧ Below w.heap.size w w' := by
  rw [w64 (0 + a) (by omega), w64 (0 + b) (by omega), w64 (0 + c) (by omega), w64 (0 + d) (by omega), Int.zero_add, Int.zero_add, Int.zero_add, Int.zero_add, w64 _ (by omega), w64 _ (by omega), w64 _ (by omega), w64 _ (by omega), e0, e1, e2, e3] at h
  exact h
theorem fold2 (w : World) (g : Nat) (a b c d a' b' c' d' : Int) (h0 : w.cell? ⟨g, 0, none⟩ = some (.int .i64 a)) (h1 : w.cell? ⟨g, 1, none⟩ = some (.int .i64 b)) (h2 : w.cell? ⟨g, 2, none⟩ = some (.int .i64 c)) (h3 : w.cell? ⟨g, 3, none⟩ = some (.int .i64 d))
    (h4 : w.cell? ⟨g, 4, none⟩ = some (.int .i64 a')) (h5 : w.cell? ⟨g, 5, none⟩ = some (.int .i64 b')) (h6 : w.cell? ⟨g, 6, none⟩ = some (.int .i64 c')) (h7 : w.cell? ⟨g, 7, none⟩ = some (.int .i64 d')) :
    Calls Try.prog 25 #[.slice (some ⟨g, 0, none⟩) 2 2] w fun e w' => e = .returned (.agg #[.int .i64 (wrap64 (wrap64 (0 + a) + a')), .int .i64 (wrap64 (wrap64 (0 + b) + b')), .int .i64 (wrap64 (wrap64 (0 + c) + c')), .int .i64 (wrap64 (wrap64 (0 + d) + d'))]) ∧ Below w.heap.size w w' :=
  fold_any w g 0 2 2 (fun i j => match i, j with | 0, 0 => a | 0, 1 => b | 0, 2 => c | 0, _ => d | _, 0 => a' | _, 1 => b' | _, 2 => c' | _, _ => d') (by omega) (by omega) (by omega) (fun i hi => by
    match i, hi with
    | 0, _ => exact ⟨h0, h1, h2, h3⟩
    | 1, _ => exact ⟨h4, h5, h6, h7⟩)
set_option maxRecDepth 100000 in
set_option maxHeartbeats 1000000 in
theorem walk (a0_0 a0_1 a0_2 a0_3 : Int) (a1_0 a1_1 a1_2 a1_3 : Int) (w : World) (w0_0 : (Lit.int .i64 a0_0).wf = true) (w0_1 : (Lit.int .i64 a0_1).wf = true) (w0_2 : (Lit.int .i64 a0_2).wf = true) (w0_3 : (Lit.int .i64 a0_3).wf = true) (w1_0 : (Lit.int .i64 a1_0).wf = true) (w1_1 : (Lit.int .i64 a1_1).wf = true) (w1_2 : (Lit.int .i64 a1_2).wf = true) (w1_3 : (Lit.int .i64 a1_3).wf = true) :
    Calls Try.prog 11 #[.agg #[.int .i64 a0_0, .int .i64 a0_1, .int .i64 a0_2, .int .i64 a0_3], .agg #[.int .i64 a1_0, .int .i64 a1_1, .int .i64 a1_2, .int .i64 a1_3]] w fun e w' => e = .returned (.bool true) ∧ Below w.heap.size w w' := by
  by_cases h0 : okN a0_0 ∧ okN a1_0
  · by_cases h1 : okN a0_1 ∧ okN a1_1
    · by_cases h2 : okN a0_2 ∧ okN a1_2
      · by_cases h3 : okN a0_3 ∧ okN a1_3
        · unfold okN at h0 h1 h2 h3
          obtain ⟨⟨p1, p2⟩, p3, p4⟩ := h0
          obtain ⟨⟨q1, q2⟩, q3, q4⟩ := h1
          obtain ⟨⟨r1, r2⟩, r3, r4⟩ := h2
          obtain ⟨⟨s1, s2⟩, s3, s4⟩ := h3
          go_enter Try.func11, Try.ntmps11
          go_wp2
          refine wp_loop_rounds 5 ?_
          rw [rounds_succ]
          go_wp2
          rw [rounds_succ]
          go_wp2
          rw [rounds_succ]
          go_wp2
          rw [rounds_succ]
          go_wp2
          rw [rounds_succ]
          go_wp2
          go_region_held3 (fun w' => w'.cell? ⟨w.heap.size + 1 + 1, 0, none⟩ = some (.int .i64 a0_0) ∧ w'.cell? ⟨w.heap.size + 1 + 1, 1, none⟩ = some (.int .i64 a0_1) ∧ w'.cell? ⟨w.heap.size + 1 + 1, 2, none⟩ = some (.int .i64 a0_2) ∧ w'.cell? ⟨w.heap.size + 1 + 1, 3, none⟩ = some (.int .i64 a0_3) ∧ w'.cell? ⟨w.heap.size + 1 + 1 + 1, 0, none⟩ = some (.int .i64 a1_0) ∧ w'.cell? ⟨w.heap.size + 1 + 1 + 1, 1, none⟩ = some (.int .i64 a1_1) ∧ w'.cell? ⟨w.heap.size + 1 + 1 + 1, 2, none⟩ = some (.int .i64 a1_2) ∧ w'.cell? ⟨w.heap.size + 1 + 1 + 1, 3, none⟩ = some (.int .i64 a1_3) ∧ w'.cell? ⟨w.heap.size + 1 + 1 + 1 + 1, 0, none⟩ = some (.int .i64 (a0_0 + a1_0)) ∧ w'.cell? ⟨w.heap.size + 1 + 1 + 1 + 1, 1, none⟩ = some (.int .i64 (a0_1 + a1_1)) ∧ w'.cell? ⟨w.heap.size + 1 + 1 + 1 + 1, 2, none⟩ = some (.int .i64 (a0_2 + a1_2)) ∧ w'.cell? ⟨w.heap.size + 1 + 1 + 1 + 1, 3, none⟩ = some (.int .i64 (a0_3 + a1_3)) ∧ w.heap.size + 1 + 1 + 1 + 1 < w'.heap.size ∧ w.heap.size + 1 + 1 + 1 < w'.heap.size ∧ w.heap.size + 1 + 1 < w'.heap.size) (((repeat' apply And.intro) <;> first | (go_simp; done) | (refine gk' _ _ _ ?_; go_simp; done) | omega | (simp at *; omega)))
            (first
              | (go_at_call 23; (first | (with_reducible refine (plusA a0_0 a0_1 a0_2 a0_3 a1_0 a1_1 a1_2 a1_3 (a0_0 + a1_0) (a0_1 + a1_1) (a0_2 + a1_2) (a0_3 + a1_3) (by omega) (by omega) (by omega) (by omega) (by omega) (by omega) (by omega) (by omega) _).mono ?_) | (with_reducible refine (plusA a1_0 a1_1 a1_2 a1_3 a0_0 a0_1 a0_2 a0_3 (a0_0 + a1_0) (a0_1 + a1_1) (a0_2 + a1_2) (a0_3 + a1_3) (by omega) (by omega) (by omega) (by omega) (by omega) (by omega) (by omega) (by omega) _).mono ?_)); rintro e w' ⟨rfl, hb'⟩; obtain ⟨g1', g2'⟩ := bl_cell hb'; have gk' := bl_keep hb'; have gs' := hb'.size)
              | (go_at_call 20; refine (awake2_any _).mono ?_; rintro e w' ⟨rfl, hb'⟩; obtain ⟨g1', g2'⟩ := bl_cell hb'; have gk' := bl_keep hb'; have gs' := hb'.size)
              | (go_at_call 25; refine (foldA _ _ _ _ _ _ _ _ _ _ (a0_0 + a1_0) (a0_1 + a1_1) (a0_2 + a1_2) (a0_3 + a1_3) rfl rfl rfl rfl (by omega) (by omega) (by omega) (by omega) (by omega) (by omega) (by omega) (by omega) (fold2 _ _ _ _ _ _ _ _ _ _ (by go_simp) (by go_simp) (by go_simp) (by go_simp) (by go_simp) (by go_simp) (by go_simp) (by go_simp))).mono ?_; rintro e w' ⟨rfl, hb'⟩; obtain ⟨g1', g2'⟩ := bl_cell hb'; have gk' := bl_keep hb'; have gs' := hb'.size))
          all_goals
            go_wp2
            go_ret
            exact ⟨rfl, (by repeat (first | exact bl_refl _ | assumption | refine bl_alloc ?_ _ | refine bl_drewN ?_ _ | refine bl_drew ?_ | refine bl_trans ?_ (by assumption)))⟩
        · unfold okN at h0 h1 h2 h3
          obtain ⟨⟨p1, p2⟩, p3, p4⟩ := h0
          obtain ⟨⟨q1, q2⟩, q3, q4⟩ := h1
          obtain ⟨⟨r1, r2⟩, r3, r4⟩ := h2
          go_enter Try.func11, Try.ntmps11
          go_wp2
          refine wp_loop_rounds 5 ?_
          rw [rounds_succ]
          go_wp2
          rw [rounds_succ]
          go_wp2
          rw [rounds_succ]
          go_wp2
          rw [rounds_succ]
          go_wp2_with (go_at_call 20; refine (awake2_any _).mono ?_; rintro e w' ⟨rfl, hb'⟩)
          all_goals first
            | (exfalso; omega)
            | (go_ret; exact ⟨rfl, (by repeat (first | exact bl_refl _ | assumption | refine bl_alloc ?_ _ | refine bl_drewN ?_ _ | refine bl_drew ?_ | refine bl_trans ?_ (by assumption)))⟩)
      · unfold okN at h0 h1 h2
        obtain ⟨⟨p1, p2⟩, p3, p4⟩ := h0
        obtain ⟨⟨q1, q2⟩, q3, q4⟩ := h1
        go_enter Try.func11, Try.ntmps11
        go_wp2
        refine wp_loop_rounds 5 ?_
        rw [rounds_succ]
        go_wp2
        rw [rounds_succ]
        go_wp2
        rw [rounds_succ]
        go_wp2_with (go_at_call 20; refine (awake2_any _).mono ?_; rintro e w' ⟨rfl, hb'⟩)
        all_goals first
          | (exfalso; omega)
          | (go_ret; exact ⟨rfl, (by repeat (first | exact bl_refl _ | assumption | refine bl_alloc ?_ _ | refine bl_drewN ?_ _ | refine bl_drew ?_ | refine bl_trans ?_ (by assumption)))⟩)
    · unfold okN at h0 h1
      obtain ⟨⟨p1, p2⟩, p3, p4⟩ := h0
      go_enter Try.func11, Try.ntmps11
      go_wp2
      refine wp_loop_rounds 5 ?_
      rw [rounds_succ]
      go_wp2
      rw [rounds_succ]
      go_wp2_with (go_at_call 20; refine (awake2_any _).mono ?_; rintro e w' ⟨rfl, hb'⟩)
      all_goals first
        | (exfalso; omega)
        | (go_ret; exact ⟨rfl, (by repeat (first | exact bl_refl _ | assumption | refine bl_alloc ?_ _ | refine bl_drewN ?_ _ | refine bl_drew ?_ | refine bl_trans ?_ (by assumption)))⟩)
  · unfold okN at h0
    go_enter Try.func11, Try.ntmps11
    go_wp2
    refine wp_loop_rounds 5 ?_
    rw [rounds_succ]
    go_wp2_with (go_at_call 20; refine (awake2_any _).mono ?_; rintro e w' ⟨rfl, hb'⟩)
    all_goals first
      | (exfalso; omega)
      | (go_ret; exact ⟨rfl, (by repeat (first | exact bl_refl _ | assumption | refine bl_alloc ?_ _ | refine bl_drewN ?_ _ | refine bl_drew ?_ | refine bl_trans ?_ (by assumption)))⟩)

set_option maxRecDepth 100000 in
theorem lifted (os : Os) (started : os.Started) (H : Type) (enc : TypeId × Value → H) :
    ReturnsInHanded {} Try.checked os 11 .any (Rows.tallySumsSpec.pre6 enc Try.prog Try.f11 Rows.tallySumsRow.domain false) (Rows.tallySumsSpec.post enc Try.prog Try.f11 false true false false) := by
  refine returnsInHanded_of_change (C := Try.checked) own started (by kernel_rfl) Try.func11
    (ChangeSpec.witness6 (enc := enc) (C := Try.checked) false ⟨#[], #[.agg #[.int .i64 0, .int .i64 0, .int .i64 0, .int .i64 0], .agg #[.int .i64 0, .int .i64 0, .int .i64 0, .int .i64 0]], []⟩ 8 (by kernel_rfl) (by kernel_rfl) (by kernel_rfl) (by kernel_rfl)) ?_
  intro W base args ds gs before hval0 hW hcnd _
  have hval : ∀ (j : Nat) t v, Try.f11.params[j]? = some t → args[j]? = some v → Value.okWide Try.prog W .any base t v := hval0
  have hW' := hW
  obtain ⟨p, q, hA0, hV, rfl, hfz, hnd⟩ := hW
  have hA : DataW.TrodAll enc Try.prog W 0 (fun _ => true) true Try.f11.params.toList args.toList ds p := hA0
  rw [Try.params11] at hA hval
  obtain ⟨v0, vs0, d0, ds0, p0, q0, hargs, rfl, rfl, h0, r0⟩ := trodAll_cons hA
  obtain ⟨v1, vs1, d1, ds1, p1, q1, rfl, rfl, rfl, h1, r1⟩ := trodAll_cons r0
  obtain ⟨rfl, rfl, rfl⟩ := trodAll_nil r1
  obtain rfl : args = #[v0, v1] := by cases args; simp_all
  obtain ⟨rfl, rfl⟩ := trodVars_none hV
  have k0 := h0
  have lt0 : ∀ x ∈ p0, x.block < W.heap.size := by obtain ⟨m, hm⟩ := k0; exact DataW.trod_lt m _ _ _ hm
  obtain ⟨a0_0, a0_1, a0_2, a0_3, rfl, w0_0, w0_1, w0_2, w0_3⟩ := open_arr4 Try.underlying49 Try.underlying3 (by kernel_rfl) (by kernel_rfl) (hval 0 49 v0 rfl rfl) h0
  have k1 := h1
  have lt1 : ∀ x ∈ p1, x.block < W.heap.size := by obtain ⟨m, hm⟩ := k1; exact DataW.trod_lt m _ _ _ hm
  obtain ⟨a1_0, a1_1, a1_2, a1_3, rfl, w1_0, w1_1, w1_2, w1_3⟩ := open_arr4 Try.underlying49 Try.underlying3 (by kernel_rfl) (by kernel_rfl) (hval 1 49 v1 rfl rfl) h1
  clear hA0 hval0
  refine (walk a0_0 a0_1 a0_2 a0_3 a1_0 a1_1 a1_2 a1_3 W w0_0 w0_1 w0_2 w0_3 w1_0 w1_1 w1_2 w1_3).mono fun e W' ⟨he, bel⟩ => ?_
  subst he
  exact ⟨_, rfl, _, _, _, [], _, [], hW', trodAll_mk1 (shut_bool Try.underlying4 _), (trodAll_cons_mk (Below.trod laidOut (by kernel_rfl) (of_decide_eq_true (by kernel_rfl)) k0 bel lt0) (trodAll_cons_mk (Below.trod laidOut (by kernel_rfl) (of_decide_eq_true (by kernel_rfl)) k1 bel lt1) trodAll_mk0)), rfl, bel.frame _, fun h => by cases h⟩

theorem over : Rows.tallySumsRow.holds Try.pinned (OpenSpec.ofChange Rows.tallySumsSpec) :=
  OpenClaim.holds_of_wide 11 Try.f11 rfl rfl rfl rfl rfl rfl rfl ⟨rfl, rfl, rfl, rfl, rfl⟩ rfl rfl rfl rfl rfl (by kernel_rfl) Try.func11 (by kernel_rfl)
    (of_decide_eq_true (by kernel_rfl)) (by unfold Func.isWrapper; first | (rw [if_pos (by decide +kernel)]; kernel_rfl) | (rw [if_neg (by decide +kernel)]; exact ⟨rfl, rfl⟩))
    (fun os started H enc _ => lifted os started H enc)

theorem proved : Rows.TallySumsSaid := over
end Go.Proofs.Ytdknaahkjhplgaa.tallySums
