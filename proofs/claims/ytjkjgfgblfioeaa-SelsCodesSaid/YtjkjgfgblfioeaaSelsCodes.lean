/- None is ErrArg, more than MaxSels is ErrFull; an end below 0 or past the length is ErrRange, beside which there are none. Conditions: none beyond the form's own. -/
import Derived.Test.YtjkjgfgblfioeaaRows
import Derived.Test.YtjkjgfgblfioeaaArgs
import Derived.Test.YtjkjgfgblfioeaaSelW
import Derived.Test.YtjkjgfgblfioeaaSymU
import Derived.Test.YtjkjgfgblfioeaaLow
import Derived.Test.YtjkjgfgblfioeaaSelArgs
namespace Go.Proofs.Ytjkjgfgblfioeaa.selsCodes
open Go.Proofs.Ytjkjgfgblfioeaa
open Go.ChangeShapes Go.WideShapes Go.ChangeAt Go.RowKit Go.Deep
open Go.ChangeMaps (open_string shut_string)
set_option linter.unusedVariables false

theorem own : ownKnob Try.prog.godebug = none := by kernel_rfl
theorem laidOut : laidOutB Try.prog = true := by kernel_rfl
-- opt:8000000
open SpanM SelM
attribute [local go_sem ↓] Go.wp_at_zero Go.wp_at_succ
theorem own_spatS {w : World} {base : Nat} {v : Value} {l : List Sp} (h : w.ownsRow base 38 2 v l.length (flat l)) : SpAt w v l := by
  rcases own_form h with ⟨rfl, h1, h2⟩ | ⟨g, c, rfl, h1, h2, h3, h4, h5⟩
  · exact .inl ⟨rfl, List.eq_nil_of_length_eq_zero h1⟩
  · refine .inr ⟨_, c, rfl, h3, h4, fun i hi => ?_⟩
    rw [addr_add, addr_add]
    simp only [Nat.zero_add]
    exact ⟨h5 _ _ (flat_at l i hi).1, h5 _ _ (flat_at l i hi).2⟩
theorem step_pos (acc : List Sp) (s : Sp) : 0 < (stepL acc s).length := by
  rcases List.eq_nil_or_concat acc with rfl | ⟨a, t, rfl⟩
  · simp [stepL]
  · rw [List.concat_eq_append]
    cases h : touch (ky t) (ky s)
    · rw [stL_new a t s h]; simp
    · rw [stL_on a t s h]; simp
theorem mrg_pos (l : List Sp) (h : 0 < l.length) : 0 < (mrgF l).length := by
  have h1 := mrg_snoc l (l.length - 1) (by omega)
  rw [show l.length - 1 + 1 = l.length by omega, List.take_of_length_le (Nat.le_refl _)] at h1
  rw [h1]
  exact step_pos _ _
def CdInv (p q : Int) (k : Nat) (wb w0 : World) (m i : Value) (wr : World) : Prop :=
  ∃ j : Nat, i = .int .i64 j ∧ j ≤ k ∧ Hid (wr.ownsRow w0.heap.size 38 2 m j (flat (List.replicate j (p, q)))) ∧ Hid (Below w0.heap.size w0 wr)
theorem rep_succ (j : Nat) (p q : Int) : flat (List.replicate j (p, q)) ++ [Value.int .i64 p, .int .i64 q] = flat (List.replicate (j + 1) (p, q)) := by
  rw [List.replicate_succ', flat_app]; rfl
set_option maxRecDepth 100000 in
set_option maxHeartbeats 8000000 in
theorem walk (a0 : Int) (s1 : SpanM.Sp) (a2 : Int) (w : World) (w0 : (Lit.int .i64 a0).wf = true) (b1 : Wf s1) (w2 : (Lit.int .i64 a2).wf = true) :
    Calls Try.prog 7 #[.int .i64 a0, .agg #[.int .i64 s1.1, .int .i64 s1.2], .int .i64 a2] w fun e w' => e = .returned (.bool true) ∧ Below w.heap.size w w' := by
  obtain ⟨i0, hi0, hz0', hz1, hz2⟩ := info_parts info_sl
  obtain ⟨p, q⟩ := s1
  have hlow := low_any a0 67
  have hk := lowN_lt a0 67 (by omega)
  generalize lowN a0 67 = k at *
  have HLOW := hide (fun W => hlow W (by omega) (by omega))
  clear hlow
  have hrl : (List.replicate k (p, q)).length = k := List.length_replicate
  have hnz := fun (W : World) (v : Value) (h : SpAt W v (List.replicate k (p, q))) => norm_any stab79 v (List.replicate k (p, q)) a2 W h (.inl (by rw [hrl]; omega))
  by_cases hk0 : k = 0
  · obtain ⟨e1, e2⟩ := nr_zero a2 (List.replicate k (p, q)) (by rw [hrl]; exact hk0)
    have hm := hrl
    rw [e1, e2] at hnz
    have g0 : ((k : Int) == 0) = true := by simp; omega
    have g0' : (k == 0) = true := by simp; omega
    have g1 : decide ((64 : Int) < (k : Int)) = false := by simp; omega
    have g1' : decide (64 < k) = false := by simp; omega
    clear e1 e2
    have HN := hide hnz
    have HM := hide hm
    clear hnz hm
    have hk99 : k ≤ 99 := by omega
    try clear hk0
    try clear hk64
    obtain ⟨w0, hw0⟩ : ∃ w0, w.alloc (.cells #[.int .i64 p, .int .i64 q] 38) = w0 := ⟨_, rfl⟩
    have HB0 := hide (show Below w.heap.size w w0 by rw [← hw0]; exact bl_alloc (bl_refl w) _)
    have c0 : w0.cell? ⟨w.heap.size, 0, none⟩ = some (.int .i64 p) := by rw [← hw0]; simp
    have c1 : w0.cell? ⟨w.heap.size, 1, none⟩ = some (.int .i64 q) := by rw [← hw0]; simp
    go_enter Try.func7, Try.ntmps7
    go_wp2_with fail
    refine (HLOW.out _).mono ?_
    rintro e wl ⟨rfl, hwl⟩
    subst hwl
    go_wp2
    go_loopw [8, 9] (fun m i wr => CdInv p q k w w0 m i wr) (fun _ i _ => k - (intOf i).toNat)
    case atStart => exact ⟨0, rfl, Nat.zero_le _, hide ⟨rfl, .inl ⟨rfl, rfl⟩⟩, hide (bl_refl w0)⟩
    case round =>
      obtain ⟨j, rfl, hj, HV, HBL⟩ := hrel
      obtain ⟨aV, cV, rfl⟩ := own_slice HV.out
      have c0' := cell_later HBL.out c0
      have c1' := cell_later HBL.out c1
      have hsz := HBL.out.size
      by_cases hlt : j < k
      · have gl : decide (j < k) = true := decide_eq_true hlt
        have HREP := hide (rep_succ j p q)
        clear c0 c1
        go_wp2_with (at_builtin; (refine wpList_push wr rfl _ _ 22 rfl w0.heap.size 38 i0 (.agg #[.int .i64 0, .int .i64 0]) 2 16 Try.underlying22 hi0 hz0' hz1 hz2 rfl (by decide) (.slice aV j cV) j (flat (List.replicate j (p, q))) rfl HV.out 1 #[.int .i64 p, .int .i64 q] rfl rfl (by simp [Value.oneCell']) (by omega) (by decide) (by omega) ?_); intro v' w4 hv4 hg4 hat)
        have hv5 : w4.ownsRow w0.heap.size 38 2 v' (j + 1) (flat (List.replicate (j + 1) (p, q))) := by rw [← HREP.out]; exact hv4
        have hbl4 : Below w0.heap.size w0 w4 := bl_own HBL.out HV.out hg4 (Nat.le_refl _)
        refine ⟨?_, by first | (simp [intOf]; done) | (simp [intOf]; omega)⟩
        exact ⟨j + 1, by go_num, by omega, hide hv5, hide hbl4⟩
      · obtain rfl : j = k := by omega
        have gl : decide (j < j) = false := by simp
        have HS := hide (own_spatS (l := List.replicate j (p, q)) (by rw [List.length_replicate]; exact HV.out))
        clear HV c0 c1
        go_wp2_with fail
        refine (HN.out _ _ HS.out).mono ?_
        rintro e w4 ⟨v4, rfl, hb4, ho4⟩
        rw [List.length_nil] at ho4
        obtain ⟨aW, cW, rfl⟩ := own_slice ho4
        have c0 := cell_later hb4 c0'
        have c1 := cell_later hb4 c1'
        have HB4 := hide (bl_trans HB0.out (bl_trans HBL.out hb4))
        clear hb4 ho4 c0' c1' hsz HBL HN HS HM
        go_wp2_with (go_at_call 9; refine (awake8_any _).mono ?_; rintro e w9 ⟨rfl, hb9⟩)
        go_ret
        exact ⟨rfl, bl_trans HB4.out hb9⟩
  by_cases hk64 : 64 < k
  · obtain ⟨e1, e2⟩ := nr_full a2 (List.replicate k (p, q)) (by rw [hrl]; exact hk64)
    have hm := hrl
    rw [e1, e2] at hnz
    have g0 : ((k : Int) == 0) = false := by simp; omega
    have g0' : (k == 0) = false := by simp; omega
    have g1 : decide ((64 : Int) < (k : Int)) = true := by simp; omega
    have g1' : decide (64 < k) = true := by simp; omega
    clear e1 e2
    have HN := hide hnz
    have HM := hide hm
    clear hnz hm
    have hk99 : k ≤ 99 := by omega
    try clear hk0
    try clear hk64
    obtain ⟨w0, hw0⟩ : ∃ w0, w.alloc (.cells #[.int .i64 p, .int .i64 q] 38) = w0 := ⟨_, rfl⟩
    have HB0 := hide (show Below w.heap.size w w0 by rw [← hw0]; exact bl_alloc (bl_refl w) _)
    have c0 : w0.cell? ⟨w.heap.size, 0, none⟩ = some (.int .i64 p) := by rw [← hw0]; simp
    have c1 : w0.cell? ⟨w.heap.size, 1, none⟩ = some (.int .i64 q) := by rw [← hw0]; simp
    go_enter Try.func7, Try.ntmps7
    go_wp2_with fail
    refine (HLOW.out _).mono ?_
    rintro e wl ⟨rfl, hwl⟩
    subst hwl
    go_wp2
    go_loopw [8, 9] (fun m i wr => CdInv p q k w w0 m i wr) (fun _ i _ => k - (intOf i).toNat)
    case atStart => exact ⟨0, rfl, Nat.zero_le _, hide ⟨rfl, .inl ⟨rfl, rfl⟩⟩, hide (bl_refl w0)⟩
    case round =>
      obtain ⟨j, rfl, hj, HV, HBL⟩ := hrel
      obtain ⟨aV, cV, rfl⟩ := own_slice HV.out
      have c0' := cell_later HBL.out c0
      have c1' := cell_later HBL.out c1
      have hsz := HBL.out.size
      by_cases hlt : j < k
      · have gl : decide (j < k) = true := decide_eq_true hlt
        have HREP := hide (rep_succ j p q)
        clear c0 c1
        go_wp2_with (at_builtin; (refine wpList_push wr rfl _ _ 22 rfl w0.heap.size 38 i0 (.agg #[.int .i64 0, .int .i64 0]) 2 16 Try.underlying22 hi0 hz0' hz1 hz2 rfl (by decide) (.slice aV j cV) j (flat (List.replicate j (p, q))) rfl HV.out 1 #[.int .i64 p, .int .i64 q] rfl rfl (by simp [Value.oneCell']) (by omega) (by decide) (by omega) ?_); intro v' w4 hv4 hg4 hat)
        have hv5 : w4.ownsRow w0.heap.size 38 2 v' (j + 1) (flat (List.replicate (j + 1) (p, q))) := by rw [← HREP.out]; exact hv4
        have hbl4 : Below w0.heap.size w0 w4 := bl_own HBL.out HV.out hg4 (Nat.le_refl _)
        refine ⟨?_, by first | (simp [intOf]; done) | (simp [intOf]; omega)⟩
        exact ⟨j + 1, by go_num, by omega, hide hv5, hide hbl4⟩
      · obtain rfl : j = k := by omega
        have gl : decide (j < j) = false := by simp
        have HS := hide (own_spatS (l := List.replicate j (p, q)) (by rw [List.length_replicate]; exact HV.out))
        clear HV c0 c1
        go_wp2_with fail
        refine (HN.out _ _ HS.out).mono ?_
        rintro e w4 ⟨v4, rfl, hb4, ho4⟩
        rw [List.length_nil] at ho4
        obtain ⟨aW, cW, rfl⟩ := own_slice ho4
        have c0 := cell_later hb4 c0'
        have c1 := cell_later hb4 c1'
        have HB4 := hide (bl_trans HB0.out (bl_trans HBL.out hb4))
        clear hb4 ho4 c0' c1' hsz HBL HN HS HM
        go_wp2_with (go_at_call 9; refine (awake8_any _).mono ?_; rintro e w9 ⟨rfl, hb9⟩)
        go_ret
        exact ⟨rfl, bl_trans HB4.out hb9⟩
  by_cases hc0 : p < 0
  · obtain ⟨e1, e2⟩ := nr_bad a2 (List.replicate k (p, q)) (by rw [hrl]; exact hk0) (by rw [hrl]; exact hk64) 0 (by rw [hrl]; omega) (by rw [List.getElem_replicate]; unfold mayB ky; simp; omega)
    have hm := hrl
    rw [e1, e2] at hnz
    have g0 : ((k : Int) == 0) = false := by simp; omega
    have g0' : (k == 0) = false := by simp; omega
    have g1 : decide ((64 : Int) < (k : Int)) = false := by simp; omega
    have g1' : decide (64 < k) = false := by simp; omega
    have r0 : decide (p < 0) = true := decide_eq_true hc0
    clear e1 e2 hc0
    have HN := hide hnz
    have HM := hide hm
    clear hnz hm
    have hk99 : k ≤ 99 := by omega
    try clear hk0
    try clear hk64
    obtain ⟨w0, hw0⟩ : ∃ w0, w.alloc (.cells #[.int .i64 p, .int .i64 q] 38) = w0 := ⟨_, rfl⟩
    have HB0 := hide (show Below w.heap.size w w0 by rw [← hw0]; exact bl_alloc (bl_refl w) _)
    have c0 : w0.cell? ⟨w.heap.size, 0, none⟩ = some (.int .i64 p) := by rw [← hw0]; simp
    have c1 : w0.cell? ⟨w.heap.size, 1, none⟩ = some (.int .i64 q) := by rw [← hw0]; simp
    go_enter Try.func7, Try.ntmps7
    go_wp2_with fail
    refine (HLOW.out _).mono ?_
    rintro e wl ⟨rfl, hwl⟩
    subst hwl
    go_wp2
    go_loopw [8, 9] (fun m i wr => CdInv p q k w w0 m i wr) (fun _ i _ => k - (intOf i).toNat)
    case atStart => exact ⟨0, rfl, Nat.zero_le _, hide ⟨rfl, .inl ⟨rfl, rfl⟩⟩, hide (bl_refl w0)⟩
    case round =>
      obtain ⟨j, rfl, hj, HV, HBL⟩ := hrel
      obtain ⟨aV, cV, rfl⟩ := own_slice HV.out
      have c0' := cell_later HBL.out c0
      have c1' := cell_later HBL.out c1
      have hsz := HBL.out.size
      by_cases hlt : j < k
      · have gl : decide (j < k) = true := decide_eq_true hlt
        have HREP := hide (rep_succ j p q)
        clear c0 c1
        go_wp2_with (at_builtin; (refine wpList_push wr rfl _ _ 22 rfl w0.heap.size 38 i0 (.agg #[.int .i64 0, .int .i64 0]) 2 16 Try.underlying22 hi0 hz0' hz1 hz2 rfl (by decide) (.slice aV j cV) j (flat (List.replicate j (p, q))) rfl HV.out 1 #[.int .i64 p, .int .i64 q] rfl rfl (by simp [Value.oneCell']) (by omega) (by decide) (by omega) ?_); intro v' w4 hv4 hg4 hat)
        have hv5 : w4.ownsRow w0.heap.size 38 2 v' (j + 1) (flat (List.replicate (j + 1) (p, q))) := by rw [← HREP.out]; exact hv4
        have hbl4 : Below w0.heap.size w0 w4 := bl_own HBL.out HV.out hg4 (Nat.le_refl _)
        refine ⟨?_, by first | (simp [intOf]; done) | (simp [intOf]; omega)⟩
        exact ⟨j + 1, by go_num, by omega, hide hv5, hide hbl4⟩
      · obtain rfl : j = k := by omega
        have gl : decide (j < j) = false := by simp
        have HS := hide (own_spatS (l := List.replicate j (p, q)) (by rw [List.length_replicate]; exact HV.out))
        clear HV c0 c1
        go_wp2_with fail
        refine (HN.out _ _ HS.out).mono ?_
        rintro e w4 ⟨v4, rfl, hb4, ho4⟩
        rw [List.length_nil] at ho4
        obtain ⟨aW, cW, rfl⟩ := own_slice ho4
        have c0 := cell_later hb4 c0'
        have c1 := cell_later hb4 c1'
        have HB4 := hide (bl_trans HB0.out (bl_trans HBL.out hb4))
        clear hb4 ho4 c0' c1' hsz HBL HN HS HM
        go_wp2_with (go_at_call 9; refine (awake8_any _).mono ?_; rintro e w9 ⟨rfl, hb9⟩)
        go_ret
        exact ⟨rfl, bl_trans HB4.out hb9⟩
  by_cases hc1 : q < 0
  · obtain ⟨e1, e2⟩ := nr_bad a2 (List.replicate k (p, q)) (by rw [hrl]; exact hk0) (by rw [hrl]; exact hk64) 0 (by rw [hrl]; omega) (by rw [List.getElem_replicate]; unfold mayB ky; simp; omega)
    have hm := hrl
    rw [e1, e2] at hnz
    have g0 : ((k : Int) == 0) = false := by simp; omega
    have g0' : (k == 0) = false := by simp; omega
    have g1 : decide ((64 : Int) < (k : Int)) = false := by simp; omega
    have g1' : decide (64 < k) = false := by simp; omega
    have r0 : decide (p < 0) = false := decide_eq_false hc0
    have r1 : decide (q < 0) = true := decide_eq_true hc1
    clear e1 e2 hc0 hc1
    have HN := hide hnz
    have HM := hide hm
    clear hnz hm
    have hk99 : k ≤ 99 := by omega
    try clear hk0
    try clear hk64
    obtain ⟨w0, hw0⟩ : ∃ w0, w.alloc (.cells #[.int .i64 p, .int .i64 q] 38) = w0 := ⟨_, rfl⟩
    have HB0 := hide (show Below w.heap.size w w0 by rw [← hw0]; exact bl_alloc (bl_refl w) _)
    have c0 : w0.cell? ⟨w.heap.size, 0, none⟩ = some (.int .i64 p) := by rw [← hw0]; simp
    have c1 : w0.cell? ⟨w.heap.size, 1, none⟩ = some (.int .i64 q) := by rw [← hw0]; simp
    go_enter Try.func7, Try.ntmps7
    go_wp2_with fail
    refine (HLOW.out _).mono ?_
    rintro e wl ⟨rfl, hwl⟩
    subst hwl
    go_wp2
    go_loopw [8, 9] (fun m i wr => CdInv p q k w w0 m i wr) (fun _ i _ => k - (intOf i).toNat)
    case atStart => exact ⟨0, rfl, Nat.zero_le _, hide ⟨rfl, .inl ⟨rfl, rfl⟩⟩, hide (bl_refl w0)⟩
    case round =>
      obtain ⟨j, rfl, hj, HV, HBL⟩ := hrel
      obtain ⟨aV, cV, rfl⟩ := own_slice HV.out
      have c0' := cell_later HBL.out c0
      have c1' := cell_later HBL.out c1
      have hsz := HBL.out.size
      by_cases hlt : j < k
      · have gl : decide (j < k) = true := decide_eq_true hlt
        have HREP := hide (rep_succ j p q)
        clear c0 c1
        go_wp2_with (at_builtin; (refine wpList_push wr rfl _ _ 22 rfl w0.heap.size 38 i0 (.agg #[.int .i64 0, .int .i64 0]) 2 16 Try.underlying22 hi0 hz0' hz1 hz2 rfl (by decide) (.slice aV j cV) j (flat (List.replicate j (p, q))) rfl HV.out 1 #[.int .i64 p, .int .i64 q] rfl rfl (by simp [Value.oneCell']) (by omega) (by decide) (by omega) ?_); intro v' w4 hv4 hg4 hat)
        have hv5 : w4.ownsRow w0.heap.size 38 2 v' (j + 1) (flat (List.replicate (j + 1) (p, q))) := by rw [← HREP.out]; exact hv4
        have hbl4 : Below w0.heap.size w0 w4 := bl_own HBL.out HV.out hg4 (Nat.le_refl _)
        refine ⟨?_, by first | (simp [intOf]; done) | (simp [intOf]; omega)⟩
        exact ⟨j + 1, by go_num, by omega, hide hv5, hide hbl4⟩
      · obtain rfl : j = k := by omega
        have gl : decide (j < j) = false := by simp
        have HS := hide (own_spatS (l := List.replicate j (p, q)) (by rw [List.length_replicate]; exact HV.out))
        clear HV c0 c1
        go_wp2_with fail
        refine (HN.out _ _ HS.out).mono ?_
        rintro e w4 ⟨v4, rfl, hb4, ho4⟩
        rw [List.length_nil] at ho4
        obtain ⟨aW, cW, rfl⟩ := own_slice ho4
        have c0 := cell_later hb4 c0'
        have c1 := cell_later hb4 c1'
        have HB4 := hide (bl_trans HB0.out (bl_trans HBL.out hb4))
        clear hb4 ho4 c0' c1' hsz HBL HN HS HM
        go_wp2_with (go_at_call 9; refine (awake8_any _).mono ?_; rintro e w9 ⟨rfl, hb9⟩)
        go_ret
        exact ⟨rfl, bl_trans HB4.out hb9⟩
  by_cases hc2 : a2 < p
  · obtain ⟨e1, e2⟩ := nr_bad a2 (List.replicate k (p, q)) (by rw [hrl]; exact hk0) (by rw [hrl]; exact hk64) 0 (by rw [hrl]; omega) (by rw [List.getElem_replicate]; unfold mayB ky; simp; omega)
    have hm := hrl
    rw [e1, e2] at hnz
    have g0 : ((k : Int) == 0) = false := by simp; omega
    have g0' : (k == 0) = false := by simp; omega
    have g1 : decide ((64 : Int) < (k : Int)) = false := by simp; omega
    have g1' : decide (64 < k) = false := by simp; omega
    have r0 : decide (p < 0) = false := decide_eq_false hc0
    have r1 : decide (q < 0) = false := decide_eq_false hc1
    have r2 : decide (a2 < p) = true := decide_eq_true hc2
    clear e1 e2 hc0 hc1 hc2
    have HN := hide hnz
    have HM := hide hm
    clear hnz hm
    have hk99 : k ≤ 99 := by omega
    try clear hk0
    try clear hk64
    obtain ⟨w0, hw0⟩ : ∃ w0, w.alloc (.cells #[.int .i64 p, .int .i64 q] 38) = w0 := ⟨_, rfl⟩
    have HB0 := hide (show Below w.heap.size w w0 by rw [← hw0]; exact bl_alloc (bl_refl w) _)
    have c0 : w0.cell? ⟨w.heap.size, 0, none⟩ = some (.int .i64 p) := by rw [← hw0]; simp
    have c1 : w0.cell? ⟨w.heap.size, 1, none⟩ = some (.int .i64 q) := by rw [← hw0]; simp
    go_enter Try.func7, Try.ntmps7
    go_wp2_with fail
    refine (HLOW.out _).mono ?_
    rintro e wl ⟨rfl, hwl⟩
    subst hwl
    go_wp2
    go_loopw [8, 9] (fun m i wr => CdInv p q k w w0 m i wr) (fun _ i _ => k - (intOf i).toNat)
    case atStart => exact ⟨0, rfl, Nat.zero_le _, hide ⟨rfl, .inl ⟨rfl, rfl⟩⟩, hide (bl_refl w0)⟩
    case round =>
      obtain ⟨j, rfl, hj, HV, HBL⟩ := hrel
      obtain ⟨aV, cV, rfl⟩ := own_slice HV.out
      have c0' := cell_later HBL.out c0
      have c1' := cell_later HBL.out c1
      have hsz := HBL.out.size
      by_cases hlt : j < k
      · have gl : decide (j < k) = true := decide_eq_true hlt
        have HREP := hide (rep_succ j p q)
        clear c0 c1
        go_wp2_with (at_builtin; (refine wpList_push wr rfl _ _ 22 rfl w0.heap.size 38 i0 (.agg #[.int .i64 0, .int .i64 0]) 2 16 Try.underlying22 hi0 hz0' hz1 hz2 rfl (by decide) (.slice aV j cV) j (flat (List.replicate j (p, q))) rfl HV.out 1 #[.int .i64 p, .int .i64 q] rfl rfl (by simp [Value.oneCell']) (by omega) (by decide) (by omega) ?_); intro v' w4 hv4 hg4 hat)
        have hv5 : w4.ownsRow w0.heap.size 38 2 v' (j + 1) (flat (List.replicate (j + 1) (p, q))) := by rw [← HREP.out]; exact hv4
        have hbl4 : Below w0.heap.size w0 w4 := bl_own HBL.out HV.out hg4 (Nat.le_refl _)
        refine ⟨?_, by first | (simp [intOf]; done) | (simp [intOf]; omega)⟩
        exact ⟨j + 1, by go_num, by omega, hide hv5, hide hbl4⟩
      · obtain rfl : j = k := by omega
        have gl : decide (j < j) = false := by simp
        have HS := hide (own_spatS (l := List.replicate j (p, q)) (by rw [List.length_replicate]; exact HV.out))
        clear HV c0 c1
        go_wp2_with fail
        refine (HN.out _ _ HS.out).mono ?_
        rintro e w4 ⟨v4, rfl, hb4, ho4⟩
        rw [List.length_nil] at ho4
        obtain ⟨aW, cW, rfl⟩ := own_slice ho4
        have c0 := cell_later hb4 c0'
        have c1 := cell_later hb4 c1'
        have HB4 := hide (bl_trans HB0.out (bl_trans HBL.out hb4))
        clear hb4 ho4 c0' c1' hsz HBL HN HS HM
        go_wp2_with (go_at_call 9; refine (awake8_any _).mono ?_; rintro e w9 ⟨rfl, hb9⟩)
        go_ret
        exact ⟨rfl, bl_trans HB4.out hb9⟩
  by_cases hc3 : a2 < q
  · obtain ⟨e1, e2⟩ := nr_bad a2 (List.replicate k (p, q)) (by rw [hrl]; exact hk0) (by rw [hrl]; exact hk64) 0 (by rw [hrl]; omega) (by rw [List.getElem_replicate]; unfold mayB ky; simp; omega)
    have hm := hrl
    rw [e1, e2] at hnz
    have g0 : ((k : Int) == 0) = false := by simp; omega
    have g0' : (k == 0) = false := by simp; omega
    have g1 : decide ((64 : Int) < (k : Int)) = false := by simp; omega
    have g1' : decide (64 < k) = false := by simp; omega
    have r0 : decide (p < 0) = false := decide_eq_false hc0
    have r1 : decide (q < 0) = false := decide_eq_false hc1
    have r2 : decide (a2 < p) = false := decide_eq_false hc2
    have r3 : decide (a2 < q) = true := decide_eq_true hc3
    clear e1 e2 hc0 hc1 hc2 hc3
    have HN := hide hnz
    have HM := hide hm
    clear hnz hm
    have hk99 : k ≤ 99 := by omega
    try clear hk0
    try clear hk64
    obtain ⟨w0, hw0⟩ : ∃ w0, w.alloc (.cells #[.int .i64 p, .int .i64 q] 38) = w0 := ⟨_, rfl⟩
    have HB0 := hide (show Below w.heap.size w w0 by rw [← hw0]; exact bl_alloc (bl_refl w) _)
    have c0 : w0.cell? ⟨w.heap.size, 0, none⟩ = some (.int .i64 p) := by rw [← hw0]; simp
    have c1 : w0.cell? ⟨w.heap.size, 1, none⟩ = some (.int .i64 q) := by rw [← hw0]; simp
    go_enter Try.func7, Try.ntmps7
    go_wp2_with fail
    refine (HLOW.out _).mono ?_
    rintro e wl ⟨rfl, hwl⟩
    subst hwl
    go_wp2
    go_loopw [8, 9] (fun m i wr => CdInv p q k w w0 m i wr) (fun _ i _ => k - (intOf i).toNat)
    case atStart => exact ⟨0, rfl, Nat.zero_le _, hide ⟨rfl, .inl ⟨rfl, rfl⟩⟩, hide (bl_refl w0)⟩
    case round =>
      obtain ⟨j, rfl, hj, HV, HBL⟩ := hrel
      obtain ⟨aV, cV, rfl⟩ := own_slice HV.out
      have c0' := cell_later HBL.out c0
      have c1' := cell_later HBL.out c1
      have hsz := HBL.out.size
      by_cases hlt : j < k
      · have gl : decide (j < k) = true := decide_eq_true hlt
        have HREP := hide (rep_succ j p q)
        clear c0 c1
        go_wp2_with (at_builtin; (refine wpList_push wr rfl _ _ 22 rfl w0.heap.size 38 i0 (.agg #[.int .i64 0, .int .i64 0]) 2 16 Try.underlying22 hi0 hz0' hz1 hz2 rfl (by decide) (.slice aV j cV) j (flat (List.replicate j (p, q))) rfl HV.out 1 #[.int .i64 p, .int .i64 q] rfl rfl (by simp [Value.oneCell']) (by omega) (by decide) (by omega) ?_); intro v' w4 hv4 hg4 hat)
        have hv5 : w4.ownsRow w0.heap.size 38 2 v' (j + 1) (flat (List.replicate (j + 1) (p, q))) := by rw [← HREP.out]; exact hv4
        have hbl4 : Below w0.heap.size w0 w4 := bl_own HBL.out HV.out hg4 (Nat.le_refl _)
        refine ⟨?_, by first | (simp [intOf]; done) | (simp [intOf]; omega)⟩
        exact ⟨j + 1, by go_num, by omega, hide hv5, hide hbl4⟩
      · obtain rfl : j = k := by omega
        have gl : decide (j < j) = false := by simp
        have HS := hide (own_spatS (l := List.replicate j (p, q)) (by rw [List.length_replicate]; exact HV.out))
        clear HV c0 c1
        go_wp2_with fail
        refine (HN.out _ _ HS.out).mono ?_
        rintro e w4 ⟨v4, rfl, hb4, ho4⟩
        rw [List.length_nil] at ho4
        obtain ⟨aW, cW, rfl⟩ := own_slice ho4
        have c0 := cell_later hb4 c0'
        have c1 := cell_later hb4 c1'
        have HB4 := hide (bl_trans HB0.out (bl_trans HBL.out hb4))
        clear hb4 ho4 c0' c1' hsz HBL HN HS HM
        go_wp2_with (go_at_call 9; refine (awake8_any _).mono ?_; rintro e w9 ⟨rfl, hb9⟩)
        go_ret
        exact ⟨rfl, bl_trans HB4.out hb9⟩
  obtain ⟨e1, e2⟩ := nr_good a2 (List.replicate k (p, q)) (by rw [hrl]; exact hk0) (by rw [hrl]; exact hk64) (fun j hj => by rw [List.getElem_replicate]; unfold mayB ky; simp; omega)
  have hm := mrg_pos (sortL (List.replicate k (p, q))) (by rw [sortL_len, hrl]; omega)
  rw [e1, e2] at hnz
  generalize mrgF (sortL (List.replicate k (p, q))) = U at *
  obtain ⟨m, hmm⟩ : ∃ m, U.length = m := ⟨_, rfl⟩
  rw [hmm] at hm
  have g0 : ((k : Int) == 0) = false := by simp; omega
  have g0' : (k == 0) = false := by simp; omega
  have g1 : decide ((64 : Int) < (k : Int)) = false := by simp; omega
  have g1' : decide (64 < k) = false := by simp; omega
  have r0 : decide (p < 0) = false := decide_eq_false hc0
  have r1 : decide (q < 0) = false := decide_eq_false hc1
  have r2 : decide (a2 < p) = false := decide_eq_false hc2
  have r3 : decide (a2 < q) = false := decide_eq_false hc3
  have t1 : decide ((0 : Int) < (m : Int)) = true := by simp; omega
  have t2 : decide (0 < m) = true := decide_eq_true hm
  have HMM := hide hmm
  clear e1 e2 hmm hc0 hc1 hc2 hc3
  have HN := hide hnz
  have HM := hide hm
  clear hnz hm
  have hk99 : k ≤ 99 := by omega
  try clear hk0
  try clear hk64
  obtain ⟨w0, hw0⟩ : ∃ w0, w.alloc (.cells #[.int .i64 p, .int .i64 q] 38) = w0 := ⟨_, rfl⟩
  have HB0 := hide (show Below w.heap.size w w0 by rw [← hw0]; exact bl_alloc (bl_refl w) _)
  have c0 : w0.cell? ⟨w.heap.size, 0, none⟩ = some (.int .i64 p) := by rw [← hw0]; simp
  have c1 : w0.cell? ⟨w.heap.size, 1, none⟩ = some (.int .i64 q) := by rw [← hw0]; simp
  go_enter Try.func7, Try.ntmps7
  go_wp2_with fail
  refine (HLOW.out _).mono ?_
  rintro e wl ⟨rfl, hwl⟩
  subst hwl
  go_wp2
  go_loopw [8, 9] (fun m i wr => CdInv p q k w w0 m i wr) (fun _ i _ => k - (intOf i).toNat)
  case atStart => exact ⟨0, rfl, Nat.zero_le _, hide ⟨rfl, .inl ⟨rfl, rfl⟩⟩, hide (bl_refl w0)⟩
  case round =>
    obtain ⟨j, rfl, hj, HV, HBL⟩ := hrel
    obtain ⟨aV, cV, rfl⟩ := own_slice HV.out
    have c0' := cell_later HBL.out c0
    have c1' := cell_later HBL.out c1
    have hsz := HBL.out.size
    by_cases hlt : j < k
    · have gl : decide (j < k) = true := decide_eq_true hlt
      have HREP := hide (rep_succ j p q)
      clear c0 c1
      go_wp2_with (at_builtin; (refine wpList_push wr rfl _ _ 22 rfl w0.heap.size 38 i0 (.agg #[.int .i64 0, .int .i64 0]) 2 16 Try.underlying22 hi0 hz0' hz1 hz2 rfl (by decide) (.slice aV j cV) j (flat (List.replicate j (p, q))) rfl HV.out 1 #[.int .i64 p, .int .i64 q] rfl rfl (by simp [Value.oneCell']) (by omega) (by decide) (by omega) ?_); intro v' w4 hv4 hg4 hat)
      have hv5 : w4.ownsRow w0.heap.size 38 2 v' (j + 1) (flat (List.replicate (j + 1) (p, q))) := by rw [← HREP.out]; exact hv4
      have hbl4 : Below w0.heap.size w0 w4 := bl_own HBL.out HV.out hg4 (Nat.le_refl _)
      refine ⟨?_, by first | (simp [intOf]; done) | (simp [intOf]; omega)⟩
      exact ⟨j + 1, by go_num, by omega, hide hv5, hide hbl4⟩
    · obtain rfl : j = k := by omega
      have gl : decide (j < j) = false := by simp
      have HS := hide (own_spatS (l := List.replicate j (p, q)) (by rw [List.length_replicate]; exact HV.out))
      clear HV c0 c1
      go_wp2_with fail
      refine (HN.out _ _ HS.out).mono ?_
      rintro e w4 ⟨v4, rfl, hb4, ho4⟩
      rw [HMM.out] at ho4
      obtain ⟨aW, cW, rfl⟩ := own_slice ho4
      have c0 := cell_later hb4 c0'
      have c1 := cell_later hb4 c1'
      have HB4 := hide (bl_trans HB0.out (bl_trans HBL.out hb4))
      clear hb4 ho4 c0' c1' hsz HBL HN HS HM
      go_wp2_with (go_at_call 9; refine (awake8_any _).mono ?_; rintro e w9 ⟨rfl, hb9⟩)
      go_ret
      exact ⟨rfl, bl_trans HB4.out hb9⟩

set_option maxRecDepth 100000 in
theorem lifted (os : Os) (started : os.Started) (H : Type) (enc : TypeId × Value → H) :
    ReturnsInHanded {} Try.checked os 7 .any (Rows.selsCodesSpec.pre6 enc Try.prog Try.f7 Rows.selsCodesRow.domain false) (Rows.selsCodesSpec.post enc Try.prog Try.f7 false true false false) := by
  refine returnsInHanded_of_change (C := Try.checked) own started (by kernel_rfl) Try.func7
    (ChangeSpec.witness6 (enc := enc) (C := Try.checked) false ⟨#[], #[.int .i64 0, .agg #[.int .i64 0, .int .i64 0], .int .i64 0], []⟩ 8 (by kernel_rfl) (by kernel_rfl) (by kernel_rfl) (by kernel_rfl)) ?_
  intro W base args ds gs before hval0 hW hcnd _
  have hval : ∀ (j : Nat) t v, Try.f7.params[j]? = some t → args[j]? = some v → Value.okWide Try.prog W .any base t v := hval0
  have hW' := hW
  obtain ⟨p, q, hA0, hV, rfl, hfz, hnd⟩ := hW
  have hA : DataW.TrodAll enc Try.prog W 0 (fun _ => true) true Try.f7.params.toList args.toList ds p := hA0
  rw [Try.params7] at hA hval
  obtain ⟨v0, vs0, d0, ds0, p0, q0, hargs, rfl, rfl, h0, r0⟩ := trodAll_cons hA
  obtain ⟨v1, vs1, d1, ds1, p1, q1, rfl, rfl, rfl, h1, r1⟩ := trodAll_cons r0
  obtain ⟨v2, vs2, d2, ds2, p2, q2, rfl, rfl, rfl, h2, r2⟩ := trodAll_cons r1
  obtain ⟨rfl, rfl, rfl⟩ := trodAll_nil r2
  obtain rfl : args = #[v0, v1, v2] := by cases args; simp_all
  obtain ⟨rfl, rfl⟩ := trodVars_none hV
  have k0 := h0
  have lt0 : ∀ x ∈ p0, x.block < W.heap.size := by obtain ⟨m, hm⟩ := k0; exact DataW.trod_lt m _ _ _ hm
  obtain ⟨a0, rfl, hd0, hp0, w0⟩ := open_int Try.underlying3 (hval 0 3 v0 rfl rfl) h0
  have k1 := h1
  have lt1 : ∀ x ∈ p1, x.block < W.heap.size := by obtain ⟨m, hm⟩ := k1; exact DataW.trod_lt m _ _ _ hm
  obtain ⟨s1, rfl, b1⟩ := open_span (hval 1 38 v1 rfl rfl) h1
  have k2 := h2
  have lt2 : ∀ x ∈ p2, x.block < W.heap.size := by obtain ⟨m, hm⟩ := k2; exact DataW.trod_lt m _ _ _ hm
  obtain ⟨a2, rfl, hd2, hp2, w2⟩ := open_int Try.underlying3 (hval 2 3 v2 rfl rfl) h2
  clear hA0 hval0
  refine (walk a0 s1 a2 W w0 b1 w2).mono fun e W' ⟨he, bel⟩ => ?_
  subst he
  exact ⟨_, rfl, _, _, _, [], _, [], hW', trodAll_mk1 (shut_bool Try.underlying4 _), (trodAll_cons_mk (Below.trod laidOut (by kernel_rfl) (of_decide_eq_true (by kernel_rfl)) k0 bel lt0) (trodAll_cons_mk (Below.trod laidOut (by kernel_rfl) (of_decide_eq_true (by kernel_rfl)) k1 bel lt1) (trodAll_cons_mk (Below.trod laidOut (by kernel_rfl) (of_decide_eq_true (by kernel_rfl)) k2 bel lt2) trodAll_mk0))), rfl, bel.frame _, fun h => by cases h⟩

theorem over : Rows.selsCodesRow.holds Try.pinned (OpenSpec.ofChange Rows.selsCodesSpec) :=
  OpenClaim.holds_of_wide 7 Try.f7 rfl rfl rfl rfl rfl rfl rfl ⟨rfl, rfl, rfl, rfl, rfl⟩ rfl rfl rfl rfl rfl (by kernel_rfl) Try.func7 (by kernel_rfl)
    (of_decide_eq_true (by kernel_rfl)) (by unfold Func.isWrapper; first | (rw [if_pos (by decide +kernel)]; kernel_rfl) | (rw [if_neg (by decide +kernel)]; exact ⟨rfl, rfl⟩))
    (fun os started H enc _ => lifted os started H enc)

theorem proved : Rows.SelsCodesSaid := over
end Go.Proofs.Ytjkjgfgblfioeaa.selsCodes
