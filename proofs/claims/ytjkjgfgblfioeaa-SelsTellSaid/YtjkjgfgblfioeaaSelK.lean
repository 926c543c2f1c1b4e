/- Contract: the order of selections by their stretches. No condition. -/
import Derived.Test.YtjkjgfgblfioeaaSelA
namespace Go.Proofs.Ytjkjgfgblfioeaa
open Go.ChangeShapes Go.WideShapes Go.ChangeAt Go.RowKit
open SpanM
attribute [local go_sem ↓] Go.wp_at_zero Go.wp_at_succ
set_option maxRecDepth 100000
set_option linter.unusedVariables false
def ClCut (k m : Sp) (w : World) (v5 v6 : Value) (wx : World) : Prop := ∃ B5 B6 : Nat, v5 = .pointer (some ⟨B5, 0, none⟩) ∧ v6 = .pointer (some ⟨B6, 0, none⟩) ∧ (wx.cell? ⟨B5, 0, none⟩ = some (.int .i64 k.1) ∧ wx.cell? ⟨B5, 1, none⟩ = some (.int .i64 k.2) ∧ wx.cell? ⟨B6, 0, none⟩ = some (.int .i64 m.1) ∧ wx.cell? ⟨B6, 1, none⟩ = some (.int .i64 m.2)) ∧ Below w.heap.size w wx ∧ w.drawn ≤ wx.drawn
set_option maxHeartbeats 8000000 in
theorem closure_s (a b : Sp) (w : World) : Calls Try.prog 27 #[.agg #[.int .i64 a.1, .int .i64 a.2], .agg #[.int .i64 b.1, .int .i64 b.2]] w fun e w' => e = .returned (.int .i64 (cmpS (ky a) (ky b))) ∧ ∃ q os', w' = Go.Sort.grow (w.drewN q) os' := by
  obtain ⟨a1, a2⟩ := a
  obtain ⟨b1, b2⟩ := b
  obtain ⟨k, hk⟩ : ∃ k, ky (a1, a2) = k := ⟨_, rfl⟩
  obtain ⟨m, hm⟩ : ∃ m, ky (b1, b2) = m := ⟨_, rfl⟩
  have HA := hide (fun W => span_s a1 a2 k.1 k.2 (by rw [← hk]; rfl) (by rw [← hk]; rfl) W)
  have HB := hide (fun W => span_s b1 b2 m.1 m.2 (by rw [← hm]; rfl) (by rw [← hm]; rfl) W)
  rw [hk, hm]
  clear hk hm
  obtain ⟨k1, k2⟩ := k
  obtain ⟨m1, m2⟩ := m
  simp only at HA HB
  have HE := hide (show cmpS (k1, k2) (m1, m2) = if cmpI k1 m1 = 0 then cmpI k2 m2 else cmpI k1 m1 from rfl)
  generalize cmpS (k1, k2) (m1, m2) = r at *
  go_enter Try.func27, Try.ntmps27
  go_upto_region 1 with fail
  go_cut [5, 6] (fun v5 v6 wx => ClCut (k1, k2) (m1, m2) w v5 v6 wx)
  case first =>
    go_region_held3 (fun w' => w'.cell? ⟨w.heap.size, 0, none⟩ = some (.int .i64 a1) ∧ w'.cell? ⟨w.heap.size, 1, none⟩ = some (.int .i64 a2) ∧ w'.cell? ⟨w.heap.size + 1, 0, none⟩ = some (.int .i64 b1) ∧ w'.cell? ⟨w.heap.size + 1, 1, none⟩ = some (.int .i64 b2)) (((repeat' apply And.intro) <;> first | (go_simp; done) | (simp; done)))
      (first | (go_at_call 16; first | ((with_reducible refine (HA.out _).mono ?_); rintro e w1 ⟨rfl, rfl⟩) | ((with_reducible refine (HB.out _).mono ?_); rintro e w1 ⟨rfl, rfl⟩)))
    all_goals
      go_wp2_with fail
      go_meet
      refine ⟨_, _, rfl, rfl, ⟨by go_simp, by go_simp, by go_simp, by go_simp⟩, ?_, ?_⟩
      · repeat (first | exact bl_refl _ | refine bl_set ?_ (by simp) _ | refine bl_alloc ?_ _ | refine bl_drew ?_)
      · first | exact Nat.le_refl _ | exact Nat.le_succ _ | exact Nat.le_add_right _ _ | (show w.drawn ≤ w.drawn + 1 + 1; omega) | simp
  case rest =>
    obtain ⟨B5, B6, rfl, rfl, ⟨c1, c2, c3, c4⟩, hb, hd⟩ := hcut
    go_wp2
    go_region_held3 (fun w' => w'.cell? ⟨B5, 0, none⟩ = some (.int .i64 k1) ∧ w'.cell? ⟨B5, 1, none⟩ = some (.int .i64 k2) ∧ w'.cell? ⟨B6, 0, none⟩ = some (.int .i64 m1) ∧ w'.cell? ⟨B6, 1, none⟩ = some (.int .i64 m2)) (go_keep)
      (first | (go_at_call 29; refine (cmp_any _ _ _).mono ?_; rintro e w1 ⟨rfl, rfl⟩) | (go_at_call 28; refine (or_any _ (cmpI k1 m1) (cmpI k2 m2) r _ (by go_simp) (by go_simp) HE.out.symm).mono ?_; rintro e w1 ⟨rfl, rfl⟩))
    all_goals
      go_wp2
      go_ret
      refine ⟨rfl, grw_of ?_ ?_⟩
      · repeat (first | exact bl_refl _ | assumption | refine bl_set ?_ (by simp) _ | refine bl_alloc ?_ _ | refine bl_drew ?_ | refine bl_drewN ?_ _)
      · exact Nat.le_trans hd (by first | exact Nat.le_refl _ | exact Nat.le_succ _ | exact Nat.le_add_right _ _)
end Go.Proofs.Ytjkjgfgblfioeaa
