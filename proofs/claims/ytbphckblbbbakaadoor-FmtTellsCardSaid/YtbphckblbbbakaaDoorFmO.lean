/- Contract: what a part of a format makes (fmts.apply). Condition: a text that is not too long. -/
import Derived.Test.YtbphckblbbbakaaDoorFmM
namespace Go.Proofs.YtbphckblbbbakaaDoor
open Go.ChangeShapes Go.WideShapes Go.ChangeAt Go.RowKit
attribute [local go_sem ↓] Go.wp_at_zero Go.wp_at_succ
set_option maxRecDepth 100000
set_option linter.unusedVariables false
def trnF (p : ByteArray) (c : Int) : ByteArray := ⟨(turnL c p.data.toList).toArray⟩
/-- What a part of a format makes of what its number has. -/
def apF1 (d : Fm) (p : ByteArray) : ByteArray :=
  if d.k = 0 then d.th else if d.k = 2 then trnF p d.c else if d.k = 3 ∨ d.k = 5 then (if p.toList.isEmpty then d.el else d.th) else if d.k = 4 then (if p.toList.isEmpty then d.el else p) else p
set_option maxHeartbeats 4000000 in
theorem fapply_any (d : Fm) (p : ByteArray) (w : World) (hp : p.size ≤ 1000) : Calls Tryd.prog 27 #[agF d, .string p] w fun e w' => e = .returned (.string (apF1 d p)) ∧ Below w.heap.size w w' := by
  obtain ⟨k, n, c, th, el⟩ := d
  unfold agF
  dsimp only
  have hb := bl_alloc (bl_refl w) (.cells #[.int .i64 k, .int .i64 n, .int .i64 c, .string th, .string el] 41)
  obtain ⟨r, hr⟩ : ∃ r, apF1 ⟨k, n, c, th, el⟩ p = r := ⟨_, rfl⟩
  rw [hr]
  unfold apF1 at hr
  dsimp only at hr
  by_cases h : k = 0
  · rw [if_pos h] at hr
    subst hr
    have k0 : (k == 0) = true := beq_iff_eq.2 h
    clear h
    go_enter Tryd.func27, Tryd.ntmps27
    go_wp2
    go_ret
    exact ⟨rfl, hb⟩
  rw [if_neg h] at hr
  have hn0 := h
  clear h
  by_cases h : k = 2
  · rw [if_pos h] at hr
    have HT := hide (fun W => turn_any p c W (by omega))
    unfold trnF at hr
    rw [hr] at HT
    have k0 : (k == 0) = false := beq_eq_false_iff_ne.2 (by omega)
    have k2 : (k == 2) = true := beq_iff_eq.2 h
    clear h hn0 hr
    go_enter Tryd.func27, Tryd.ntmps27
    go_wp2_with fail
    refine (HT.out _).mono ?_
    rintro e w1 ⟨rfl, hb1⟩
    go_wp2
    go_ret
    exact ⟨rfl, bl_trans hb hb1⟩
  rw [if_neg h] at hr
  have hn2 := h
  clear h
  obtain ⟨z, hz⟩ : ∃ z, p.toList.isEmpty = z := ⟨_, rfl⟩
  rw [hz] at hr
  by_cases h : k = 3
  · rw [if_pos (.inl h)] at hr
    have k0 : (k == 0) = false := beq_eq_false_iff_ne.2 (by omega)
    have k2 : (k == 2) = false := beq_eq_false_iff_ne.2 (by omega)
    have k3 : (k == 3) = true := beq_iff_eq.2 h
    clear h hn0 hn2
    cases z
    · rw [if_neg (by simp)] at hr
      subst hr
      go_enter Tryd.func27, Tryd.ntmps27
      go_wp2
      go_ret
      exact ⟨rfl, hb⟩
    · rw [if_pos rfl] at hr
      subst hr
      go_enter Tryd.func27, Tryd.ntmps27
      go_wp2
      go_ret
      exact ⟨rfl, hb⟩
  by_cases h5 : k = 5
  · rw [if_pos (.inr h5)] at hr
    have k0 : (k == 0) = false := beq_eq_false_iff_ne.2 (by omega)
    have k2 : (k == 2) = false := beq_eq_false_iff_ne.2 (by omega)
    have k3 : (k == 3) = false := beq_eq_false_iff_ne.2 (by omega)
    have k5 : (k == 5) = true := beq_iff_eq.2 h5
    clear h h5 hn0 hn2
    cases z
    · rw [if_neg (by simp)] at hr
      subst hr
      go_enter Tryd.func27, Tryd.ntmps27
      go_wp2
      go_ret
      exact ⟨rfl, hb⟩
    · rw [if_pos rfl] at hr
      subst hr
      go_enter Tryd.func27, Tryd.ntmps27
      go_wp2
      go_ret
      exact ⟨rfl, hb⟩
  rw [if_neg (by omega)] at hr
  have hn3 := h
  clear h
  by_cases h : k = 4
  · rw [if_pos h] at hr
    have k0 : (k == 0) = false := beq_eq_false_iff_ne.2 (by omega)
    have k2 : (k == 2) = false := beq_eq_false_iff_ne.2 (by omega)
    have k3 : (k == 3) = false := beq_eq_false_iff_ne.2 (by omega)
    have k5 : (k == 5) = false := beq_eq_false_iff_ne.2 (by omega)
    have k4 : (k == 4) = true := beq_iff_eq.2 h
    clear h h5 hn0 hn2 hn3
    cases z
    · rw [if_neg (by simp)] at hr
      subst hr
      go_enter Tryd.func27, Tryd.ntmps27
      go_wp2
      go_ret
      exact ⟨rfl, hb⟩
    · rw [if_pos rfl] at hr
      subst hr
      go_enter Tryd.func27, Tryd.ntmps27
      go_wp2
      go_ret
      exact ⟨rfl, hb⟩
  rw [if_neg h] at hr
  subst hr
  have k0 : (k == 0) = false := beq_eq_false_iff_ne.2 (by omega)
  have k2 : (k == 2) = false := beq_eq_false_iff_ne.2 (by omega)
  have k3 : (k == 3) = false := beq_eq_false_iff_ne.2 (by omega)
  have k5 : (k == 5) = false := beq_eq_false_iff_ne.2 (by omega)
  have k4 : (k == 4) = false := beq_eq_false_iff_ne.2 (by omega)
  clear h h5 hn0 hn2 hn3 hz
  go_enter Tryd.func27, Tryd.ntmps27
  go_wp2
  go_ret
  exact ⟨rfl, hb⟩
end Go.Proofs.YtbphckblbbbakaaDoor
