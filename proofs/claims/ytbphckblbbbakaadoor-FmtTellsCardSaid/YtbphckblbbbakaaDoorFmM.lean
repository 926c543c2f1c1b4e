/- Contract: may a part of a format be (fmts.may). No condition. -/
import Derived.Test.YtbphckblbbbakaaDoorFmArgs
import Derived.Test.YtbphckblbbbakaaDoorCasingB
import Derived.Deep.DrawnRows
namespace Go.Proofs.YtbphckblbbbakaaDoor
open Go.ChangeShapes Go.WideShapes Go.ChangeAt Go.RowKit
attribute [local go_sem ↓] Go.wp_at_zero Go.wp_at_succ
set_option maxRecDepth 100000
set_option linter.unusedVariables false
def eqF (k1 n1 c1 : Int) (t1 e1 : ByteArray) (k2 n2 c2 : Int) (t2 e2 : ByteArray) : Bool := decide (k1 = k2) && decide (n1 = n2) && decide (c1 = c2) && (t1.toList == t2.toList) && (e1.toList == e2.toList)
theorem eql_fm (k1 n1 c1 : Int) (t1 e1 : ByteArray) (k2 n2 c2 : Int) (t2 e2 : ByteArray) (w : World) : (binOp .eql 41 (.agg #[.int .i64 k1, .int .i64 n1, .int .i64 c1, .string t1, .string e1]) (.agg #[.int .i64 k2, .int .i64 n2, .int .i64 c2, .string t2, .string e2])).run Tryd.prog w = .ok (.bool (eqF k1 n1 c1 t1 e1 k2 n2 c2 t2 e2)) w := by
  go_simp
  unfold eqF
  by_cases h1 : k1 = k2 <;> by_cases h2 : n1 = n2 <;> by_cases h3 : c1 = c2 <;> by_cases h4 : t1.toList = t2.toList <;> by_cases h5 : e1.toList = e2.toList <;> simp [h1, h2, h3, h4, h5]
theorem eqge_fm (x y : Operand) (k1 n1 c1 : Int) (t1 e1 : ByteArray) (k2 n2 c2 : Int) (t2 e2 : ByteArray) (w : World) : (eqGuard .eql 41 x y (.agg #[.int .i64 k1, .int .i64 n1, .int .i64 c1, .string t1, .string e1]) (.agg #[.int .i64 k2, .int .i64 n2, .int .i64 c2, .string t2, .string e2])).run Tryd.prog w = .ok () w :=
  run_eqGuard_agg _ _ _ _ _ _ _ (by kernel_rfl)
def agF (d : Fm) : Value := .agg #[.int .i64 d.k, .int .i64 d.n, .int .i64 d.c, .string d.th, .string d.el]
def nilB : ByteArray := ⟨#[]⟩
/-- May a part of a format be. -/
def mayF (d : Fm) : Bool :=
  if d.n < 0 ∨ 9999 < d.n then false
  else if d.k = 0 then eqF d.k d.n d.c d.th d.el d.k 0 0 d.th nilB && !d.th.toList.isEmpty
  else if d.k = 1 then eqF d.k d.n d.c d.th d.el d.k d.n 0 nilB nilB
  else if d.k = 2 then eqF d.k d.n d.c d.th d.el d.k d.n d.c nilB nilB && !(nmL d.c).isEmpty
  else if d.k = 3 then eqF d.k d.n d.c d.th d.el d.k d.n 0 d.th nilB
  else if d.k = 4 then eqF d.k d.n d.c d.th d.el d.k d.n 0 nilB d.el
  else if d.k = 5 then d.c == 0
  else false
attribute [local go_sem] eqge_fm
attribute [local go_sem ↓] eql_fm
set_option maxHeartbeats 4000000 in
theorem fmay_any (d : Fm) (w : World) : Calls Tryd.prog 26 #[agF d] w fun e w' => e = .returned (.bool (mayF d)) ∧ Below w.heap.size w w' := by
  obtain ⟨k, n, c, th, el⟩ := d
  unfold agF
  dsimp only
  have hb := bl_alloc (bl_refl w) (.cells #[.int .i64 k, .int .i64 n, .int .i64 c, .string th, .string el] 41)
  obtain ⟨r, hr⟩ : ∃ r, mayF ⟨k, n, c, th, el⟩ = r := ⟨_, rfl⟩
  rw [hr]
  unfold mayF at hr
  dsimp only at hr
  by_cases h1 : n < 0
  · rw [if_pos (.inl h1)] at hr
    subst hr
    have g1 : decide (n < 0) = true := decide_eq_true h1
    clear h1
    go_enter Tryd.func26, Tryd.ntmps26
    go_wp2
    go_ret
    exact ⟨by first | rfl | simp, hb⟩
  by_cases h2 : 9999 < n
  · rw [if_pos (.inr h2)] at hr
    subst hr
    have g1 : decide (n < 0) = false := decide_eq_false h1
    have g2 : decide (9999 < n) = true := decide_eq_true h2
    clear h1 h2
    go_enter Tryd.func26, Tryd.ntmps26
    go_wp2
    go_ret
    exact ⟨by first | rfl | simp, hb⟩
  have g1 : decide (n < 0) = false := decide_eq_false h1
  have g2 : decide (9999 < n) = false := decide_eq_false h2
  rw [if_neg (by omega)] at hr
  clear h1 h2
  by_cases h : k = 0
  · rw [if_pos h] at hr
    have k0 : (k == 0) = true := beq_iff_eq.2 h
    obtain ⟨q, hq⟩ : ∃ q, eqF k n c th el k 0 0 th nilB = q := ⟨_, rfl⟩
    rw [hq] at hr
    unfold nilB at hq
    obtain ⟨z, hz⟩ : ∃ z, th.toList.isEmpty = z := ⟨_, rfl⟩
    rw [hz] at hr
    subst hr
    clear h 
    cases q
    · go_enter Tryd.func26, Tryd.ntmps26
      go_wp2
      go_ret
      exact ⟨by first | rfl | simp, hb⟩
    · cases z
      · go_enter Tryd.func26, Tryd.ntmps26
        go_wp2
        go_ret
        exact ⟨by first | rfl | simp, hb⟩
      · go_enter Tryd.func26, Tryd.ntmps26
        go_wp2
        go_ret
        exact ⟨by first | rfl | simp, hb⟩
  rw [if_neg h] at hr
  have hn0 := h
  clear h
  by_cases h : k = 1
  · have k0 : (k == 0) = false := beq_eq_false_iff_ne.2 (by omega)
    rw [if_pos h] at hr
    have k1 : (k == 1) = true := beq_iff_eq.2 h
    obtain ⟨q, hq⟩ : ∃ q, eqF k n c th el k n 0 nilB nilB = q := ⟨_, rfl⟩
    rw [hq] at hr
    unfold nilB at hq
    subst hr
    clear h hn0
    go_enter Tryd.func26, Tryd.ntmps26
    go_wp2
    go_ret
    exact ⟨by first | rfl | simp, hb⟩
  rw [if_neg h] at hr
  have hn1 := h
  clear h
  by_cases h : k = 2
  · have k0 : (k == 0) = false := beq_eq_false_iff_ne.2 (by omega)
    have k1 : (k == 1) = false := beq_eq_false_iff_ne.2 (by omega)
    rw [if_pos h] at hr
    have k2 : (k == 2) = true := beq_iff_eq.2 h
    obtain ⟨q, hq⟩ : ∃ q, eqF k n c th el k n c nilB nilB = q := ⟨_, rfl⟩
    rw [hq] at hr
    unfold nilB at hq
    have HNM := hide (fun W => name_any c W)
    obtain ⟨z, hz⟩ : ∃ z, (nmL c).isEmpty = z := ⟨_, rfl⟩
    rw [hz] at hr
    subst hr
    have hz2 : (⟨(nmL c).toArray⟩ : ByteArray).toList.isEmpty = z := by rw [← hz, Go.ByteArray.toList_eq]
    clear h hz hn0 hn1
    generalize (⟨(nmL c).toArray⟩ : ByteArray) = nm at *
    cases q
    · go_enter Tryd.func26, Tryd.ntmps26
      go_wp2
      go_ret
      exact ⟨by first | rfl | simp, hb⟩
    · go_enter Tryd.func26, Tryd.ntmps26
      go_wp2_with fail
      refine (HNM.out _).mono ?_
      rintro e w1 ⟨rfl, hw1⟩
      subst hw1
      cases z
      · go_wp2
        go_ret
        exact ⟨by first | rfl | simp, hb⟩
      · go_wp2
        go_ret
        exact ⟨by first | rfl | simp, hb⟩
  rw [if_neg h] at hr
  have hn2 := h
  clear h
  by_cases h : k = 3
  · have k0 : (k == 0) = false := beq_eq_false_iff_ne.2 (by omega)
    have k1 : (k == 1) = false := beq_eq_false_iff_ne.2 (by omega)
    have k2 : (k == 2) = false := beq_eq_false_iff_ne.2 (by omega)
    rw [if_pos h] at hr
    have k3 : (k == 3) = true := beq_iff_eq.2 h
    obtain ⟨q, hq⟩ : ∃ q, eqF k n c th el k n 0 th nilB = q := ⟨_, rfl⟩
    rw [hq] at hr
    unfold nilB at hq
    subst hr
    clear h hn0 hn1 hn2
    go_enter Tryd.func26, Tryd.ntmps26
    go_wp2
    go_ret
    exact ⟨by first | rfl | simp, hb⟩
  rw [if_neg h] at hr
  have hn3 := h
  clear h
  by_cases h : k = 4
  · have k0 : (k == 0) = false := beq_eq_false_iff_ne.2 (by omega)
    have k1 : (k == 1) = false := beq_eq_false_iff_ne.2 (by omega)
    have k2 : (k == 2) = false := beq_eq_false_iff_ne.2 (by omega)
    have k3 : (k == 3) = false := beq_eq_false_iff_ne.2 (by omega)
    rw [if_pos h] at hr
    have k4 : (k == 4) = true := beq_iff_eq.2 h
    obtain ⟨q, hq⟩ : ∃ q, eqF k n c th el k n 0 nilB el = q := ⟨_, rfl⟩
    rw [hq] at hr
    unfold nilB at hq
    subst hr
    clear h hn0 hn1 hn2 hn3
    go_enter Tryd.func26, Tryd.ntmps26
    go_wp2
    go_ret
    exact ⟨by first | rfl | simp, hb⟩
  rw [if_neg h] at hr
  have hn4 := h
  clear h
  by_cases h : k = 5
  · have k0 : (k == 0) = false := beq_eq_false_iff_ne.2 (by omega)
    have k1 : (k == 1) = false := beq_eq_false_iff_ne.2 (by omega)
    have k2 : (k == 2) = false := beq_eq_false_iff_ne.2 (by omega)
    have k3 : (k == 3) = false := beq_eq_false_iff_ne.2 (by omega)
    have k4 : (k == 4) = false := beq_eq_false_iff_ne.2 (by omega)
    rw [if_pos h] at hr
    have k5 : (k == 5) = true := beq_iff_eq.2 h
    obtain ⟨q, hq⟩ : ∃ q, (c == 0) = q := ⟨_, rfl⟩
    rw [hq] at hr
    subst hr
    clear h hn0 hn1 hn2 hn3 hn4
    go_enter Tryd.func26, Tryd.ntmps26
    go_wp2
    go_ret
    exact ⟨by first | rfl | simp, hb⟩
  rw [if_neg h] at hr
  have hn5 := h
  clear h
  have k0 : (k == 0) = false := beq_eq_false_iff_ne.2 hn0
  have k1 : (k == 1) = false := beq_eq_false_iff_ne.2 hn1
  have k2 : (k == 2) = false := beq_eq_false_iff_ne.2 hn2
  have k3 : (k == 3) = false := beq_eq_false_iff_ne.2 hn3
  have k4 : (k == 4) = false := beq_eq_false_iff_ne.2 hn4
  have k5 : (k == 5) = false := beq_eq_false_iff_ne.2 hn5
  subst hr
  clear hn0 hn1 hn2 hn3 hn4 hn5
  go_enter Tryd.func26, Tryd.ntmps26
  go_wp2
  go_ret
  exact ⟨by first | rfl | simp, hb⟩
end Go.Proofs.YtbphckblbbbakaaDoor
