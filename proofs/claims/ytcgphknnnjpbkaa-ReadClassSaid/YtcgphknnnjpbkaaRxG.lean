/- Contract: the laws' own bound on a tree (gimletlaw0.Rx). Condition: a bound that is not too big. -/
import Derived.Test.YtcgphknnnjpbkaaRxM
namespace Go.Proofs.Ytcgphknnnjpbkaa
open Go.ChangeShapes Go.WideShapes Go.ChangeAt Go.RowKit
open SetM
attribute [local go_sem ↓] Go.wp_at_zero Go.wp_at_succ
set_option maxRecDepth 100000
set_option linter.unusedVariables false
/-- How big rows, trees are. -/
def rwS : List Rw → Nat
  | [] => 0
  | s :: l => 1 + s.1.size + s.2.size + rwS l
mutual
  def sM : Rt → Nat
    | .mk _ c _ _ r _ _ _ _ l => 1 + c.size + rwS r + sL l
  def sL : List Rt → Nat
    | [] => 0
    | t :: l => sM t + sL l
end
theorem sM_eq (t : Rt) : sM t = 1 + t.ch.size + rwS t.rows + sL t.kids := by cases t; rw [sM]; rfl
theorem rwS_app (l m : List Rw) : rwS (l ++ m) = rwS l + rwS m := by
  induction l with
  | nil => simp [rwS]
  | cons a l ih => simp only [List.cons_append, rwS, ih]; omega
theorem sL_app (l m : List Rt) : sL (l ++ m) = sL l + sL m := by
  induction l with
  | nil => simp [sL]
  | cons a l ih => simp only [List.cons_append, sL, ih]; omega
theorem rwS_snoc (l : List Rw) (k : Nat) (h : k < l.length) : rwS (l.take (k + 1)) = rwS (l.take k) + (1 + l[k].1.size + l[k].2.size) := by
  rw [List.take_succ_eq_append_getElem h, rwS_app]; simp [rwS]
theorem sL_snoc (l : List Rt) (k : Nat) (h : k < l.length) : sL (l.take (k + 1)) = sL (l.take k) + sM l[k] := by
  rw [List.take_succ_eq_append_getElem h, sL_app]; simp [sL]
theorem sL_kid (l : List Rt) (k : Nat) (h : k < l.length) : sM l[k] ≤ sL l := by
  have h1 := sL_snoc l k h
  have h2 : sL l = sL (l.take (k + 1)) + sL (l.drop (k + 1)) := by rw [← sL_app, List.take_append_drop]
  omega
theorem rwS_len (l : List Rw) : l.length ≤ rwS l := by
  induction l with
  | nil => simp
  | cons a l ih => rw [rwS, List.length_cons]; omega
theorem rwS_in (l : List Rw) : ∀ s ∈ l, s.1.size + s.2.size ≤ rwS l := by
  induction l with
  | nil => intro s hs; cases hs
  | cons a l ih =>
    intro s hs
    rw [rwS]
    rcases List.mem_cons.1 hs with rfl | hs
    · omega
    · have := ih s hs; omega
mutual
  theorem pM_sM : ∀ t, pM t ≤ sM t
    | .mk k _ _ _ _ _ _ _ _ l => by rw [pM, sM]; have := pL_sL l; omega
  theorem pL_sL : ∀ l, pL l ≤ sL l
    | [] => by simp [pL]
    | t :: l => by rw [pL, sL]; have := pM_sM t; have := pL_sL l; omega
end
def GuPost (t : Rt) (n : Int) (w : World) (e : Ending) (w' : World) : Prop := ∃ r : Int, e = .returned (.int .i64 r) ∧ -1000 ≤ r ∧ r ≤ n ∧ Hid (0 ≤ r → r + sM t ≤ n) ∧ Below w.heap.size w w'
end Go.Proofs.Ytcgphknnnjpbkaa
