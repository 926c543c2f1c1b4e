/- Contract: gimletref13.may, May. Condition: a tree that is not too big. -/
import Derived.Test.YtcgphknnnjpbkaaRyE
namespace Go.Proofs.Ytcgphknnnjpbkaa
open Go.ChangeShapes Go.WideShapes Go.ChangeAt Go.RowKit
open SetM
attribute [local go_sem ↓] Go.wp_at_zero Go.wp_at_succ
set_option maxRecDepth 100000
set_option linter.unusedVariables false
set_option linter.unusedSimpArgs false
theorem all_take_no (p : Rt → Bool) (l : List Rt) (i : Nat) (h : i < l.length) (hn : p l[i] = false) : l.all p = false := by
  cases ha : l.all p
  · rfl
  · have := List.all_eq_true.1 ha l[i] (List.getElem_mem h)
    rw [hn] at this; cases this
theorem all_take_on (p : Rt → Bool) (l : List Rt) (i : Nat) (h : i < l.length) (ha : (l.take i).all p = true) (hn : p l[i] = true) : (l.take (i + 1)).all p = true := by
  rw [List.take_succ_eq_append_getElem h, List.all_append, ha]; simp [hn]
theorem repB_eq (l : List Rt) (mi ma : Int) (b : Bool) : repB l.length mi ma (b && atomB (l.headD rt0).k) = (rngB mi ma && b && (decide (l.length = 1) && l.all (fun t => atomB t.k))) := by
  unfold repB rngB
  by_cases h : l.length = 1
  · obtain ⟨a, rfl⟩ := List.length_eq_one_iff.1 h
    simp [Bool.and_assoc]
  · simp [h]
end Go.Proofs.Ytcgphknnnjpbkaa
