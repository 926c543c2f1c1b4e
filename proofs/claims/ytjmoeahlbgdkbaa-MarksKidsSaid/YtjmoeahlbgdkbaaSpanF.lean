/- Contract of Union: stretches put together. No condition but short slices. -/
import Derived.Test.YtjmoeahlbgdkbaaSpanE
import Derived.Deep.RegionHeld3
import Derived.RegionTactic
namespace Go.Proofs.Ytjmoeahlbgdkbaa
open Go.ChangeShapes Go.WideShapes Go.ChangeAt Go.RowKit
open SpanM
attribute [local go_sem ↓] Go.wp_at_zero Go.wp_at_succ
attribute [local go_sem] later_cell later_frozen
theorem uniF_snoc (l : List Sp) (k : Nat) (h : k < l.length) : uniF (l.take (k + 1)) = stepU (uniF (l.take k)) l[k] := by
  unfold uniF
  rw [List.take_succ_eq_append_getElem h, List.foldl_append]
  rfl
theorem step_skip (acc : List Sp) (s : Sp) (h : s.2 < s.1) : stepU acc s = acc := by unfold stepU; rw [if_pos h]
theorem step_nil (s : Sp) (h : ¬ s.2 < s.1) : stepU [] s = [s] := by unfold stepU; rw [if_neg (by omega)]; rfl
theorem step_on (a0 : List Sp) (t s : Sp) (h : ¬ s.2 < s.1) (ht : touch t s = true) : stepU (a0 ++ [t]) s = a0 ++ [(t.1, max t.2 s.2)] := by
  unfold stepU; rw [if_neg (by omega)]; simp [ht]
theorem step_new (a0 : List Sp) (t s : Sp) (h : ¬ s.2 < s.1) (ht : touch t s = false) : stepU (a0 ++ [t]) s = a0 ++ [t] ++ [s] := by
  unfold stepU; rw [if_neg (by omega)]; simp [ht]
theorem step_len (acc : List Sp) (s : Sp) : (stepU acc s).length ≤ acc.length + 1 := by
  by_cases h : s.2 < s.1
  · rw [step_skip _ _ h]; omega
  · rcases List.eq_nil_or_concat acc with rfl | ⟨a0, t, rfl⟩
    · rw [step_nil _ h]; simp
    · rw [List.concat_eq_append]
      cases ht : touch t s
      · rw [step_new _ _ _ h ht]; simp
      · rw [step_on _ _ _ h ht]; simp
theorem uniF_len (l : List Sp) (k : Nat) : (uniF (l.take k)).length ≤ k := by
  induction k with
  | zero => simp [uniF]
  | succ k ih =>
    by_cases h : k < l.length
    · rw [uniF_snoc l k h]; have := step_len (uniF (l.take k)) l[k]; omega
    · rw [List.take_of_length_le (by omega)]
      rw [List.take_of_length_le (by omega)] at ih
      omega
/-- What a round of Union's loop keeps. -/
def UInv (S : List Sp) (w1 : World) (v i : Value) (wr : World) : Prop :=
  ∃ k : Nat, i = .int .i64 k ∧ k ≤ S.length ∧ wr.ownsRow w1.heap.size 41 2 v (uniF (S.take k)).length (flat (uniF (S.take k))) ∧ Below w1.heap.size w1 wr
end Go.Proofs.Ytjmoeahlbgdkbaa
