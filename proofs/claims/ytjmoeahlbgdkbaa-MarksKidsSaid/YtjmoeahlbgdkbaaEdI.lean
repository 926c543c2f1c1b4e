/- Contracts: the law's turned and first; edits as arguments, held against one another. Conditions: short lists. -/
import Derived.Test.YtjmoeahlbgdkbaaEdH
import Derived.Test.YtjmoeahlbgdkbaaEdW
import Derived.Test.YtjmoeahlbgdkbaaSpanArgs
import Derived.Test.YtjmoeahlbgdkbaaLow
import Derived.Deep.RegionHeld3
import Derived.Deep.Fields
namespace Go.Proofs.Ytjmoeahlbgdkbaa
open Go.ChangeShapes Go.WideShapes Go.ChangeAt Go.RowKit Go.Deep
open SpanM EdM
attribute [local go_sem ↓] Go.wp_at_zero Go.wp_at_succ
attribute [local go_sem] later_cell later_frozen
theorem edat_src {w : World} {a : Option Addr} {n c : Nat} {l : List Ed} (h : EdAt w (.slice a n c) l) : Src w 3 a n (flatE l) := by
  have hn : n = l.length := by
    rcases h with ⟨h0, rfl⟩ | ⟨x, c', h0, _⟩
    · cases h0; rfl
    · cases h0; rfl
  subst hn
  refine ⟨flatE_len l, ?_⟩
  by_cases hp : 0 < l.length
  · right
    rcases h with ⟨h0, rfl⟩ | ⟨x, c', h0, h1, h2, h3⟩
    · simp at hp
    · cases h0
      refine ⟨x, rfl, fun j u hu => ?_⟩
      have hj : j < l.length * 3 := by
        have := (List.getElem?_eq_some_iff.1 hu).1
        rwa [flatE_len] at this
      have hq : j / 3 < l.length := by omega
      have hf := flatE_at l (j / 3) hq
      have hc := h3 (j / 3) hq
      have hmod : j % 3 = 0 ∨ j % 3 = 1 ∨ j % 3 = 2 := by omega
      rcases hmod with hh | hh | hh
      · have ht : j / 3 * 3 = j := by omega
        rw [ht] at hf hc
        rw [hu] at hf
        rw [Option.some.inj hf.1]; exact hc.1
      · have ht : j / 3 * 3 + 1 = j := by omega
        rw [ht] at hf hc
        rw [hu] at hf
        rw [Option.some.inj hf.2.1]; exact hc.2.1
      · have ht : j / 3 * 3 + 2 = j := by omega
        rw [ht] at hf hc
        rw [hu] at hf
        rw [Option.some.inj hf.2.2]; exact hc.2.2
  · exact .inl (by omega)
/-- Turned by some places. -/
def turn (l : List Ed) (k : Nat) : List Ed := l.drop k ++ l.take k
theorem turn_perm (l : List Ed) (k : Nat) : (turn l k).Perm l := by
  unfold turn
  exact List.perm_append_comm.trans (by rw [List.take_append_drop])
theorem turn_len (l : List Ed) (k : Nat) : (turn l k).length = l.length := (turn_perm l k).length_eq
def TurnPost (l : List Ed) (w : World) (e : Ending) (w' : World) : Prop := ∃ v' k, e = .returned v' ∧ k ≤ l.length ∧ Below w.heap.size w w' ∧ w'.ownsRow w.heap.size 61 3 v' l.length (flatE (turn l k))
end Go.Proofs.Ytjmoeahlbgdkbaa
