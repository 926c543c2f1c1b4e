/- Selections put together (plain mathematics): of one way they stay of one way. -/
import Derived.Test.YtjkjgfgblfioeaaSelE
namespace Go.Proofs.Ytjkjgfgblfioeaa
open SpanM SelM
/-- Which way a selection that is not empty goes: back. -/
def Way (back : Bool) (s : Sp) : Prop := if back = true then s.2 < s.1 else s.1 < s.2
theorem cov_way (back : Bool) (a b : Sp) (ha : Way back a) : Way back (covL a b) := by
  obtain ⟨a1, a2⟩ := a
  obtain ⟨b1, b2⟩ := b
  unfold Way covL ky at *
  cases back
  · simp only [Bool.false_eq_true, if_false] at *
    rw [if_neg (by omega)]
    simp only
    omega
  · simp only [if_true] at *
    rw [if_pos (by omega)]
    simp only
    omega
theorem step_way (back : Bool) (acc : List Sp) (s : Sp) (h : ∀ x ∈ acc, Way back x) (hs : Way back s) : ∀ x ∈ stepL acc s, Way back x := by
  rcases List.eq_nil_or_concat acc with rfl | ⟨a, t, rfl⟩
  · intro x hx
    rw [stL_nil] at hx
    obtain rfl : x = s := by simpa using hx
    exact hs
  · rw [List.concat_eq_append] at *
    intro x hx
    cases ht : touch (ky t) (ky s)
    · rw [stL_new a t s ht] at hx
      rcases List.mem_append.1 hx with hx | hx
      · exact h x hx
      · obtain rfl : x = s := by simpa using hx
        exact hs
    · rw [stL_on a t s ht] at hx
      rcases List.mem_append.1 hx with hx | hx
      · exact h x (List.mem_append_left _ hx)
      · obtain rfl : x = covL t s := by simpa using hx
        exact cov_way back t s (h t (by simp))
theorem mrg_way (back : Bool) (l : List Sp) (h : ∀ x ∈ l, Way back x) : ∀ x ∈ mrgF l, Way back x := by
  have key : ∀ (l acc : List Sp), (∀ x ∈ acc, Way back x) → (∀ x ∈ l, Way back x) → ∀ x ∈ l.foldl stepL acc, Way back x := by
    intro l
    induction l with
    | nil => intro acc ha _; exact ha
    | cons s r ih => intro acc ha hl; exact ih _ (step_way back acc s ha (hl s (by simp))) (fun x hx => hl x (List.mem_cons_of_mem _ hx))
  exact key l [] (by simp) h
theorem norm_way (back : Bool) (l : List Sp) (h : ∀ x ∈ l, Way back x) : ∀ x ∈ mrgF (sortL l), Way back x :=
  mrg_way back _ (fun x hx => h x ((sortL_perm l).mem_iff.1 hx))
/-- Moved along. -/
def alongS (k : Int) (s : Sp) : Sp := (s.1 + k, s.2 + k)
theorem ky_along (k : Int) (s : Sp) : ky (alongS k s) = alongS k (ky s) := by
  obtain ⟨a, b⟩ := s
  unfold ky alongS
  simp only [Prod.mk.injEq]
  constructor <;> omega
theorem cov_along (k : Int) (a b : Sp) : covL (alongS k a) (alongS k b) = alongS k (covL a b) := by
  obtain ⟨a1, a2⟩ := a
  obtain ⟨b1, b2⟩ := b
  unfold covL
  rw [ky_along, ky_along]
  unfold alongS ky
  by_cases h : a2 < a1
  · rw [if_pos (show ((a1 + k, a2 + k) : Sp).2 < ((a1 + k, a2 + k) : Sp).1 by show a2 + k < a1 + k; omega), if_pos (show ((a1, a2) : Sp).2 < ((a1, a2) : Sp).1 from h)]
    refine Prod.ext ?_ ?_ <;> dsimp only <;> omega
  · rw [if_neg (show ¬ ((a1 + k, a2 + k) : Sp).2 < ((a1 + k, a2 + k) : Sp).1 by show ¬ a2 + k < a1 + k; omega), if_neg (show ¬ ((a1, a2) : Sp).2 < ((a1, a2) : Sp).1 from h)]
    refine Prod.ext ?_ ?_ <;> dsimp only <;> omega
end Go.Proofs.Ytjkjgfgblfioeaa
