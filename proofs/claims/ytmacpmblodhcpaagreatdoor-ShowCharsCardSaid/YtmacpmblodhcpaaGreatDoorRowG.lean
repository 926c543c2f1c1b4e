/- Contract of the reference's Union of rows. No condition but short texts and slices. -/
import Derived.Test.YtmacpmblodhcpaaGreatDoorRowF
import Derived.Test.YtmacpmblodhcpaaGreatDoorApp
namespace Go.Proofs.YtmacpmblodhcpaaGreatDoor
open Go.ChangeShapes Go.WideShapes Go.ChangeAt Go.RowKit
open SetM
attribute [local go_sem ↓] Go.wp_at_zero Go.wp_at_succ
attribute [local go_sem] later_cell later_frozen lt_bl le_bl max_str
def insF (s : Rw) (O : List Rw) (k : Nat) : List Rw := O.take k ++ [s] ++ O.drop k
theorem insF_perm (s : Rw) (O : List Rw) (k : Nat) : (insF s O k).Perm (O ++ [s]) := by
  unfold insF
  have h1 : (O.take k ++ [s] ++ O.drop k).Perm (O.take k ++ (O.drop k ++ [s])) := by
    rw [List.append_assoc]
    exact List.Perm.append_left _ List.perm_append_comm
  rw [← List.append_assoc, List.take_append_drop] at h1
  exact h1
theorem insF_len (s : Rw) (O : List Rw) (k : Nat) : (insF s O k).length = O.length + 1 := by
  have := (insF_perm s O k).length_eq; simpa using this
theorem insF_sorted (s : Rw) (O : List Rw) (k : Nat) (hs : Sorted O) (hd : ∀ x ∈ O.drop k, less s x = true) (ht : ∀ x ∈ O.take k, le x s) : Sorted (insF s O k) := by
  unfold insF Sorted
  have hO := hs
  unfold Sorted at hO
  rw [← List.take_append_drop k O] at hO
  obtain ⟨h1, h2, h3⟩ := List.pairwise_append.1 hO
  refine List.pairwise_append.2 ⟨List.pairwise_append.2 ⟨h1, List.pairwise_singleton _ _, fun a ha b hb => ?_⟩, h2, fun a ha b hb => ?_⟩
  · rw [List.mem_singleton] at hb; subst hb; exact ht a ha
  · rcases List.mem_append.1 ha with ha | ha
    · exact h3 a ha b hb
    · rw [List.mem_singleton] at ha; subst ha; exact less_asym _ _ (hd b hb)
theorem take_le (s : Rw) (O : List Rw) (j : Nat) (hj : j < O.length) (hs : Sorted O) (h : less s O[j] = false) : ∀ x ∈ O.take (j + 1), le x s := by
  intro x hx
  have h1 : le O[j] s := h
  obtain ⟨i, hi, rfl⟩ := List.getElem_of_mem hx
  rw [List.getElem_take]
  have hi' : i < j + 1 := by simp at hi; omega
  by_cases e : i = j
  · subst e; exact h1
  · exact le_trans ((List.pairwise_iff_getElem.1 hs) i j (by omega) hj (by omega)) h1
theorem flatR_drop (l : List Rw) (k : Nat) : (flatR l).drop (k * 2) = flatR (l.drop k) := by
  have h1 := flatR_app (l.take k) (l.drop k)
  rw [List.take_append_drop] at h1
  have h2 := flatR_take l k
  by_cases hk : k ≤ l.length
  · rw [h1, List.drop_left' (by rw [flatR_len, List.length_take]; omega)]
  · rw [List.drop_of_length_le (by rw [flatR_len]; omega), List.drop_of_length_le (by omega)]; rfl
def RInvU (l : List Rw) (w : World) (v i : Value) (wr : World) : Prop :=
  ∃ (k n : Nat) (O : List Rw), i = .int .i64 k ∧ k ≤ l.length ∧ Hid (O.Perm (okU (l.take k))) ∧ Hid (Sorted O) ∧ n ≤ k ∧ Hid (O.length = n) ∧ wr.ownsRow w.heap.size 42 2 v n (flatR O) ∧ Below w.heap.size w wr
def MInv (S : List Rw) (w1 : World) (v i : Value) (wr : World) : Prop :=
  ∃ (k m : Nat) (acc : List Rw), i = .int .i64 k ∧ k ≤ S.length ∧ Hid (uniF (S.take k) = acc) ∧ m ≤ k ∧ Hid (acc.length = m) ∧ wr.ownsRow w1.heap.size 42 2 v m (flatR acc) ∧ Below w1.heap.size w1 wr
end Go.Proofs.YtmacpmblodhcpaaGreatDoor
