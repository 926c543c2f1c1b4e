/- Plain facts on a full table: what is dropped of it. No program; no condition. -/
import Derived.Test.YtjmoeahlbgdkbaaTabK
namespace Go.Proofs.Ytjmoeahlbgdkbaa
open Go.RowKit
def OkF (L : List Mk) : Prop := ∀ j (h : j < L.length), L[j].id = (j : Int) + 1 ∧ L[j].p = 0
theorem okF_snoc {L : List Mk} (h : OkF L) (f t : Int) (b c : Bool) : OkF (L ++ [⟨(L.length : Int) + 1, f, t, b, c, 0⟩]) := by
  intro j hj
  rw [List.getElem_append]
  split
  · next h1 => exact h j h1
  · next h1 =>
    have : j = L.length := by simp at hj; omega
    subst this
    simp
theorem okF_rise {L : List Mk} (h : OkF L) : RiseM L := by
  unfold RiseM
  rw [List.pairwise_iff_getElem]
  intro i j hi hj hij
  rw [(h i hi).1, (h j hj).1]; omega
theorem okF_mem {L : List Mk} (h : OkF L) : ∀ r ∈ L, 1 ≤ r.id ∧ r.id ≤ L.length ∧ r.p = 0 := fun r hr => by
  obtain ⟨j, hj, rfl⟩ := List.getElem_of_mem hr
  have := h j hj
  exact ⟨by omega, by omega, this.2⟩
theorem fold_drop (x : Int) (hx : x ≠ 0) (l : List Mk) : ∀ (s : List Int × List Mk), (∀ y, s.1.contains y = decide (y = x)) → (∀ r ∈ l, r.p = 0) → (l.foldl stepD s).2 = s.2 ++ l.filter (fun r => decide (r.id ≠ x)) := by
  induction l with
  | nil => intro s _ _; simp
  | cons r q ih =>
    intro s hs hp
    have hrp := hp r (by simp)
    rw [List.foldl_cons]
    by_cases hid : r.id = x
    · have e1 : stepD s r = (s.1 ++ [r.id], s.2) := by
        unfold stepD
        rw [if_pos (by rw [hs r.id]; simp [hid])]
      rw [e1, ih _ (fun y => by
        show (s.1 ++ [r.id]).contains y = _
        rw [List.contains_append, hs y, hid]
        by_cases h : y = x <;> simp [h]) (fun z hz => hp z (by simp [hz]))]
      simp [hid]
    · have e1 : stepD s r = (s.1, s.2 ++ [r]) := by
        unfold stepD
        rw [if_neg (by rw [hs r.id, hs r.p, hrp]; simp [hid]; omega)]
      rw [e1, ih (s.1, s.2 ++ [r]) hs (fun z hz => hp z (by simp [hz]))]
      simp [hid]
theorem drop_filter (x : Int) (hx : x ≠ 0) (l : List Mk) (hp : ∀ r ∈ l, r.p = 0) : dropM x l = l.filter (fun r => decide (r.id ≠ x)) := by
  unfold dropM foldD
  rw [fold_drop x hx l _ (fun y => by by_cases h : y = x <;> simp [h]) hp]
  simp
theorem drop_len {L : List Mk} (h : OkF L) (i : Nat) (hi : i < L.length) : (dropM ((i : Int) + 1) L).length + 1 = L.length := by
  rw [drop_filter _ (by omega) L (fun r hr => (okF_mem h r hr).2.2)]
  have e : L = L.take i ++ L[i] :: L.drop (i + 1) := by rw [← List.drop_eq_getElem_cons hi, List.take_append_drop]
  have h1 : (L.take i).filter (fun r => decide (r.id ≠ (i : Int) + 1)) = L.take i := by
    rw [List.filter_eq_self]
    intro r hr
    obtain ⟨j, hj, rfl⟩ := List.getElem_of_mem hr
    rw [List.length_take] at hj
    rw [List.getElem_take, (h j (by omega)).1]
    simp; omega
  have h2 : (L.drop (i + 1)).filter (fun r => decide (r.id ≠ (i : Int) + 1)) = L.drop (i + 1) := by
    rw [List.filter_eq_self]
    intro r hr
    obtain ⟨j, hj, rfl⟩ := List.getElem_of_mem hr
    rw [List.length_drop] at hj
    rw [List.getElem_drop, (h (i + 1 + j) (by omega)).1]
    simp; omega
  have h3 : (L[i] :: L.drop (i + 1)).filter (fun r => decide (r.id ≠ (i : Int) + 1)) = L.drop (i + 1) := by
    rw [List.filter_cons, if_neg (by rw [(h i hi).1]; simp), h2]
  have h4 : L.filter (fun r => decide (r.id ≠ (i : Int) + 1)) = L.take i ++ L.drop (i + 1) := by
    conv => lhs; rw [e]
    rw [List.filter_append, h1, h3]
  rw [h4, List.length_append, List.length_take, List.length_drop]
  omega
end Go.Proofs.Ytjmoeahlbgdkbaa
