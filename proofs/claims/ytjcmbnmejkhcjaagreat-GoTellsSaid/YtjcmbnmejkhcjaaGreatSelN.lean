/- Plain facts on selections in order: put in one by one from behind, as the library's insertion sort does. No program; no condition. -/
import Derived.Test.YtjcmbnmejkhcjaaGreatSpanM
import Derived.Sort.Defs
import Derived.Sort.WalkA
namespace Go.Proofs.YtjcmbnmejkhcjaaGreat.SelM
open SpanM
def kyS (s : Sp) : Sp := (min s.1 s.2, max s.1 s.2)
def lessL (a b : Sp) : Bool := less (kyS a) (kyS b)
theorem less_iff (a b : Sp) : less a b = true ↔ a.1 < b.1 ∨ (a.1 = b.1 ∧ a.2 < b.2) := by unfold less; simp
theorem less_no (a b : Sp) : less a b = false ↔ le b a := by
  rw [← Bool.not_eq_true, less_iff]; unfold le; omega
def posB (s : Sp) (O : List Sp) : Nat → Nat
  | 0 => 0
  | k + 1 => if lessL s O[k]! then posB s O k else k + 1
def insB (s : Sp) (O : List Sp) : List Sp := O.take (posB s O O.length) ++ s :: O.drop (posB s O O.length)
def sortL (l : List Sp) : List Sp := l.foldl (fun O s => insB s O) []
theorem sortL_snoc (l : List Sp) (s : Sp) : sortL (l ++ [s]) = insB s (sortL l) := by unfold sortL; rw [List.foldl_append]; rfl
theorem posB_le (s : Sp) (O : List Sp) (k : Nat) : posB s O k ≤ k := by
  induction k with
  | zero => exact Nat.le_refl _
  | succ k ih => unfold posB; split <;> omega
theorem insB_perm (s : Sp) (O : List Sp) : (insB s O).Perm (O ++ [s]) := by
  unfold insB
  refine List.perm_middle.trans ?_
  rw [List.take_append_drop]
  exact (List.perm_append_singleton s O).symm
theorem insB_len (s : Sp) (O : List Sp) : (insB s O).length = O.length + 1 := by have := (insB_perm s O).length_eq; simpa using this
theorem sortL_perm (l : List Sp) : (sortL l).Perm l := by
  have key : ∀ (l O : List Sp), (l.foldl (fun O s => insB s O) O).Perm (O ++ l) := by
    intro l
    induction l with
    | nil => intro O; simp
    | cons s r ih =>
      intro O
      rw [List.foldl_cons]
      refine (ih _).trans ?_
      have := (insB_perm s O).append_right r
      simpa using this
  have := key l []
  rw [List.nil_append] at this
  exact this
theorem sortL_len (l : List Sp) : (sortL l).length = l.length := (sortL_perm l).length_eq
theorem posB_ge (s : Sp) (O : List Sp) (k : Nat) (i : Nat) (h1 : posB s O k ≤ i) (h2 : i < k) : lessL s O[i]! = true := by
  induction k with
  | zero => omega
  | succ k ih =>
    unfold posB at h1
    split at h1
    · by_cases h : i = k
      · subst h; assumption
      · exact ih h1 (by omega)
    · omega
theorem posB_lt (s : Sp) (O : List Sp) (k : Nat) (h : 0 < posB s O k) : lessL s O[posB s O k - 1]! = false := by
  induction k with
  | zero => simp [posB] at h
  | succ k ih =>
    unfold posB at h ⊢
    split
    · rename_i hh; rw [if_pos hh] at h; exact ih h
    · rename_i hh; simpa using hh
def SortedL (l : List Sp) : Prop := l.Pairwise fun a b => le (kyS a) (kyS b)
theorem le_trans {a b c : Sp} (h : le a b) (g : le b c) : le a c := by unfold le at *; omega
theorem less_le {a b : Sp} (h : less a b = true) : le a b := by rw [less_iff] at h; unfold le; omega
theorem insB_sorted (s : Sp) (O : List Sp) (h : SortedL O) : SortedL (insB s O) := by
  have hp := posB_le s O O.length
  have h1 := posB_ge s O O.length
  have h2 := posB_lt s O O.length
  unfold insB SortedL
  generalize posB s O O.length = k at *
  have hO := h
  unfold SortedL at hO
  rw [← List.take_append_drop k O] at hO
  obtain ⟨p1, p2, p3⟩ := List.pairwise_append.1 hO
  refine List.pairwise_append.2 ⟨p1, List.pairwise_cons.2 ⟨fun x hx => ?_, p2⟩, fun a ha b hb => ?_⟩
  · obtain ⟨i, hi, rfl⟩ := List.getElem_of_mem hx
    rw [List.length_drop] at hi
    rw [List.getElem_drop]
    have := h1 (k + i) (by omega) (by omega)
    rw [getElem!_pos O (k + i) (by omega)] at this
    exact less_le this
  · rcases List.mem_cons.1 hb with rfl | hb
    · obtain ⟨i, hi, rfl⟩ := List.getElem_of_mem ha
      have hi' : i < k := by rw [List.length_take] at hi; omega
      have h3 := h2 (by omega)
      rw [getElem!_pos O (k - 1) (by omega)] at h3
      have h4 := (less_no _ _).1 h3
      rw [List.getElem_take]
      by_cases hik : i = k - 1
      · subst hik; exact h4
      · refine le_trans ?_ h4
        exact List.pairwise_iff_getElem.1 h i (k - 1) (by omega) (by omega) (by omega)
    · exact p3 a ha b hb
theorem sortL_sorted (l : List Sp) : SortedL (sortL l) := by
  have key : ∀ (l O : List Sp), SortedL O → SortedL (l.foldl (fun O s => insB s O) O) := by
    intro l
    induction l with
    | nil => intro O h; exact h
    | cons s r ih => intro O h; rw [List.foldl_cons]; exact ih _ (insB_sorted s O h)
  exact key l [] .nil
/-- In order already: it stays. -/
theorem sortL_self (l : List Sp) (h : SortedL l) : sortL l = l := by
  have key : ∀ (l O : List Sp), SortedL (O ++ l) → l.foldl (fun O s => insB s O) O = O ++ l := by
    intro l
    induction l with
    | nil => intro O h; simp
    | cons s r ih =>
      intro O h
      rw [List.foldl_cons]
      have e : insB s O = O ++ [s] := by
        unfold insB
        have : posB s O O.length = O.length := by
          rcases Nat.eq_zero_or_pos O.length with h0 | h0
          · rw [h0]; rfl
          · obtain ⟨k, hk⟩ : ∃ k, O.length = k + 1 := ⟨O.length - 1, by omega⟩
            rw [hk]
            unfold posB
            rw [if_neg]
            have h1 := (List.pairwise_append.1 h).2.2 O[k] (by simp) s (by simp)
            rw [getElem!_pos O k (by omega)]
            have := (less_no (kyS s) (kyS O[k])).2 h1
            unfold lessL; rw [this]; simp
        rw [this]; simp
      rw [e, ih (O ++ [s]) (by simpa using h)]; simp
  have := key l [] (by simpa using h)
  rw [List.nil_append] at this
  exact this
/-- Rising strictly: the only order of whatever has the same parts. -/
theorem sortL_eq {l k : List Sp} (h : l.Perm k) (hk : k.Pairwise fun a b => less (kyS a) (kyS b) = true) : sortL l = k := by
  have hks : SortedL k := hk.imp fun h => less_le h
  refine List.Perm.eq_of_pairwise (fun a b ha hb h1 h2 => ?_) (sortL_sorted l) hks ((sortL_perm l).trans h)
  have ha' : a ∈ k := ((sortL_perm l).trans h).mem_iff.1 ha
  have hb' : b ∈ k := hb
  obtain ⟨i, hi, rfl⟩ := List.getElem_of_mem ha'
  obtain ⟨j, hj, rfl⟩ := List.getElem_of_mem hb'
  have hpw := List.pairwise_iff_getElem.1 hk
  rcases Nat.lt_trichotomy i j with hlt | heq | hgt
  · have := hpw i j hi hj hlt
    rw [less_iff] at this; unfold le at h2; omega
  · subst heq; rfl
  · have := hpw j i hj hi hgt
    rw [less_iff] at this; unfold le at h1; omega
-- the library's
open Go.Sort
theorem swp_list (A B : List Sp) (x s : Sp) : swp (A ++ x :: s :: B).toArray (A.length + 1) A.length = (A ++ s :: x :: B).toArray := by
  have e1 : (A ++ x :: s :: B).toArray[A.length + 1]! = s := by
    rw [getElem!_pos _ _ (by simp)]; simp
  have e2 : (A ++ x :: s :: B).toArray[A.length]! = x := by
    rw [getElem!_pos _ _ (by simp)]; simp
  unfold swp
  rw [e1, e2]
  simp
theorem insInner_list (s : Sp) (O R : List Sp) : ∀ j, j ≤ O.length → insInner lessL 0 j (O.take j ++ s :: O.drop j ++ R).toArray = (O.take (posB s O j) ++ s :: O.drop (posB s O j) ++ R).toArray := by
  intro j
  induction j with
  | zero => intro _; rw [insInner]; rfl
  | succ j ih =>
    intro hj
    have hjl : j < O.length := by omega
    have hA : (O.take j).length = j := by rw [List.length_take]; omega
    have e1 : O.take (j + 1) ++ s :: O.drop (j + 1) ++ R = O.take j ++ O[j] :: s :: (O.drop (j + 1) ++ R) := by
      rw [List.take_succ_eq_append_getElem hjl, List.append_assoc, List.append_assoc]; rfl
    have e2 : O.take j ++ s :: O[j] :: (O.drop (j + 1) ++ R) = O.take j ++ s :: O.drop j ++ R := by
      rw [List.append_assoc, List.drop_eq_getElem_cons hjl]; rfl
    have g1 : (O.take (j + 1) ++ s :: O.drop (j + 1) ++ R).toArray[j + 1]! = s := by
      rw [e1, getElem!_pos _ _ (by simp; omega)]; simp [hA]
    have g2 : (O.take (j + 1) ++ s :: O.drop (j + 1) ++ R).toArray[j]! = O[j]! := by
      rw [e1, getElem!_pos _ _ (by simp; omega), getElem!_pos O j hjl]; simp [hA]
    have hs := swp_list (O.take j) (O.drop (j + 1) ++ R) O[j] s
    rw [hA] at hs
    cases hl : lessL s O[j]!
    · rw [insInner_stop lessL 0 (j + 1) _ (.inr (by rw [Nat.add_sub_cancel, g1, g2]; exact hl))]
      unfold posB; rw [hl]; simp
    · rw [insInner_go lessL 0 (j + 1) _ (by omega) (by rw [Nat.add_sub_cancel, g1, g2]; exact hl), Nat.add_sub_cancel, e1, hs, e2, ih (by omega)]
      conv => rhs; unfold posB
      rw [if_pos hl]
theorem insOuter_list (l : List Sp) : ∀ n i, n = l.length - i → i ≤ l.length → insOuter lessL 0 l.length i (sortL (l.take i) ++ l.drop i).toArray = (sortL l).toArray := by
  intro n
  induction n with
  | zero =>
    intro i h0 h1
    obtain rfl : i = l.length := by omega
    rw [insOuter_stop _ _ _ _ _ (by omega)]; simp
  | succ n ih =>
    intro i h0 h1
    have hi : i < l.length := by omega
    have hlen : (sortL (l.take i)).length = i := by rw [sortL_len, List.length_take]; omega
    rw [insOuter_go _ _ _ _ _ hi]
    have h3 := insInner_list l[i] (sortL (l.take i)) (l.drop (i + 1)) i (by omega)
    rw [List.take_of_length_le (by omega), List.drop_of_length_le (by omega)] at h3
    have e : sortL (l.take i) ++ [l[i]] ++ l.drop (i + 1) = sortL (l.take i) ++ l.drop i := by rw [List.drop_eq_getElem_cons hi]; simp
    rw [e] at h3
    rw [h3]
    have e2 : List.take (posB l[i] (sortL (l.take i)) i) (sortL (l.take i)) ++ l[i] :: List.drop (posB l[i] (sortL (l.take i)) i) (sortL (l.take i)) = sortL (l.take (i + 1)) := by
      rw [List.take_succ_eq_append_getElem hi, sortL_snoc]
      unfold insB
      rw [hlen]
    rw [e2]
    exact ih (i + 1) (by omega) (by omega)
theorem insertionSort_list (l : List Sp) : insertionSort lessL l.toArray 0 l.length = (sortL l).toArray := by
  unfold insertionSort
  rcases Nat.eq_zero_or_pos l.length with h0 | h0
  · have : l = [] := List.eq_nil_of_length_eq_zero h0
    subst this
    rw [insOuter_stop _ _ _ _ _ (by simp)]; rfl
  · have := insOuter_list l (l.length - 1) 1 (by omega) (by omega)
    rw [← this]
    congr 2
    obtain ⟨a, r, rfl⟩ : ∃ a r, l = a :: r := by
      cases l with
      | nil => simp at h0
      | cons a r => exact ⟨a, r, rfl⟩
    simp [sortL, insB, posB]
end Go.Proofs.YtjcmbnmejkhcjaaGreat.SelM
