/- A part of a row put in order by the library's insertion sort; the same with places (plain mathematics). -/
import Derived.Test.YtjkjgfgblfioeaaSymC
namespace Go.Proofs.Ytjkjgfgblfioeaa
open SpanM SelM
section
open Go.Sort
theorem arr_at0 (Y Z : List Sp) (a b : Sp) (n : Nat) (h : n = Y.length) : (Y ++ a :: b :: Z).toArray[n]! = a := by
  subst h
  rw [getElem!_pos _ _ (by simp)]; simp
theorem arr_at1 (Y Z : List Sp) (a b : Sp) (n : Nat) (h : n = Y.length + 1) : (Y ++ a :: b :: Z).toArray[n]! = b := by
  subst h
  rw [getElem!_pos _ _ (by simp)]; simp
theorem insInnerP (P : List Sp) (s : Sp) (O R : List Sp) : ∀ j, j ≤ O.length → insInner lessL P.length (P.length + j) (P ++ (O.take j ++ s :: O.drop j ++ R)).toArray = (P ++ (O.take (posB s O j) ++ s :: O.drop (posB s O j) ++ R)).toArray := by
  intro j
  induction j with
  | zero =>
    intro _
    rw [insInner_stop lessL P.length (P.length + 0) _ (.inl (Nat.le_refl _))]; rfl
  | succ j ih =>
    intro hj
    have hjl : j < O.length := by omega
    have hA : (P ++ O.take j).length = P.length + j := by rw [List.length_append, List.length_take]; omega
    have e1 : P ++ (O.take (j + 1) ++ s :: O.drop (j + 1) ++ R) = (P ++ O.take j) ++ O[j] :: s :: (O.drop (j + 1) ++ R) := by
      rw [List.take_succ_eq_append_getElem hjl]; simp only [List.append_assoc, List.cons_append, List.nil_append]
    have e2 : (P ++ O.take j) ++ s :: O[j] :: (O.drop (j + 1) ++ R) = P ++ (O.take j ++ s :: O.drop j ++ R) := by
      rw [List.drop_eq_getElem_cons hjl]; simp only [List.append_assoc, List.cons_append]
    have g1 : (P ++ (O.take (j + 1) ++ s :: O.drop (j + 1) ++ R)).toArray[P.length + (j + 1)]! = s := by
      rw [e1]; exact arr_at1 _ _ _ _ _ (by omega)
    have g2 : (P ++ (O.take (j + 1) ++ s :: O.drop (j + 1) ++ R)).toArray[P.length + j]! = O[j]! := by
      rw [e1, getElem!_pos O j hjl]; exact arr_at0 _ _ _ _ _ (by omega)
    have hs := swp_list (P ++ O.take j) (O.drop (j + 1) ++ R) O[j] s
    rw [hA] at hs
    cases hl : lessL s O[j]!
    · rw [insInner_stop lessL P.length (P.length + (j + 1)) _ (.inr (by rw [show P.length + (j + 1) - 1 = P.length + j by omega, g1, g2]; exact hl))]
      unfold posB; rw [hl]; simp
    · rw [insInner_go lessL P.length (P.length + (j + 1)) _ (by omega) (by rw [show P.length + (j + 1) - 1 = P.length + j by omega, g1, g2]; exact hl), show P.length + (j + 1) - 1 = P.length + j by omega, e1, show P.length + (j + 1) = P.length + j + 1 by omega, hs, e2, ih (by omega)]
      conv => rhs; unfold posB
      rw [if_pos hl]
theorem insOuterP (P X R : List Sp) : ∀ n i, n = X.length - i → i ≤ X.length → insOuter lessL P.length (P.length + X.length) (P.length + i) (P ++ (sortL (X.take i) ++ X.drop i ++ R)).toArray = (P ++ (sortL X ++ R)).toArray := by
  intro n
  induction n with
  | zero =>
    intro i h0 h1
    obtain rfl : i = X.length := by omega
    rw [insOuter_stop _ _ _ _ _ (by omega)]; simp
  | succ n ih =>
    intro i h0 h1
    have hi : i < X.length := by omega
    have hlen : (sortL (X.take i)).length = i := by rw [sortL_len, List.length_take]; omega
    rw [insOuter_go _ _ _ _ _ (by omega)]
    have h3 := insInnerP P X[i] (sortL (X.take i)) (X.drop (i + 1) ++ R) i (by omega)
    rw [List.take_of_length_le (by omega), List.drop_of_length_le (by omega)] at h3
    have e : sortL (X.take i) ++ [X[i]] ++ (X.drop (i + 1) ++ R) = sortL (X.take i) ++ X.drop i ++ R := by rw [List.drop_eq_getElem_cons hi]; simp only [List.append_assoc, List.cons_append, List.nil_append]
    rw [e] at h3
    rw [h3]
    have e2 : List.take (posB X[i] (sortL (X.take i)) i) (sortL (X.take i)) ++ X[i] :: List.drop (posB X[i] (sortL (X.take i)) i) (sortL (X.take i)) = sortL (X.take (i + 1)) := by
      rw [List.take_succ_eq_append_getElem hi, sortL_snoc]
      unfold insB
      rw [hlen]
    rw [e2]
    have := ih (i + 1) (by omega) (by omega)
    rw [← this]
    simp [Nat.add_assoc]
theorem insertionP (P X R : List Sp) : insertionSort lessL (P ++ (X ++ R)).toArray P.length (P.length + X.length) = (P ++ (sortL X ++ R)).toArray := by
  unfold insertionSort
  rcases Nat.eq_zero_or_pos X.length with h0 | h0
  · have : X = [] := List.eq_nil_of_length_eq_zero h0
    subst this
    rw [insOuter_stop _ _ _ _ _ (by simp)]; rfl
  · have := insOuterP P X R (X.length - 1) 1 (by omega) (by omega)
    rw [← this]
    congr 2
    obtain ⟨a, r, rfl⟩ : ∃ a r, X = a :: r := by
      cases X with
      | nil => simp at h0
      | cons a r => exact ⟨a, r, rfl⟩
    simp [sortL, insB, posB]
end
/-- The same with places. -/
def insT (s : Sp × Nat) (O : List (Sp × Nat)) : List (Sp × Nat) := O.take (posB s.1 (vals O) O.length) ++ s :: O.drop (posB s.1 (vals O) O.length)
def sortT (l : List (Sp × Nat)) : List (Sp × Nat) := l.foldl (fun O s => insT s O) []
theorem vals_insT (s : Sp × Nat) (O : List (Sp × Nat)) : vals (insT s O) = insB s.1 (vals O) := by
  unfold insT insB vals
  simp [List.map_take, List.map_drop]
theorem vals_sortT (l : List (Sp × Nat)) : vals (sortT l) = sortL (vals l) := by
  have key : ∀ (l O : List (Sp × Nat)), vals (l.foldl (fun O s => insT s O) O) = (vals l).foldl (fun O s => insB s O) (vals O) := by
    intro l
    induction l with
    | nil => intro O; rfl
    | cons s r ih => intro O; rw [List.foldl_cons, ih, vals_insT]; rfl
  exact key l []
theorem insT_perm (s : Sp × Nat) (O : List (Sp × Nat)) : (insT s O).Perm (O ++ [s]) := by
  unfold insT
  refine List.perm_middle.trans ?_
  rw [List.take_append_drop]
  exact (List.perm_append_singleton s O).symm
theorem insT_ts (s : Sp × Nat) (O : List (Sp × Nat)) (hO : TS lessL O) (ha : Ahead O [s]) : TS lessL (insT s O) := by
  have hp := posB_le s.1 (vals O) O.length
  have h1 := posB_ge s.1 (vals O) O.length
  have h2 := posB_lt s.1 (vals O) O.length
  unfold insT
  generalize posB s.1 (vals O) O.length = k at *
  have hv : ∀ i (hi : i < O.length), (vals O)[i]! = O[i].1 := fun i hi => by
    rw [getElem!_pos _ _ (by rw [vals_len]; exact hi)]
    simp only [vals, List.getElem_map]
  have h3 := ts_one_right wk_less s hO ha k hp (fun j hj h => by
    have h4 := h2 (by omega)
    rw [hv (k - 1) (by omega)] at h4
    exact wk_less.ntrans _ _ _ h4 (ts_le wk_less hO j (k - 1) (by omega) (by omega))) (fun j hj h => by
    have h4 := h1 j h hj
    rw [hv j hj] at h4
    exact h4)
  simpa using h3
theorem sortT_ts (l : List (Sp × Nat)) (h : l.Pairwise fun a b => a.2 < b.2) : (sortT l).Perm l ∧ TS lessL (sortT l) := by
  have key : ∀ (l O : List (Sp × Nat)), TS lessL O → (∀ x ∈ O, ∀ y ∈ l, x.2 < y.2) → l.Pairwise (fun a b => a.2 < b.2) → (l.foldl (fun O s => insT s O) O).Perm (O ++ l) ∧ TS lessL (l.foldl (fun O s => insT s O) O) := by
    intro l
    induction l with
    | nil => intro O hO _ _; exact ⟨by simp, hO⟩
    | cons s r ih =>
      intro O hO hx hp
      rw [List.foldl_cons]
      obtain ⟨p1, p2⟩ := List.pairwise_cons.1 hp
      have hq := insT_perm s O
      obtain ⟨h1, h2⟩ := ih (insT s O) (insT_ts s O hO (fun x hx' y hy => by
        obtain rfl : y = s := by simpa using hy
        exact hx x hx' y (by simp))) (fun x hx' y hy => by
        rcases List.mem_append.1 (hq.mem_iff.1 hx') with h | h
        · exact hx x h y (List.mem_cons_of_mem _ hy)
        · obtain rfl : x = s := by simpa using h
          exact p1 y hy) p2
      refine ⟨h1.trans ?_, h2⟩
      have := hq.append_right r
      simpa using this
  have := key l [] .nil (by simp) h
  simpa [sortT] using this
/-- A row with its places. -/
def tagL (o : Nat) : List Sp → List (Sp × Nat)
  | [] => []
  | s :: r => (s, o) :: tagL (o + 1) r
theorem tag_vals (l : List Sp) : ∀ o, vals (tagL o l) = l := by
  induction l with
  | nil => intro o; rfl
  | cons s r ih => intro o; show s :: vals (tagL (o + 1) r) = _; rw [ih]
theorem tag_ge (l : List Sp) : ∀ o, ∀ x ∈ tagL o l, o ≤ x.2 := by
  induction l with
  | nil => intro o x hx; simp [tagL] at hx
  | cons s r ih =>
    intro o x hx
    rcases List.mem_cons.1 hx with rfl | hx
    · exact Nat.le_refl _
    · have := ih (o + 1) x hx; omega
theorem tag_up (l : List Sp) : ∀ o, (tagL o l).Pairwise fun a b => a.2 < b.2 := by
  induction l with
  | nil => intro o; exact .nil
  | cons s r ih => intro o; exact List.pairwise_cons.2 ⟨fun y hy => tag_ge r (o + 1) y hy, ih (o + 1)⟩
/-- What is in order by elements and places is the stable sort. -/
theorem stable_eq (l : List Sp) (T : List (Sp × Nat)) (hp : T.Perm (tagL 0 l)) (ht : TS lessL T) : vals T = sortL l := by
  obtain ⟨p, t⟩ := sortT_ts (tagL 0 l) (tag_up l 0)
  rw [ts_unique wk_less (hp.trans p.symm) ht t, vals_sortT, tag_vals]
end Go.Proofs.Ytjkjgfgblfioeaa
