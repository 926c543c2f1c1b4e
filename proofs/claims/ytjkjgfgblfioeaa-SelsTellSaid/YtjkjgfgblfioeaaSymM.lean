/- Merging of two sorted parts beside one another (plain mathematics). -/
import Derived.Test.YtjkjgfgblfioeaaSelN
namespace Go.Proofs.Ytjkjgfgblfioeaa
open SpanM SelM
/-- Merging of two sorted parts beside one another: elements with the place where they stood first. -/
structure Wk {α : Type} (lt : α → α → Bool) : Prop where
  irrefl : ∀ a, lt a a = false
  trans : ∀ a b c, lt a b = true → lt b c = true → lt a c = true
  ntrans : ∀ a b c, lt a b = false → lt b c = false → lt a c = false
section
variable {α : Type} {lt : α → α → Bool}
theorem Wk.asymm (W : Wk lt) (a b : α) (h : lt a b = true) : lt b a = false := by
  rcases hb : lt b a with _ | _
  · rfl
  · have := W.trans a b a h hb; rw [W.irrefl] at this; cases this
/-- below strictly, or not above -/
theorem Wk.lt_le (W : Wk lt) (a b c : α) (h : lt a b = true) (g : lt c b = false) : lt a c = true := by
  rcases hb : lt a c with _ | _
  · have := W.ntrans a c b hb g; rw [h] at this; cases this
  · rfl
theorem Wk.le_lt (W : Wk lt) (a b c : α) (h : lt b a = false) (g : lt b c = true) : lt a c = true := by
  rcases hb : lt a c with _ | _
  · have := W.ntrans b a c h hb; rw [g] at this; cases this
  · rfl
def tl (lt : α → α → Bool) (a b : α × Nat) : Prop := lt a.1 b.1 = true ∨ (lt b.1 a.1 = false ∧ a.2 < b.2)
theorem tl_trans (W : Wk lt) {a b c : α × Nat} (h : tl lt a b) (g : tl lt b c) : tl lt a c := by
  rcases h with h | ⟨h, h2⟩
  · left
    rcases g with g | ⟨g, _⟩
    · exact W.trans _ _ _ h g
    · exact W.lt_le _ _ _ h g
  · rcases g with g | ⟨g, g2⟩
    · left; exact W.le_lt _ _ _ h g
    · right; exact ⟨W.ntrans _ _ _ g h, by omega⟩
theorem tl_le (W : Wk lt) {a b : α × Nat} (h : tl lt a b) : lt b.1 a.1 = false := by
  rcases h with h | ⟨h, _⟩
  · exact W.asymm _ _ h
  · exact h
theorem tl_irrefl (W : Wk lt) (a : α × Nat) : ¬ tl lt a a := by
  rintro (h | ⟨_, h⟩)
  · rw [W.irrefl] at h; cases h
  · omega
def TS (lt : α → α → Bool) (l : List (α × Nat)) : Prop := l.Pairwise (tl lt)
theorem ts_unique (W : Wk lt) {l k : List (α × Nat)} (hp : l.Perm k) (hl : TS lt l) (hk : TS lt k) : l = k :=
  List.Perm.eq_of_pairwise (fun a _ _ _ h1 h2 => absurd (tl_trans W h1 h2) (tl_irrefl W a)) hl hk hp
def Ahead (A B : List (α × Nat)) : Prop := ∀ x ∈ A, ∀ y ∈ B, x.2 < y.2
theorem ts_at {l : List (α × Nat)} (h : TS lt l) (i j : Nat) (hij : i < j) (hj : j < l.length) : tl lt (l[i]'(by omega)) l[j] :=
  List.pairwise_iff_getElem.1 h i j (by omega) hj hij
theorem ts_le (W : Wk lt) {l : List (α × Nat)} (h : TS lt l) (i j : Nat) (hij : i ≤ j) (hj : j < l.length) : lt l[j].1 (l[i]'(by omega)).1 = false := by
  rcases Nat.eq_or_lt_of_le hij with h1 | h1
  · subst h1; exact W.irrefl _
  · exact tl_le W (ts_at h i j h1 hj)
/-- Put together: what is in the front goes ahead of what is behind. -/
theorem ts_four (W : Wk lt) {A B : List (α × Nat)} (hA : TS lt A) (hB : TS lt B) (hAB : Ahead A B) (s t : Nat) (hs : s ≤ A.length) (ht : t ≤ B.length)
    (h1 : ∀ (h1 : 0 < s) (h2 : t < B.length), lt B[t].1 (A[s - 1]'(by omega)).1 = false)
    (h2 : ∀ (h1 : 0 < t) (h2 : s < A.length), lt (B[t - 1]'(by omega)).1 A[s].1 = true) :
    ∀ x ∈ A.take s ++ B.take t, ∀ y ∈ A.drop s ++ B.drop t, tl lt x y := by
  intro x hx y hy
  rcases List.mem_append.1 hx with hx | hx
  · obtain ⟨i, hi, rfl⟩ := List.getElem_of_mem hx
    have hi' : i < s ∧ i < A.length := by rw [List.length_take] at hi; omega
    rw [List.getElem_take]
    rcases List.mem_append.1 hy with hy | hy
    · obtain ⟨j, hj, rfl⟩ := List.getElem_of_mem hy
      rw [List.length_drop] at hj
      rw [List.getElem_drop]
      exact ts_at hA i (s + j) (by omega) (by omega)
    · obtain ⟨j, hj, rfl⟩ := List.getElem_of_mem hy
      rw [List.length_drop] at hj
      rw [List.getElem_drop]
      right
      refine ⟨?_, hAB _ (List.getElem_mem _) _ (List.getElem_mem _)⟩
      have a1 := h1 (by omega) (by omega)
      have a2 := ts_le W hA i (s - 1) (by omega) (by omega)
      have a3 := ts_le W hB t (t + j) (by omega) (by omega)
      exact W.ntrans _ _ _ (W.ntrans _ _ _ a3 a1) a2
  · obtain ⟨i, hi, rfl⟩ := List.getElem_of_mem hx
    have hi' : i < t ∧ i < B.length := by rw [List.length_take] at hi; omega
    rw [List.getElem_take]
    rcases List.mem_append.1 hy with hy | hy
    · obtain ⟨j, hj, rfl⟩ := List.getElem_of_mem hy
      rw [List.length_drop] at hj
      rw [List.getElem_drop]
      left
      have a1 := h2 (by omega) (by omega)
      have a2 := ts_le W hB i (t - 1) (by omega) (by omega)
      have a3 := ts_le W hA s (s + j) (by omega) (by omega)
      exact W.lt_le _ _ _ (W.le_lt _ _ _ a2 a1) a3
    · obtain ⟨j, hj, rfl⟩ := List.getElem_of_mem hy
      rw [List.length_drop] at hj
      rw [List.getElem_drop]
      exact ts_at hB i (t + j) (by omega) (by omega)
theorem ts_app {A B : List (α × Nat)} : TS lt (A ++ B) ↔ TS lt A ∧ TS lt B ∧ ∀ x ∈ A, ∀ y ∈ B, tl lt x y := List.pairwise_append
theorem ts_take {A : List (α × Nat)} (h : TS lt A) (k : Nat) : TS lt (A.take k) := h.sublist (List.take_sublist k A)
theorem ts_drop {A : List (α × Nat)} (h : TS lt A) (k : Nat) : TS lt (A.drop k) := h.sublist (List.drop_sublist k A)
/-- One element and a sorted part. -/
theorem ts_one_left (W : Wk lt) (a : α × Nat) {B : List (α × Nat)} (hB : TS lt B) (hAB : Ahead [a] B) (t : Nat) (ht : t ≤ B.length)
    (h1 : ∀ j (h : j < B.length), j < t → lt B[j].1 a.1 = true) (h2 : ∀ j (h : j < B.length), t ≤ j → lt B[j].1 a.1 = false) : TS lt (B.take t ++ [a] ++ B.drop t) := by
  have h := ts_four W (A := [a]) (s := 0) (t := t) (.cons (by simp) .nil) hB hAB (by simp) ht (fun h => by omega) (fun h3 h4 => h1 (t - 1) (by omega) (by omega))
  rw [List.append_assoc, List.singleton_append]
  refine ts_app.2 ⟨ts_take hB t, List.pairwise_cons.2 ⟨fun y hy => ?_, ts_drop hB t⟩, fun x hx y hy => h x (by simpa using hx) y (by simpa using hy)⟩
  obtain ⟨j, hj, rfl⟩ := List.getElem_of_mem hy
  rw [List.length_drop] at hj
  rw [List.getElem_drop]
  exact .inr ⟨h2 _ _ (by omega), hAB a (by simp) _ (List.getElem_mem _)⟩
theorem ts_one_right (_ : Wk lt) (b : α × Nat) {A : List (α × Nat)} (hA : TS lt A) (hAB : Ahead A [b]) (s : Nat) (hs : s ≤ A.length)
    (h1 : ∀ j (h : j < A.length), j < s → lt b.1 A[j].1 = false) (h2 : ∀ j (h : j < A.length), s ≤ j → lt b.1 A[j].1 = true) : TS lt (A.take s ++ [b] ++ A.drop s) := by
  rw [List.append_assoc, List.singleton_append]
  refine ts_app.2 ⟨ts_take hA s, List.pairwise_cons.2 ⟨fun y hy => ?_, ts_drop hA s⟩, fun x hx y hy => ?_⟩
  · obtain ⟨j, hj, rfl⟩ := List.getElem_of_mem hy
    rw [List.length_drop] at hj
    rw [List.getElem_drop]
    exact .inl (h2 _ _ (by omega))
  · obtain ⟨i, hi, rfl⟩ := List.getElem_of_mem hx
    have hi' : i < s ∧ i < A.length := by rw [List.length_take] at hi; omega
    rw [List.getElem_take]
    rcases List.mem_cons.1 hy with rfl | hy
    · exact .inr ⟨h1 _ _ hi'.1, hAB _ (List.getElem_mem _) _ (by simp)⟩
    · obtain ⟨j, hj, rfl⟩ := List.getElem_of_mem hy
      rw [List.length_drop] at hj
      rw [List.getElem_drop]
      exact ts_at hA i (s + j) (by omega) (by omega)
end
theorem wk_less : Wk lessL where
  irrefl a := by unfold lessL less; simp
  trans a b c h1 h2 := by
    unfold lessL at *
    rw [less_iff] at *
    omega
  ntrans a b c h1 h2 := by
    unfold lessL at *
    rw [less_no] at *
    unfold le at *
    omega
end Go.Proofs.Ytjkjgfgblfioeaa
