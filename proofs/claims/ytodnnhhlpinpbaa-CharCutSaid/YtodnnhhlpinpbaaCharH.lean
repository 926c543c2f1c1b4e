/- Plain facts: a text cut at a place has the characters of both parts, and only there. No condition. -/
import Derived.Test.YtodnnhhlpinpbaaCharG
namespace Go.Proofs.Ytodnnhhlpinpbaa
open Go.ChangeShapes Go.WideShapes Go.ChangeAt Go.RowKit
theorem chGo_cut (a : List UInt8) (c : UInt8) (r acc : List UInt8) (h : contB c = false) : chGo (a ++ c :: r) acc = chGo a acc ++ chGo r [c] := by
  induction a generalizing acc with
  | nil =>
    have e : chGo (c :: r) acc = acc :: chGo r [c] := by rw [chGo, if_neg (by rw [h]; simp)]
    rw [List.nil_append, e]; rfl
  | cons d t ih =>
    rw [List.cons_append, chGo, chGo]
    by_cases hd : contB d = true
    · rw [if_pos hd, if_pos hd, ih]
    · rw [if_neg hd, if_neg hd, ih]; rfl
theorem chGo_len (r acc : List UInt8) : (chGo r acc).length = 1 + r.countP (fun c => !contB c) := by
  induction r generalizing acc with
  | nil => rfl
  | cons c t ih =>
    rw [chGo, List.countP_cons]
    by_cases hc : contB c = true
    · rw [if_pos hc, ih]; simp [hc]
    · rw [if_neg hc, List.length_cons, ih]; simp [hc]; omega
theorem split_cut (l : List UInt8) (k : Nat) (h0 : 0 < k) (hk : k < l.length) : splitL (l.take k) ++ splitL (l.drop k) = splitL l ↔ contB l[k] = false := by
  obtain ⟨c0, r, rfl⟩ : ∃ c r, l = c :: r := by cases l with
    | nil => simp at hk
    | cons c r => exact ⟨c, r, rfl⟩
  obtain ⟨j, rfl⟩ : ∃ j, k = j + 1 := ⟨k - 1, by omega⟩
  have hj : j < r.length := by simpa using hk
  have hd : r.drop j = r[j] :: r.drop (j + 1) := List.drop_eq_getElem_cons hj
  rw [List.take_succ_cons, List.drop_succ_cons, List.getElem_cons_succ, hd]
  show chGo (r.take j) [c0] ++ chGo (r.drop (j + 1)) [r[j]] = chGo r [c0] ↔ _
  constructor
  · intro h
    cases hc : contB r[j]
    · rfl
    · have h1 := congrArg List.length h
      rw [List.length_append, chGo_len, chGo_len, chGo_len] at h1
      have h2 : r.countP (fun c => !contB c) = (r.take j).countP (fun c => !contB c) + (r.drop j).countP (fun c => !contB c) := by
        rw [← List.countP_append, List.take_append_drop]
      rw [hd, List.countP_cons] at h2
      simp [hc] at h2
      omega
  · intro h
    have h1 := chGo_cut (r.take j) r[j] (r.drop (j + 1)) [c0] h
    rw [← hd, List.take_append_drop] at h1
    exact h1.symm
theorem pl_ge (l : List UInt8) (i k : Nat) (h : k ∈ plGo l i) : i ≤ k := by
  induction l generalizing i with
  | nil => rw [plGo, List.mem_singleton] at h; omega
  | cons c t ih =>
    rw [plGo] at h
    split at h
    · rcases List.mem_cons.1 h with rfl | h
      · omega
      · have := ih (i + 1) h; omega
    · have := ih (i + 1) h; omega
theorem pl_mem (l : List UInt8) (i k : Nat) (hk : k < l.length) : i + k ∈ plGo l i ↔ i + k = 0 ∨ contB l[k] = false := by
  induction l generalizing i k with
  | nil => simp at hk
  | cons c t ih =>
    rw [plGo]
    cases k with
    | zero =>
      simp only [Nat.add_zero, List.getElem_cons_zero]
      by_cases h : i = 0 ∨ contB c = false
      · rw [if_pos h]; simp [h]
      · rw [if_neg h]
        constructor
        · intro hm; have := pl_ge _ _ _ hm; omega
        · intro h2; exact absurd h2 h
    | succ k =>
      have h1 := ih (i + 1) k (by simpa using hk)
      rw [show i + 1 + k = i + (k + 1) by omega] at h1
      simp only [List.getElem_cons_succ]
      by_cases h : i = 0 ∨ contB c = false
      · rw [if_pos h, List.mem_cons, h1]
        constructor
        · rintro (e | h2)
          · omega
          · exact h2
        · exact .inr
      · rw [if_neg h, h1]
theorem pl_last (l : List UInt8) (i : Nat) : i + l.length ∈ plGo l i := by
  induction l generalizing i with
  | nil => simp [plGo]
  | cons c t ih =>
    have h1 := ih (i + 1)
    rw [List.length_cons, plGo]
    have e : i + (t.length + 1) = i + 1 + t.length := by omega
    rw [e]
    split
    · exact List.mem_cons_of_mem _ h1
    · exact h1
theorem cut_iff (l : List UInt8) (k : Nat) (hk : k ≤ l.length) : splitL (l.take k) ++ splitL (l.drop k) = splitL l ↔ k ∈ plGo l 0 := by
  by_cases h0 : k = 0
  · subst h0
    have h1 : (0 : Nat) ∈ plGo l 0 := by cases l with
      | nil => simp [plGo]
      | cons c t => rw [plGo, if_pos (.inl rfl)]; simp
    simp [h1, splitL]
  · by_cases h1 : k = l.length
    · subst h1
      have h2 := pl_last l 0
      rw [Nat.zero_add] at h2
      simp [h2, splitL]
    · have h2 := pl_mem l 0 k (by omega)
      rw [Nat.zero_add] at h2
      rw [h2, split_cut l k (by omega) (by omega)]
      simp [h0]
end Go.Proofs.Ytodnnhhlpinpbaa
