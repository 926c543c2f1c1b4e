/- Plain facts: what is read does not hang on what stands behind; terms and alternatives as lists; how deep a group is. No condition. -/
import Derived.Test.YtmacpmblodhcpaaGreatDoorZaY
namespace Go.Proofs.YtmacpmblodhcpaaGreatDoor
open SetM
set_option linter.unusedVariables false
theorem tk_app {l u : List UInt8} (hu : contH u = false) : (l ++ u).takeWhile contB = l.takeWhile contB := by
  induction l with
  | nil =>
    cases u with
    | nil => rfl
    | cons a u => rw [List.nil_append, List.takeWhile_cons]; simp only [contH] at hu; rw [hu]; rfl
  | cons a l ih =>
    rw [List.cons_append, List.takeWhile_cons, List.takeWhile_cons]
    cases contB a
    · rfl
    · rw [if_pos rfl, if_pos rfl, ih]
theorem firstN_app {l u : List UInt8} (hl : l ≠ []) (hu : contH u = false) : firstN (l ++ u) = firstN l := by
  cases l with
  | nil => exact absurd rfl hl
  | cons a l => show 1 + ((l ++ u).takeWhile contB).length = 1 + (l.takeWhile contB).length; rw [tk_app hu]
theorem hd_app {l u : List UInt8} (hl : l ≠ []) (hu : contH u = false) : hdC (l ++ u) = hdC l := by
  unfold hdC; rw [firstN_app hl hu, List.take_append_of_le_length (firstN_le l)]
theorem tl_app {l u : List UInt8} (hl : l ≠ []) (hu : contH u = false) : tlC (l ++ u) = tlC l ++ u := by
  unfold tlC; rw [firstN_app hl hu, List.drop_append_of_le_length (firstN_le l)]
/-- What may stand behind what is read: no quantifier's sign, no part of a character. -/
structure Stop (u : List UInt8) : Prop where
  ct : contH u = false
  q1 : (hdC u == [42]) = false
  q2 : (hdC u == [43]) = false
  q3 : (hdC u == [63]) = false
  q4 : (hdC u == [123]) = false
theorem stop_nil : Stop [] := ⟨rfl, rfl, rfl, rfl, rfl⟩
theorem ne_hd {l : List UInt8} {y : UInt8} (h : (hdC l == [y]) = true) : l ≠ [] := by
  rintro rfl; have := beq_iff_eq.1 h; cases this
theorem hd1 {y : UInt8} {u : List UInt8} (hu : contH u = false) : hdC (y :: u) = [y] ∧ tlC (y :: u) = u := by
  have h1 : u.takeWhile contB = [] := by have := tk_app (l := []) hu; simpa using this
  have h2 : firstN (y :: u) = 1 := by show 1 + (u.takeWhile contB).length = 1; rw [h1]; rfl
  exact ⟨by unfold hdC; rw [h2]; rfl, by unfold tlC; rw [h2]; rfl⟩
theorem stop_sign {y : UInt8} {u : List UInt8} (hu : contH u = false) (hy : y = 124 ∨ y = 41 ∨ y = 40) : Stop (y :: u) := by
  obtain ⟨h1, h2⟩ := hd1 (y := y) hu
  refine ⟨?_, ?_, ?_, ?_, ?_⟩
  · rcases hy with rfl | rfl | rfl <;> rfl
  all_goals (rw [h1]; rcases hy with rfl | rfl | rfl <;> decide)
theorem bak_app {l u r : List UInt8} {x : Rt} (hu : contH u = false) (h : bakP l = .ok x r) : bakP (l ++ u) = .ok x (r ++ u) := by
  have hl : l ≠ [] := by
    rintro rfl
    revert h
    show bakP [] = _ → _
    rw [show bakP [] = .err 10 from rfl]
    intro h; cases h
  unfold bakP at h ⊢
  rw [hd_app hl hu, tl_app hl hu]
  by_cases k0 : (hdC l == [98]) = true
  · rw [if_pos k0] at h ⊢; cases h; rfl
  rw [if_neg k0] at h ⊢
  by_cases k1 : (hdC l == [66]) = true
  · rw [if_pos k1] at h ⊢; cases h; rfl
  rw [if_neg k1] at h ⊢
  by_cases k2 : (hdC l == [100]) = true
  · rw [if_pos k2] at h ⊢; cases h; rfl
  rw [if_neg k2] at h ⊢
  by_cases k3 : (hdC l == [119]) = true
  · rw [if_pos k3] at h ⊢; cases h; rfl
  rw [if_neg k3] at h ⊢
  by_cases k4 : (hdC l == [115]) = true
  · rw [if_pos k4] at h ⊢; cases h; rfl
  rw [if_neg k4] at h ⊢
  by_cases k5 : (hdC l == [68]) = true
  · rw [if_pos k5] at h ⊢; cases h; rfl
  rw [if_neg k5] at h ⊢
  by_cases k6 : (hdC l == [87]) = true
  · rw [if_pos k6] at h ⊢; cases h; rfl
  rw [if_neg k6] at h ⊢
  by_cases k7 : (hdC l == [83]) = true
  · rw [if_pos k7] at h ⊢; cases h; rfl
  rw [if_neg k7] at h ⊢
  cases he : escP (bsC (hdC l)) with
  | none => rw [he] at h; cases h
  | some d => rw [he] at h; cases h; rfl
theorem item_app {l u r : List UInt8} {L : List Rw} {c : ByteArray} (hu : contH u = false) (h : itemP l = some (L, c, r)) : itemP (l ++ u) = some (L, c, r ++ u) := by
  have hl : l ≠ [] := by rintro rfl; cases h
  unfold itemP at h ⊢
  rw [hd_app hl hu, tl_app hl hu]
  by_cases k0 : (hdC l == [92]) = true
  · rw [if_pos k0] at h ⊢
    have ht : tlC l ≠ [] := by
      intro h0
      rw [h0] at h
      revert h
      rw [show (if (hdC [] == [100]) = true then some (rD, (⟨#[]⟩ : ByteArray), tlC ([] : List UInt8)) else if (hdC [] == [119]) = true then some (rW, ⟨#[]⟩, tlC []) else if (hdC [] == [115]) = true then some (rS, ⟨#[]⟩, tlC []) else (escP (bsC (hdC []))).map (fun d => ([], d, tlC []))) = none from rfl]
      intro h; cases h
    rw [hd_app ht hu, tl_app ht hu]
    by_cases k1 : (hdC (tlC l) == [100]) = true
    · rw [if_pos k1] at h ⊢; cases h; rfl
    rw [if_neg k1] at h ⊢
    by_cases k2 : (hdC (tlC l) == [119]) = true
    · rw [if_pos k2] at h ⊢; cases h; rfl
    rw [if_neg k2] at h ⊢
    by_cases k3 : (hdC (tlC l) == [115]) = true
    · rw [if_pos k3] at h ⊢; cases h; rfl
    rw [if_neg k3] at h ⊢
    cases he : escP (bsC (hdC (tlC l))) with
    | none => rw [he] at h; cases h
    | some d => rw [he] at h; cases h; rfl
  · rw [if_neg k0] at h ⊢
    by_cases k1 : (hdC l == []) = true
    · rw [if_pos k1] at h; cases h
    · rw [if_neg k1] at h ⊢; cases h; rfl
theorem rng_app {r u : List UInt8} (hu : contH u = false) (hg : (hdC r == [93]) = true ∨ tlC r ≠ []) : rngP (r ++ u) = rngP r := by
  have hr : r ≠ [] := by
    rcases hg with h | h
    · exact ne_hd h
    · rintro rfl; exact h rfl
  unfold rngP
  rw [hd_app hr hu, tl_app hr hu]
  rcases hg with h | h
  · rw [beq_iff_eq.1 h]; rfl
  · rw [hd_app h hu]
    cases hq : tlC r with
    | nil => exact absurd hq h
    | cons a q => rfl
theorem rows_app {l u r : List UInt8} {L : List Rw} (hu : contH u = false) (hg : (hdC r == [93]) = true ∨ tlC r ≠ []) (h : rowsP l = some (L, r)) : rowsP (l ++ u) = some (L, r ++ u) := by
  unfold rowsP at h ⊢
  cases hi : itemP l with
  | none => rw [hi] at h; cases h
  | some z =>
    obtain ⟨L1, c, r1⟩ := z
    rw [hi] at h
    rw [item_app hu hi]
    simp only at h ⊢
    by_cases hc : c.size = 0
    · rw [if_pos hc] at h ⊢; cases h; rfl
    rw [if_neg hc] at h ⊢
    by_cases hq : rngP r1 = true
    · rw [if_pos hq] at h
      have hq2 := hq
      unfold rngP at hq2
      simp only [Bool.and_eq_true, Bool.not_eq_true'] at hq2
      have ht : tlC r1 ≠ [] := by intro h0; rw [h0] at hq2; exact absurd hq2.2.1 (by decide)
      rw [if_pos (by rw [rng_app hu (.inr ht)]; exact hq), tl_app (ne_hd hq2.1) hu]
      cases hi2 : itemP (tlC r1) with
      | none => rw [hi2] at h; cases h
      | some z =>
        obtain ⟨L2, d, r2⟩ := z
        rw [hi2] at h
        rw [item_app hu hi2]
        simp only at h ⊢
        by_cases hb : bl d c = true
        · rw [if_pos hb] at h; cases h
        · rw [if_neg hb] at h ⊢; cases h; rfl
    · rw [if_neg hq] at h
      cases h
      rw [if_neg (by rw [rng_app hu hg]; exact hq)]
theorem itemP_tl {l : List UInt8} {L : List Rw} {c : ByteArray} {r : List UInt8} (h : itemP l = some (L, c, r)) : r.length ≤ (tlC l).length := by
  have h2 := tl_le (tlC l)
  unfold itemP at h
  split at h
  · split at h
    · cases h; exact h2
    split at h
    · cases h; exact h2
    split at h
    · cases h; exact h2
    cases he : escP (bsC (hdC (tlC l))) with
    | none => rw [he] at h; cases h
    | some d => rw [he] at h; cases h; exact h2
  · split at h
    · cases h
    · cases h; exact Nat.le_refl _
theorem rowsP_tl {l : List UInt8} {L : List Rw} {r : List UInt8} (h : rowsP l = some (L, r)) : r.length ≤ (tlC l).length := by
  unfold rowsP at h
  split at h
  · cases h
  · rename_i L1 c r1 h1
    have a1 := itemP_tl h1
    split at h
    · cases h; exact a1
    split at h
    · split at h
      · cases h
      · rename_i L2 d r2 h2
        have b1 := itemP_tl h2
        have b2 := tl_le r1
        have b3 := tl_le (tlC r1)
        split at h
        · cases h
        · cases h; omega
    · cases h; exact a1
theorem cls_app {u : List UInt8} (hu : contH u = false) (d : Nat) : ∀ (f : Nat) (acc : List Rw) (l : List UInt8) (L : List Rw) (r : List UInt8), clsP f acc l = some (L, r) → clsP (f + d) acc (l ++ u) = some (L, r ++ u)
  | 0, _, _, _, _, h => by cases h
  | f + 1, acc, l, L, r, h => by
    rw [clsP] at h
    rw [show f + 1 + d = (f + d) + 1 by omega, clsP]
    by_cases h1 : (hdC l == [93]) = true
    · rw [if_pos h1] at h
      cases h
      rw [hd_app (ne_hd h1) hu, tl_app (ne_hd h1) hu, if_pos h1]
    · rw [if_neg h1] at h
      cases hr : rowsP l with
      | none => rw [hr] at h; cases h
      | some z =>
        obtain ⟨L1, r1⟩ := z
        rw [hr] at h
        simp only at h
        have hl : l ≠ [] := by rintro rfl; cases hr
        have hg : (hdC r1 == [93]) = true ∨ tlC r1 ≠ [] := by
          by_cases hq : (hdC r1 == [93]) = true
          · exact .inl hq
          · refine .inr (fun h0 => ?_)
            cases f with
            | zero => cases h
            | succ f =>
              rw [clsP, if_neg hq] at h
              cases hr2 : rowsP r1 with
              | none => rw [hr2] at h; cases h
              | some z =>
                obtain ⟨L2, r2⟩ := z
                rw [hr2] at h
                simp only at h
                have h2 := rowsP_tl hr2
                rw [h0] at h2
                have : r2 = [] := List.eq_nil_of_length_eq_zero (by simpa using h2)
                subst this
                have := (clsP_sz _ _ _ _ _ h).1
                simp at this
        rw [hd_app hl hu, if_neg h1, rows_app hu hg hr]
        exact cls_app hu d f _ _ _ _ h
theorem class_app {l u r : List UInt8} {x : Rt} (hu : contH u = false) (h : classP l = .ok x r) : classP (l ++ u) = .ok x (r ++ u) := by
  have hl : l ≠ [] := by rintro rfl; cases h
  unfold classP at h ⊢
  rw [hd_app hl hu, tl_app hl hu]
  obtain ⟨l0, hl0⟩ : ∃ l0, (if (hdC l == [94]) = true then tlC l else l) = l0 := ⟨_, rfl⟩
  have hl1 : (if (hdC l == [94]) = true then tlC l ++ u else l ++ u) = l0 ++ u := by rw [← hl0]; split <;> rfl
  rw [hl0] at h
  rw [hl1]
  cases hc : clsP (l0.length + 1) [] l0 with
  | none => rw [hc] at h; cases h
  | some z =>
    obtain ⟨L, r1⟩ := z
    rw [hc] at h
    rw [show (l0 ++ u).length + 1 = l0.length + 1 + u.length by rw [List.length_append]; omega, cls_app hu _ _ _ _ _ _ hc]
    cases h; rfl
theorem num_app {u : List UInt8} (hu : contH u = false) : ∀ (f n k : Nat) (l : List UInt8), (numR f n k l).2.2 ≠ [] → numR f n k (l ++ u) = ((numR f n k l).1, (numR f n k l).2.1, (numR f n k l).2.2 ++ u)
  | 0, _, _, _, _ => rfl
  | f + 1, n, k, l, h => by
    have hl : l ≠ [] := by rintro rfl; exact h rfl
    rw [numR] at h ⊢
    rw [numR, hd_app hl hu, tl_app hl hu]
    split at h
    · rename_i y hy
      by_cases hd : digZ y.toNat = true
      · simp only [hd, if_true] at h ⊢
        exact num_app hu f _ _ _ h
      · simp only [hd, if_false, Bool.false_eq_true] at h ⊢
    · rfl
theorem bnd_app {l u r : List UInt8} {n : Nat} {m : Int} (hu : contH u = false) (h : bndP l = some (n, m, r)) : bndP (l ++ u) = some (n, m, r ++ u) := by
  unfold bndP at h ⊢
  simp only at h ⊢
  have hz : (numR 4 0 0 l).2.2 ≠ [] := by
    intro h0
    rw [h0] at h
    revert h
    rw [show (hdC ([] : List UInt8) == [44]) = false from rfl, show (hdC ([] : List UInt8) == [125]) = false from rfl]
    intro h
    simp at h
  rw [num_app hu _ _ _ _ hz]
  simp only
  rw [hd_app hz hu, tl_app hz hu]
  by_cases h1 : numOk (numR 4 0 0 l).1 (numR 4 0 0 l).2.1 = true
  · rw [if_pos h1] at h ⊢
    by_cases h2 : (hdC (numR 4 0 0 l).2.2 == [44]) = true
    · rw [if_pos h2] at h ⊢
      have ht : tlC (numR 4 0 0 l).2.2 ≠ [] := by
        intro h0
        rw [h0] at h
        revert h
        rw [show (hdC ([] : List UInt8) == [125]) = false from rfl]
        intro h
        have : numOk (numR 4 0 0 []).1 (numR 4 0 0 []).2.1 = false := rfl
        rw [this] at h
        simp at h
      rw [hd_app ht hu, tl_app ht hu]
      by_cases h3 : (hdC (tlC (numR 4 0 0 l).2.2) == [125]) = true
      · rw [if_pos h3] at h ⊢; cases h; rfl
      · rw [if_neg h3] at h ⊢
        by_cases h4 : (numOk (numR 4 0 0 (tlC (numR 4 0 0 l).2.2)).1 (numR 4 0 0 (tlC (numR 4 0 0 l).2.2)).2.1 && (hdC (numR 4 0 0 (tlC (numR 4 0 0 l).2.2)).2.2 == [125] && decide ((numR 4 0 0 l).1 ≤ (numR 4 0 0 (tlC (numR 4 0 0 l).2.2)).1))) = true
        · rw [if_pos h4] at h
          have h5 := h4
          simp only [Bool.and_eq_true] at h5
          have hy := ne_hd h5.2.1
          rw [num_app hu _ _ _ _ hy]
          simp only
          rw [hd_app hy hu, tl_app hy hu, if_pos h4]
          cases h; rfl
        · rw [if_neg h4] at h; cases h
    · rw [if_neg h2] at h ⊢
      by_cases h3 : (hdC (numR 4 0 0 l).2.2 == [125]) = true
      · rw [if_pos h3] at h ⊢; cases h; rfl
      · rw [if_neg h3] at h; cases h
  · rw [if_neg h1] at h; cases h
theorem laz_app {mi ma : Int} {x y : Rt} {l u r : List UInt8} (hu : Stop u) (h : lazP mi ma x l = .ok y r) : lazP mi ma x (l ++ u) = .ok y (r ++ u) := by
  unfold lazP at h ⊢
  by_cases hl : l = []
  · subst hl
    rw [List.nil_append, hu.q3]
    cases h
    rfl
  · rw [hd_app hl hu.ct, tl_app hl hu.ct]
    cases h
    congr 1
    split <;> rfl
theorem qnt_app {x y : Rt} {l u r : List UInt8} (hu : Stop u) (h : qntP x l = .ok y r) : qntP x (l ++ u) = .ok y (r ++ u) := by
  by_cases hl : l = []
  · subst hl
    have h2 : Res.ok x [] = .ok y r := h
    cases h2
    rw [List.nil_append]
    unfold qntP
    rw [hu.q1, hu.q2, hu.q3, hu.q4]
    rfl
  unfold qntP at h ⊢
  rw [hd_app hl hu.ct, tl_app hl hu.ct]
  by_cases k0 : (hdC l == [42]) = true
  · rw [if_pos k0] at h ⊢; exact laz_app hu h
  rw [if_neg k0] at h ⊢
  by_cases k1 : (hdC l == [43]) = true
  · rw [if_pos k1] at h ⊢; exact laz_app hu h
  rw [if_neg k1] at h ⊢
  by_cases k2 : (hdC l == [63]) = true
  · rw [if_pos k2] at h ⊢; exact laz_app hu h
  rw [if_neg k2] at h ⊢
  by_cases k3 : (hdC l == [123]) = true
  · rw [if_pos k3] at h ⊢
    cases hb : bndP (tlC l) with
    | none => rw [hb] at h; cases h
    | some z =>
      obtain ⟨n, m, r0⟩ := z
      rw [hb] at h
      rw [bnd_app hu.ct hb]
      exact laz_app hu h
  · rw [if_neg k3] at h ⊢; cases h; rfl
end Go.Proofs.YtmacpmblodhcpaaGreatDoor
