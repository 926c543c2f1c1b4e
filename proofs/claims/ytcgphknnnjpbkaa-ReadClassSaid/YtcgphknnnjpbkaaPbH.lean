/- Plain facts: what is read does not hang on what stands behind; terms and alternatives as lists; how deep a group is. No condition. Plain facts: terms and alternatives as lists, how deep a group is, what brackets make. No condition. Plain facts: two texts with a bar between, side by side, in brackets, with a quantifier. No condition. What a law's call of Read leaves; lists of two written out. No condition. Plain facts: a class of rows of letters and digits is read as their union. No condition. Arguments that are slices of pairs of integers; the lesser of two texts; letters and digits by numbers. No condition. -/
import Derived.Test.YtcgphknnnjpbkaaPaY
import Derived.Test.YtcgphknnnjpbkaaArgs
import Derived.Test.YtcgphknnnjpbkaaSpanM
import Derived.Test.YtcgphknnnjpbkaaLow
import Derived.Deep.Slices
import Derived.ChangeSame
namespace Go.Proofs.Ytcgphknnnjpbkaa
section
open SetM
set_option linter.unusedVariables false
theorem tk_app {l u : List UInt8} (hu : contH u = false) : (l ++ u).takeWhile contB = l.takeWhile contB := by
  induction l with
  | nil =>
    cases u with
    | nil => rfl
    | cons a u => rw [List.nil_append, List.takeWhile_cons]; simp only [contH] at hu; rw [hu]; rfl
  | cons a l ih =>
    rw [List.cons_append, List.takeWhile_cons, List.takeWhile_cons]
    cases contB a
    · rfl
    · rw [if_pos rfl, if_pos rfl, ih]
theorem firstN_app {l u : List UInt8} (hl : l ≠ []) (hu : contH u = false) : firstN (l ++ u) = firstN l := by
  cases l with
  | nil => exact absurd rfl hl
  | cons a l => show 1 + ((l ++ u).takeWhile contB).length = 1 + (l.takeWhile contB).length; rw [tk_app hu]
theorem hd_app {l u : List UInt8} (hl : l ≠ []) (hu : contH u = false) : hdC (l ++ u) = hdC l := by
  unfold hdC; rw [firstN_app hl hu, List.take_append_of_le_length (firstN_le l)]
theorem tl_app {l u : List UInt8} (hl : l ≠ []) (hu : contH u = false) : tlC (l ++ u) = tlC l ++ u := by
  unfold tlC; rw [firstN_app hl hu, List.drop_append_of_le_length (firstN_le l)]
/-- What may stand behind what is read: no quantifier's sign, no part of a character. -/
structure Stop (u : List UInt8) : Prop where
  ct : contH u = false
  q1 : (hdC u == [42]) = false
  q2 : (hdC u == [43]) = false
  q3 : (hdC u == [63]) = false
  q4 : (hdC u == [123]) = false
theorem stop_nil : Stop [] := ⟨rfl, rfl, rfl, rfl, rfl⟩
theorem ne_hd {l : List UInt8} {y : UInt8} (h : (hdC l == [y]) = true) : l ≠ [] := by
  rintro rfl; have := beq_iff_eq.1 h; cases this
theorem hd1 {y : UInt8} {u : List UInt8} (hu : contH u = false) : hdC (y :: u) = [y] ∧ tlC (y :: u) = u := by
  have h1 : u.takeWhile contB = [] := by have := tk_app (l := []) hu; simpa using this
  have h2 : firstN (y :: u) = 1 := by show 1 + (u.takeWhile contB).length = 1; rw [h1]; rfl
  exact ⟨by unfold hdC; rw [h2]; rfl, by unfold tlC; rw [h2]; rfl⟩
theorem stop_sign {y : UInt8} {u : List UInt8} (hu : contH u = false) (hy : y = 124 ∨ y = 41 ∨ y = 40) : Stop (y :: u) := by
  obtain ⟨h1, h2⟩ := hd1 (y := y) hu
  refine ⟨?_, ?_, ?_, ?_, ?_⟩
  · rcases hy with rfl | rfl | rfl <;> rfl
  all_goals (rw [h1]; rcases hy with rfl | rfl | rfl <;> decide)
theorem bak_app {l u r : List UInt8} {x : Rt} (hu : contH u = false) (h : bakP l = .ok x r) : bakP (l ++ u) = .ok x (r ++ u) := by
  have hl : l ≠ [] := by
    rintro rfl
    revert h
    show bakP [] = _ → _
    rw [show bakP [] = .err 10 from rfl]
    intro h; cases h
  unfold bakP at h ⊢
  rw [hd_app hl hu, tl_app hl hu]
  by_cases k0 : (hdC l == [98]) = true
  · rw [if_pos k0] at h ⊢; cases h; rfl
  rw [if_neg k0] at h ⊢
  by_cases k1 : (hdC l == [66]) = true
  · rw [if_pos k1] at h ⊢; cases h; rfl
  rw [if_neg k1] at h ⊢
  by_cases k2 : (hdC l == [100]) = true
  · rw [if_pos k2] at h ⊢; cases h; rfl
  rw [if_neg k2] at h ⊢
  by_cases k3 : (hdC l == [119]) = true
  · rw [if_pos k3] at h ⊢; cases h; rfl
  rw [if_neg k3] at h ⊢
  by_cases k4 : (hdC l == [115]) = true
  · rw [if_pos k4] at h ⊢; cases h; rfl
  rw [if_neg k4] at h ⊢
  by_cases k5 : (hdC l == [68]) = true
  · rw [if_pos k5] at h ⊢; cases h; rfl
  rw [if_neg k5] at h ⊢
  by_cases k6 : (hdC l == [87]) = true
  · rw [if_pos k6] at h ⊢; cases h; rfl
  rw [if_neg k6] at h ⊢
  by_cases k7 : (hdC l == [83]) = true
  · rw [if_pos k7] at h ⊢; cases h; rfl
  rw [if_neg k7] at h ⊢
  cases he : escP (bsC (hdC l)) with
  | none => rw [he] at h; cases h
  | some d => rw [he] at h; cases h; rfl
theorem item_app {l u r : List UInt8} {L : List Rw} {c : ByteArray} (hu : contH u = false) (h : itemP l = some (L, c, r)) : itemP (l ++ u) = some (L, c, r ++ u) := by
  have hl : l ≠ [] := by rintro rfl; cases h
  unfold itemP at h ⊢
  rw [hd_app hl hu, tl_app hl hu]
  by_cases k0 : (hdC l == [92]) = true
  · rw [if_pos k0] at h ⊢
    have ht : tlC l ≠ [] := by
      intro h0
      rw [h0] at h
      revert h
      rw [show (if (hdC [] == [100]) = true then some (rD, (⟨#[]⟩ : ByteArray), tlC ([] : List UInt8)) else if (hdC [] == [119]) = true then some (rW, ⟨#[]⟩, tlC []) else if (hdC [] == [115]) = true then some (rS, ⟨#[]⟩, tlC []) else (escP (bsC (hdC []))).map (fun d => ([], d, tlC []))) = none from rfl]
      intro h; cases h
    rw [hd_app ht hu, tl_app ht hu]
    by_cases k1 : (hdC (tlC l) == [100]) = true
    · rw [if_pos k1] at h ⊢; cases h; rfl
    rw [if_neg k1] at h ⊢
    by_cases k2 : (hdC (tlC l) == [119]) = true
    · rw [if_pos k2] at h ⊢; cases h; rfl
    rw [if_neg k2] at h ⊢
    by_cases k3 : (hdC (tlC l) == [115]) = true
    · rw [if_pos k3] at h ⊢; cases h; rfl
    rw [if_neg k3] at h ⊢
    cases he : escP (bsC (hdC (tlC l))) with
    | none => rw [he] at h; cases h
    | some d => rw [he] at h; cases h; rfl
  · rw [if_neg k0] at h ⊢
    by_cases k1 : (hdC l == []) = true
    · rw [if_pos k1] at h; cases h
    · rw [if_neg k1] at h ⊢; cases h; rfl
theorem rng_app {r u : List UInt8} (hu : contH u = false) (hg : (hdC r == [93]) = true ∨ tlC r ≠ []) : rngP (r ++ u) = rngP r := by
  have hr : r ≠ [] := by
    rcases hg with h | h
    · exact ne_hd h
    · rintro rfl; exact h rfl
  unfold rngP
  rw [hd_app hr hu, tl_app hr hu]
  rcases hg with h | h
  · rw [beq_iff_eq.1 h]; rfl
  · rw [hd_app h hu]
    cases hq : tlC r with
    | nil => exact absurd hq h
    | cons a q => rfl
theorem rows_app {l u r : List UInt8} {L : List Rw} (hu : contH u = false) (hg : (hdC r == [93]) = true ∨ tlC r ≠ []) (h : rowsP l = some (L, r)) : rowsP (l ++ u) = some (L, r ++ u) := by
  unfold rowsP at h ⊢
  cases hi : itemP l with
  | none => rw [hi] at h; cases h
  | some z =>
    obtain ⟨L1, c, r1⟩ := z
    rw [hi] at h
    rw [item_app hu hi]
    simp only at h ⊢
    by_cases hc : c.size = 0
    · rw [if_pos hc] at h ⊢; cases h; rfl
    rw [if_neg hc] at h ⊢
    by_cases hq : rngP r1 = true
    · rw [if_pos hq] at h
      have hq2 := hq
      unfold rngP at hq2
      simp only [Bool.and_eq_true, Bool.not_eq_true'] at hq2
      have ht : tlC r1 ≠ [] := by intro h0; rw [h0] at hq2; exact absurd hq2.2.1 (by decide)
      rw [if_pos (by rw [rng_app hu (.inr ht)]; exact hq), tl_app (ne_hd hq2.1) hu]
      cases hi2 : itemP (tlC r1) with
      | none => rw [hi2] at h; cases h
      | some z =>
        obtain ⟨L2, d, r2⟩ := z
        rw [hi2] at h
        rw [item_app hu hi2]
        simp only at h ⊢
        by_cases hb : bl d c = true
        · rw [if_pos hb] at h; cases h
        · rw [if_neg hb] at h ⊢; cases h; rfl
    · rw [if_neg hq] at h
      cases h
      rw [if_neg (by rw [rng_app hu hg]; exact hq)]
theorem itemP_tl {l : List UInt8} {L : List Rw} {c : ByteArray} {r : List UInt8} (h : itemP l = some (L, c, r)) : r.length ≤ (tlC l).length := by
  have h2 := tl_le (tlC l)
  unfold itemP at h
  split at h
  · split at h
    · cases h; exact h2
    split at h
    · cases h; exact h2
    split at h
    · cases h; exact h2
    cases he : escP (bsC (hdC (tlC l))) with
    | none => rw [he] at h; cases h
    | some d => rw [he] at h; cases h; exact h2
  · split at h
    · cases h
    · cases h; exact Nat.le_refl _
theorem rowsP_tl {l : List UInt8} {L : List Rw} {r : List UInt8} (h : rowsP l = some (L, r)) : r.length ≤ (tlC l).length := by
  unfold rowsP at h
  split at h
  · cases h
  · rename_i L1 c r1 h1
    have a1 := itemP_tl h1
    split at h
    · cases h; exact a1
    split at h
    · split at h
      · cases h
      · rename_i L2 d r2 h2
        have b1 := itemP_tl h2
        have b2 := tl_le r1
        have b3 := tl_le (tlC r1)
        split at h
        · cases h
        · cases h; omega
    · cases h; exact a1
theorem cls_app {u : List UInt8} (hu : contH u = false) (d : Nat) : ∀ (f : Nat) (acc : List Rw) (l : List UInt8) (L : List Rw) (r : List UInt8), clsP f acc l = some (L, r) → clsP (f + d) acc (l ++ u) = some (L, r ++ u)
  | 0, _, _, _, _, h => by cases h
  | f + 1, acc, l, L, r, h => by
    rw [clsP] at h
    rw [show f + 1 + d = (f + d) + 1 by omega, clsP]
    by_cases h1 : (hdC l == [93]) = true
    · rw [if_pos h1] at h
      cases h
      rw [hd_app (ne_hd h1) hu, tl_app (ne_hd h1) hu, if_pos h1]
    · rw [if_neg h1] at h
      cases hr : rowsP l with
      | none => rw [hr] at h; cases h
      | some z =>
        obtain ⟨L1, r1⟩ := z
        rw [hr] at h
        simp only at h
        have hl : l ≠ [] := by rintro rfl; cases hr
        have hg : (hdC r1 == [93]) = true ∨ tlC r1 ≠ [] := by
          by_cases hq : (hdC r1 == [93]) = true
          · exact .inl hq
          · refine .inr (fun h0 => ?_)
            cases f with
            | zero => cases h
            | succ f =>
              rw [clsP, if_neg hq] at h
              cases hr2 : rowsP r1 with
              | none => rw [hr2] at h; cases h
              | some z =>
                obtain ⟨L2, r2⟩ := z
                rw [hr2] at h
                simp only at h
                have h2 := rowsP_tl hr2
                rw [h0] at h2
                have : r2 = [] := List.eq_nil_of_length_eq_zero (by simpa using h2)
                subst this
                have := (clsP_sz _ _ _ _ _ h).1
                simp at this
        rw [hd_app hl hu, if_neg h1, rows_app hu hg hr]
        exact cls_app hu d f _ _ _ _ h
theorem class_app {l u r : List UInt8} {x : Rt} (hu : contH u = false) (h : classP l = .ok x r) : classP (l ++ u) = .ok x (r ++ u) := by
  have hl : l ≠ [] := by rintro rfl; cases h
  unfold classP at h ⊢
  rw [hd_app hl hu, tl_app hl hu]
  obtain ⟨l0, hl0⟩ : ∃ l0, (if (hdC l == [94]) = true then tlC l else l) = l0 := ⟨_, rfl⟩
  have hl1 : (if (hdC l == [94]) = true then tlC l ++ u else l ++ u) = l0 ++ u := by rw [← hl0]; split <;> rfl
  rw [hl0] at h
  rw [hl1]
  cases hc : clsP (l0.length + 1) [] l0 with
  | none => rw [hc] at h; cases h
  | some z =>
    obtain ⟨L, r1⟩ := z
    rw [hc] at h
    rw [show (l0 ++ u).length + 1 = l0.length + 1 + u.length by rw [List.length_append]; omega, cls_app hu _ _ _ _ _ _ hc]
    cases h; rfl
theorem num_app {u : List UInt8} (hu : contH u = false) : ∀ (f n k : Nat) (l : List UInt8), (numR f n k l).2.2 ≠ [] → numR f n k (l ++ u) = ((numR f n k l).1, (numR f n k l).2.1, (numR f n k l).2.2 ++ u)
  | 0, _, _, _, _ => rfl
  | f + 1, n, k, l, h => by
    have hl : l ≠ [] := by rintro rfl; exact h rfl
    rw [numR] at h ⊢
    rw [numR, hd_app hl hu, tl_app hl hu]
    split at h
    · rename_i y hy
      by_cases hd : digZ y.toNat = true
      · simp only [hd, if_true] at h ⊢
        exact num_app hu f _ _ _ h
      · simp only [hd, if_false, Bool.false_eq_true] at h ⊢
    · rfl
theorem bnd_app {l u r : List UInt8} {n : Nat} {m : Int} (hu : contH u = false) (h : bndP l = some (n, m, r)) : bndP (l ++ u) = some (n, m, r ++ u) := by
  unfold bndP at h ⊢
  simp only at h ⊢
  have hz : (numR 4 0 0 l).2.2 ≠ [] := by
    intro h0
    rw [h0] at h
    revert h
    rw [show (hdC ([] : List UInt8) == [44]) = false from rfl, show (hdC ([] : List UInt8) == [125]) = false from rfl]
    intro h
    simp at h
  rw [num_app hu _ _ _ _ hz]
  simp only
  rw [hd_app hz hu, tl_app hz hu]
  by_cases h1 : numOk (numR 4 0 0 l).1 (numR 4 0 0 l).2.1 = true
  · rw [if_pos h1] at h ⊢
    by_cases h2 : (hdC (numR 4 0 0 l).2.2 == [44]) = true
    · rw [if_pos h2] at h ⊢
      have ht : tlC (numR 4 0 0 l).2.2 ≠ [] := by
        intro h0
        rw [h0] at h
        revert h
        rw [show (hdC ([] : List UInt8) == [125]) = false from rfl]
        intro h
        have : numOk (numR 4 0 0 []).1 (numR 4 0 0 []).2.1 = false := rfl
        rw [this] at h
        simp at h
      rw [hd_app ht hu, tl_app ht hu]
      by_cases h3 : (hdC (tlC (numR 4 0 0 l).2.2) == [125]) = true
      · rw [if_pos h3] at h ⊢; cases h; rfl
      · rw [if_neg h3] at h ⊢
        by_cases h4 : (numOk (numR 4 0 0 (tlC (numR 4 0 0 l).2.2)).1 (numR 4 0 0 (tlC (numR 4 0 0 l).2.2)).2.1 && (hdC (numR 4 0 0 (tlC (numR 4 0 0 l).2.2)).2.2 == [125] && decide ((numR 4 0 0 l).1 ≤ (numR 4 0 0 (tlC (numR 4 0 0 l).2.2)).1))) = true
        · rw [if_pos h4] at h
          have h5 := h4
          simp only [Bool.and_eq_true] at h5
          have hy := ne_hd h5.2.1
          rw [num_app hu _ _ _ _ hy]
          simp only
          rw [hd_app hy hu, tl_app hy hu, if_pos h4]
          cases h; rfl
        · rw [if_neg h4] at h; cases h
    · rw [if_neg h2] at h ⊢
      by_cases h3 : (hdC (numR 4 0 0 l).2.2 == [125]) = true
      · rw [if_pos h3] at h ⊢; cases h; rfl
      · rw [if_neg h3] at h; cases h
  · rw [if_neg h1] at h; cases h
theorem laz_app {mi ma : Int} {x y : Rt} {l u r : List UInt8} (hu : Stop u) (h : lazP mi ma x l = .ok y r) : lazP mi ma x (l ++ u) = .ok y (r ++ u) := by
  unfold lazP at h ⊢
  by_cases hl : l = []
  · subst hl
    rw [List.nil_append, hu.q3]
    cases h
    rfl
  · rw [hd_app hl hu.ct, tl_app hl hu.ct]
    cases h
    congr 1
    split <;> rfl
theorem qnt_app {x y : Rt} {l u r : List UInt8} (hu : Stop u) (h : qntP x l = .ok y r) : qntP x (l ++ u) = .ok y (r ++ u) := by
  by_cases hl : l = []
  · subst hl
    have h2 : Res.ok x [] = .ok y r := h
    cases h2
    rw [List.nil_append]
    unfold qntP
    rw [hu.q1, hu.q2, hu.q3, hu.q4]
    rfl
  unfold qntP at h ⊢
  rw [hd_app hl hu.ct, tl_app hl hu.ct]
  by_cases k0 : (hdC l == [42]) = true
  · rw [if_pos k0] at h ⊢; exact laz_app hu h
  rw [if_neg k0] at h ⊢
  by_cases k1 : (hdC l == [43]) = true
  · rw [if_pos k1] at h ⊢; exact laz_app hu h
  rw [if_neg k1] at h ⊢
  by_cases k2 : (hdC l == [63]) = true
  · rw [if_pos k2] at h ⊢; exact laz_app hu h
  rw [if_neg k2] at h ⊢
  by_cases k3 : (hdC l == [123]) = true
  · rw [if_pos k3] at h ⊢
    cases hb : bndP (tlC l) with
    | none => rw [hb] at h; cases h
    | some z =>
      obtain ⟨n, m, r0⟩ := z
      rw [hb] at h
      rw [bnd_app hu.ct hb]
      exact laz_app hu h
  · rw [if_neg k3] at h ⊢; cases h; rfl
end
section
open SetM
set_option linter.unusedVariables false
theorem end_ne {l : List UInt8} (h : endB l = false) : l ≠ [] := by rintro rfl; cases h
theorem end_app {l u : List UInt8} (hl : l ≠ []) (hu : contH u = false) : endB (l ++ u) = endB l := by
  unfold endB
  rw [hd_app hl hu]
  cases l with
  | nil => exact absurd rfl hl
  | cons a l => rfl
/-- Kids' reading does not hang on what stands behind. -/
def PatL (pat : List UInt8 → Res) : Prop := ∀ l y s u, Stop u → s ≠ [] → pat l = .ok y s → pat (l ++ u) = .ok y (s ++ u)
theorem grpE_app {k : Int} {pat : List UInt8 → Res} (hp : PatL pat) {l u r : List UInt8} {x : Rt} (hu : Stop u) (h : grpE k (pat l) = .ok x r) : grpE k (pat (l ++ u)) = .ok x (r ++ u) := by
  cases hq : pat l with
  | no => rw [hq] at h; cases h
  | err n => rw [hq] at h; cases h
  | ok y s =>
    rw [hq] at h
    simp only [grpE] at h
    by_cases hs : (hdC s == [41]) = true
    · rw [if_pos hs] at h
      rw [hp l y s u hu (ne_hd hs) hq]
      simp only [grpE]
      rw [hd_app (ne_hd hs) hu.ct, tl_app (ne_hd hs) hu.ct, if_pos hs]
      cases h; rfl
    · rw [if_neg hs] at h; cases h
theorem grp_app {deep : Bool} {pat : List UInt8 → Res} (hp : deep = false → PatL pat) {l u r : List UInt8} {x : Rt} (hu : Stop u) (h : grpP deep pat l = .ok x r) : grpP deep pat (l ++ u) = .ok x (r ++ u) := by
  have hl : l = [] ∨ l ≠ [] := by cases l <;> simp
  unfold grpP at h ⊢
  by_cases hd : deep = true
  · rw [if_pos hd] at h; cases h
  rw [if_neg hd] at h ⊢
  have hp := hp (Bool.eq_false_iff.2 hd)
  rcases hl with rfl | hl
  · rw [show (hdC ([] : List UInt8) == [63]) = false from rfl, if_neg (by decide)] at h
    rw [List.nil_append, hu.q3, if_neg (by decide)]
    have := grpE_app hp (l := []) hu h
    rwa [List.nil_append] at this
  rw [hd_app hl hu.ct, tl_app hl hu.ct]
  by_cases h1 : (hdC l == [63]) = true
  · rw [if_pos h1] at h ⊢
    by_cases h2 : (hdC (tlC l) == [58]) = true
    · rw [if_pos h2] at h
      rw [hd_app (ne_hd h2) hu.ct, tl_app (ne_hd h2) hu.ct, if_pos h2]
      exact grpE_app hp hu h
    · rw [if_neg h2] at h; cases h
  · rw [if_neg h1] at h ⊢
    exact grpE_app hp hu h
theorem atom_app {deep : Bool} {pat : List UInt8 → Res} (hp : deep = false → PatL pat) {l u r : List UInt8} {x : Rt} (hl : l ≠ []) (hu : Stop u) (h : atomP deep pat l = .ok x r) : atomP deep pat (l ++ u) = .ok x (r ++ u) := by
  unfold atomP at h ⊢
  rw [hd_app hl hu.ct, tl_app hl hu.ct]
  by_cases k0 : (hdC l == [46]) = true
  · rw [if_pos k0] at h ⊢; cases h; rfl
  rw [if_neg k0] at h ⊢
  by_cases k1 : (hdC l == [40]) = true
  · rw [if_pos k1] at h ⊢; exact grp_app hp hu h
  rw [if_neg k1] at h ⊢
  by_cases k2 : (hdC l == [91]) = true
  · rw [if_pos k2] at h ⊢; exact class_app hu.ct h
  rw [if_neg k2] at h ⊢
  by_cases k3 : (hdC l == [92]) = true
  · rw [if_pos k3] at h ⊢; exact bak_app hu.ct h
  rw [if_neg k3] at h ⊢
  by_cases k4 : (hdC l == [42]) = true
  · rw [if_pos k4] at h; cases h
  rw [if_neg k4] at h ⊢
  by_cases k5 : (hdC l == [43]) = true
  · rw [if_pos k5] at h; cases h
  rw [if_neg k5] at h ⊢
  by_cases k6 : (hdC l == [63]) = true
  · rw [if_pos k6] at h; cases h
  rw [if_neg k6] at h ⊢
  by_cases k7 : (hdC l == [123]) = true
  · rw [if_pos k7] at h; cases h
  rw [if_neg k7] at h ⊢
  cases h; rfl
theorem term_app {deep : Bool} {pat : List UInt8 → Res} (hp : deep = false → PatL pat) {l u r : List UInt8} {x : Rt} (hl : l ≠ []) (hu : Stop u) (h : termP deep pat l = .ok x r) : termP deep pat (l ++ u) = .ok x (r ++ u) := by
  unfold termP at h ⊢
  rw [hd_app hl hu.ct, tl_app hl hu.ct]
  by_cases k0 : (hdC l == [94]) = true
  · rw [if_pos k0] at h ⊢; cases h; rfl
  rw [if_neg k0] at h ⊢
  by_cases k1 : (hdC l == [36]) = true
  · rw [if_pos k1] at h ⊢; cases h; rfl
  rw [if_neg k1] at h ⊢
  cases ha : atomP deep pat l with
  | no => rw [ha] at h; cases h
  | err n => rw [ha] at h; cases h
  | ok y s =>
    rw [ha] at h
    rw [atom_app hp hl hu ha]
    simp only at h ⊢
    by_cases hk : y.k = 10 ∨ y.k = 11
    · rw [if_pos hk] at h ⊢; cases h; rfl
    · rw [if_neg hk] at h ⊢; exact qnt_app hu h
/-- These terms are read there, one behind the other. -/
inductive TermsR (deep : Bool) (pat : List UInt8 → Res) : List UInt8 → List Rt → List UInt8 → Prop
  | nil (l : List UInt8) : TermsR deep pat l [] l
  | cons {l r1 r : List UInt8} {x : Rt} {ts : List Rt} (hE : endB l = false) (ht : termP deep pat l = .ok x r1) (h : TermsR deep pat r1 ts r) : TermsR deep pat l (x :: ts) r
theorem terms_of {deep : Bool} {pat : List UInt8 → Res} : ∀ (n : Nat) (acc : List Rt) (l : List UInt8) (x : Rt) (r : List UInt8), termsP deep pat n acc l = .ok x r → ∃ ts, TermsR deep pat l ts r ∧ endB r = true ∧ x = seqX (flK 0 (acc ++ ts))
  | 0, _, _, _, _, h => by cases h
  | n + 1, acc, l, x, r, h => by
    rw [termsP] at h
    by_cases hE : endB l = true
    · rw [if_pos hE] at h
      cases h
      exact ⟨[], .nil l, hE, by rw [List.append_nil]⟩
    · rw [if_neg hE] at h
      cases ht : termP deep pat l with
      | no => rw [ht] at h; cases h
      | err n => rw [ht] at h; cases h
      | ok y s =>
        rw [ht] at h
        obtain ⟨ts, h1, h2, h3⟩ := terms_of n (acc ++ [y]) s x r h
        exact ⟨y :: ts, .cons (Bool.eq_false_iff.2 hE) ht h1, h2, by rw [h3, List.append_assoc]; rfl⟩
theorem terms_to {deep : Bool} {pat : List UInt8 → Res} {l r : List UInt8} {ts : List Rt} (h : TermsR deep pat l ts r) : ∀ (n : Nat) (acc : List Rt), termsP deep pat (n + ts.length) acc l = termsP deep pat n (acc ++ ts) r := by
  induction h with
  | nil l => intro n acc; rw [List.append_nil]; rfl
  | cons hE ht h ih =>
    rename_i l r1 r x ts
    intro n acc
    rw [show n + (x :: ts).length = (n + ts.length) + 1 by simp; omega, termsP, hE, if_neg (by decide), ht]
    simp only
    rw [ih n (acc ++ [x]), List.append_assoc]; rfl
theorem TermsR.app {deep : Bool} {pat : List UInt8 → Res} (hp : deep = false → PatL pat) {l r u : List UInt8} {ts : List Rt} (h : TermsR deep pat l ts r) (hu : Stop u) : TermsR deep pat (l ++ u) ts (r ++ u) := by
  induction h with
  | nil l => exact .nil _
  | cons hE ht h ih => exact .cons (by rw [end_app (end_ne hE) hu.ct]; exact hE) (term_app hp (end_ne hE) hu ht) ih
theorem TermsR.trans {deep : Bool} {pat : List UInt8 → Res} {l r r' : List UInt8} {ts us : List Rt} (h : TermsR deep pat l ts r) (g : TermsR deep pat r us r') : TermsR deep pat l (ts ++ us) r' := by
  induction h with
  | nil l => exact g
  | cons hE ht h ih => exact .cons hE ht (ih g)
theorem TermsR.len {deep : Bool} {pat : List UInt8 → Res} (hg : deep = false → ∀ l, Gd 0 2 l (pat l)) {l r : List UInt8} {ts : List Rt} (h : TermsR deep pat l ts r) : ts.length + r.length ≤ l.length := by
  induction h with
  | nil l => simp
  | cons hE ht h ih =>
    have := term_gd hg _ (end_ne hE)
    rw [ht] at this
    have := this.1
    rw [List.length_cons]; omega
/-- All terms up to an end. -/
theorem terms_all {deep : Bool} {pat : List UInt8 → Res} (hg : deep = false → ∀ l, Gd 0 2 l (pat l)) {l r : List UInt8} {ts : List Rt} (h : TermsR deep pat l ts r) (hE : endB r = true) : termsP deep pat (l.length + 1) [] l = .ok (seqX (flK 0 ts)) r := by
  have hl := h.len hg
  obtain ⟨n, hn⟩ : ∃ n, l.length + 1 = (n + 1) + ts.length := ⟨l.length - ts.length, by omega⟩
  rw [hn, terms_to h, termsP, if_pos hE]; rfl
/-- These alternatives are read there. -/
inductive AltsR (deep : Bool) (pat : List UInt8 → Res) : List UInt8 → List Rt → List UInt8 → Prop
  | last {l r : List UInt8} {ts : List Rt} (ht : TermsR deep pat l ts r) (hE : endB r = true) (hq : (hdC r == [124]) = false) : AltsR deep pat l [seqX (flK 0 ts)] r
  | more {l r r' : List UInt8} {ts xs : List Rt} (ht : TermsR deep pat l ts r) (hq : (hdC r == [124]) = true) (h : AltsR deep pat (tlC r) xs r') : AltsR deep pat l (seqX (flK 0 ts) :: xs) r'
theorem end_bar {r : List UInt8} (h : (hdC r == [124]) = true) : endB r = true := by unfold endB; rw [h]; simp
theorem alts_of {deep : Bool} {pat : List UInt8 → Res} : ∀ (n : Nat) (acc : List Rt) (l : List UInt8) (x : Rt) (r : List UInt8), altsP deep pat n acc l = .ok x r → ∃ xs, AltsR deep pat l xs r ∧ x = altX (flK 1 (acc ++ xs))
  | 0, _, _, _, _, h => by cases h
  | n + 1, acc, l, x, r, h => by
    rw [altsP] at h
    cases ht : termsP deep pat (l.length + 1) [] l with
    | no => rw [ht] at h; cases h
    | err n => rw [ht] at h; cases h
    | ok y s =>
      rw [ht] at h
      simp only at h
      obtain ⟨ts, h1, h2, h3⟩ := terms_of _ _ _ _ _ ht
      rw [List.nil_append] at h3
      subst h3
      by_cases hq : (hdC s == [124]) = true
      · rw [if_pos hq] at h
        obtain ⟨xs, g1, g2⟩ := alts_of n _ _ _ _ h
        exact ⟨_ :: xs, .more h1 hq g1, by rw [g2, List.append_assoc]; rfl⟩
      · rw [if_neg hq] at h
        cases h
        exact ⟨[_], .last h1 h2 (Bool.eq_false_iff.2 hq), rfl⟩
theorem alts_to {deep : Bool} {pat : List UInt8 → Res} (hg : deep = false → ∀ l, Gd 0 2 l (pat l)) {l r : List UInt8} {xs : List Rt} (h : AltsR deep pat l xs r) : ∀ (n : Nat) (acc : List Rt), altsP deep pat (n + xs.length) acc l = .ok (altX (flK 1 (acc ++ xs))) r := by
  induction h with
  | last ht hE hq =>
    intro n acc
    rw [show n + [seqX (flK 0 _)].length = n + 1 from rfl, altsP, terms_all hg ht hE]
    simp only
    rw [hq, if_neg (by decide)]
  | more ht hq h ih =>
    rename_i l r r' ts xs
    intro n acc
    rw [show n + (seqX (flK 0 ts) :: xs).length = (n + xs.length) + 1 by simp; omega, altsP, terms_all hg ht (end_bar hq)]
    simp only
    rw [if_pos hq, ih, List.append_assoc]; rfl
theorem AltsR.len {deep : Bool} {pat : List UInt8 → Res} (hg : deep = false → ∀ l, Gd 0 2 l (pat l)) {l r : List UInt8} {xs : List Rt} (h : AltsR deep pat l xs r) : xs.length + r.length ≤ l.length + 1 := by
  induction h with
  | last ht hE hq => have := ht.len hg; simp; omega
  | more ht hq h ih => have := ht.len hg; have := hd_ne hq; rw [List.length_cons]; omega
theorem alts_all {deep : Bool} {pat : List UInt8 → Res} (hg : deep = false → ∀ l, Gd 0 2 l (pat l)) {l r : List UInt8} {xs : List Rt} (h : AltsR deep pat l xs r) : altsP deep pat (l.length + 1) [] l = .ok (altX (flK 1 xs)) r := by
  have := h.len hg
  obtain ⟨n, hn⟩ : ∃ n, l.length + 1 = n + xs.length := ⟨l.length + 1 - xs.length, by omega⟩
  rw [hn, alts_to hg h]; rfl
theorem AltsR.app {deep : Bool} {pat : List UInt8 → Res} (hp : deep = false → PatL pat) {l r u : List UInt8} {xs : List Rt} (h : AltsR deep pat l xs r) (hu : Stop u) (hr : r ≠ [] ∨ (endB u = true ∧ (hdC u == [124]) = false)) : AltsR deep pat (l ++ u) xs (r ++ u) := by
  induction h with
  | last ht hE hq =>
    rename_i l r ts
    by_cases h0 : r = []
    · subst h0
      have hr : endB u = true ∧ (hdC u == [124]) = false := by
        rcases hr with h | h
        · exact absurd rfl h
        · exact h
      exact .last (ht.app hp hu) hr.1 hr.2
    · exact .last (ht.app hp hu) (by rw [end_app h0 hu.ct]; exact hE) (by rw [hd_app h0 hu.ct]; exact hq)
  | more ht hq h ih =>
    exact .more (ht.app hp hu) (by rw [hd_app (ne_hd hq) hu.ct]; exact hq) (by rw [tl_app (ne_hd hq) hu.ct]; exact ih hr)
/-- Alternatives of both, the one behind the other. -/
theorem AltsR.bar {deep : Bool} {pat : List UInt8 → Res} (hp : deep = false → PatL pat) {l m r : List UInt8} {xs ys : List Rt} (h : AltsR deep pat l xs []) (hm : contH m = false) (g : AltsR deep pat m ys r) : AltsR deep pat (l ++ 124 :: m) (xs ++ ys) r := by
  have hu : Stop (124 :: m) := stop_sign hm (.inl rfl)
  obtain ⟨e1, e2⟩ := hd1 (y := 124) hm
  generalize hz : ([] : List UInt8) = z at h
  induction h with
  | last ht hE hq =>
    subst hz
    exact .more (ht.app hp hu) (by rw [List.nil_append, e1]; rfl) (by rw [List.nil_append, e2]; exact g)
  | more ht hq h ih =>
    exact .more (ht.app hp hu) (by rw [hd_app (ne_hd hq) hu.ct]; exact hq) (by rw [tl_app (ne_hd hq) hu.ct]; exact ih hz)
theorem patL_all : ∀ f, PatL (patP f)
  | 0, _, _, _, _, _, _, h => by cases h
  | f + 1, l, y, s, u, hu, hs, h => by
    obtain ⟨xs, h1, h2⟩ := alts_of _ _ _ _ _ h
    have hg : (f == 0) = false → ∀ l, Gd 0 2 l (patP f l) := by
      intro hf
      cases f with
      | zero => cases hf
      | succ f => exact pat_gd f
    have := alts_all hg (h1.app (fun _ => patL_all f) hu (.inl hs))
    rw [h2]; exact this
theorem gdL (f : Nat) : (f == 0) = false → ∀ l, Gd 0 2 l (patP f l) := by
  intro hf
  cases f with
  | zero => cases hf
  | succ f => exact pat_gd f
/-- A pattern ahead of an end. -/
theorem pat_app {f : Nat} {l u r : List UInt8} {x : Rt} (hu : Stop u) (hr : r ≠ [] ∨ (endB u = true ∧ (hdC u == [124]) = false)) (h : patP (f + 1) l = .ok x r) : patP (f + 1) (l ++ u) = .ok x (r ++ u) := by
  obtain ⟨xs, h1, h2⟩ := alts_of _ _ _ _ _ h
  have := alts_all (gdL f) (h1.app (fun _ => patL_all f) hu hr)
  rw [h2]; exact this
/- How deep what is made of parts is, how many groups it has. -/
theorem dL_flK {k : Int} (hk : k = 0 ∨ k = 1) (l : List Rt) : dL (flK k l) = dL l ∧ gL (flK k l) = gL l := by
  induction l with
  | nil => exact ⟨rfl, rfl⟩
  | cons a r ih =>
    unfold flK at ih ⊢
    rw [List.flatMap_cons, dL_app, gL_app, ih.1, ih.2]
    have e1 : dL (a :: r) = max (dM a) (dL r) := rfl
    have e2 : gL (a :: r) = gM a + gL r := rfl
    rw [e1, e2]
    split
    · rename_i h
      have h1 : dL (a.kids.map er) = dL a.kids := by rw [← erL_map]; exact dL_er _
      have h2 : gL (a.kids.map er) = gL a.kids := by rw [← erL_map]; exact gL_er _
      rw [h1, h2, dM_eq, gM_eq, if_neg (by omega), if_neg (by omega)]
      exact ⟨by omega, by omega⟩
    · have h1 : dL [er a] = max (dM (er a)) 0 := rfl
      have h2 : gL [er a] = gM (er a) + 0 := rfl
      rw [h1, h2, dM_er, gM_er]
      exact ⟨by omega, by omega⟩
theorem dM_kd {k : Int} (l : List Rt) : dM (kdX k l) = dL l + (if k = 5 ∨ k = 6 then 1 else 0) := by rw [dM_eq]; rfl
theorem gM_kd {k : Int} (l : List Rt) : gM (kdX k l) = (if k = 5 then 1 else 0) + gL l := by rw [gM_eq]; rfl
theorem dM_seqX (l : List Rt) : dM (seqX l) = dL l ∧ gM (seqX l) = gL l := by
  unfold seqX
  split
  · rename_i hl
    match l, hl with
    | [a], _ => exact ⟨by show dM a = max (dM a) 0; omega, by show gM a = gM a + 0; omega⟩
  · rw [dM_kd, gM_kd]; exact ⟨by simp, by simp⟩
theorem dM_altX (l : List Rt) : dM (altX l) = dL l ∧ gM (altX l) = gL l := by
  unfold altX
  split
  · rename_i hl
    rw [List.eq_nil_of_length_eq_zero hl, dM_kd, gM_kd]; exact ⟨by simp, by simp⟩
  split
  · rename_i hl
    match l, hl with
    | [a], _ => exact ⟨by show dM a = max (dM a) 0; omega, by show gM a = gM a + 0; omega⟩
  · rw [dM_kd, gM_kd]; exact ⟨by simp, by simp⟩
theorem chX_k (c : ByteArray) : (chX c).k = 2 := rfl
/-- Kids' reading where fewer groups may be opened. -/
def PatD (g : Nat) (deep' : Bool) (pat pat' : List UInt8 → Res) : Prop := (deep' = true → g = 0) ∧ ∀ l y s, pat l = .ok y s → deep' = false → pat' l = if dM y + 1 ≤ g then .ok y s else .err 8
theorem atom_dp {g : Nat} {deep deep' : Bool} {pat pat' : List UInt8 → Res} (hd : PatD g deep' pat pat') {l r : List UInt8} {x : Rt} (h : atomP deep pat l = .ok x r) : atomP deep' pat' l = if dM x ≤ g then .ok x r else .err 8 := by
  have lf : ∀ {q : Res}, q = .ok x r → x.kids = [] → x.k ≠ 5 → x.k ≠ 6 → q = if dM x ≤ g then .ok x r else .err 8 := by
    intro q hq hk h5 h6
    rw [hq, if_pos]
    rw [dM_eq, hk, if_neg (by omega)]; exact Nat.zero_le _
  have gE : ∀ {k : Int} {l' : List UInt8}, (k = 5 ∨ k = 6) → deep' = false → grpE k (pat l') = .ok x r → grpE k (pat' l') = if dM x ≤ g then .ok x r else .err 8 := by
    intro k l' hk hd' he
    cases hq : pat l' with
    | no => rw [hq] at he; cases he
    | err n => rw [hq] at he; cases he
    | ok y s =>
      rw [hq] at he
      rw [hd.2 _ _ _ hq hd']
      simp only [grpE] at he
      by_cases hs : (hdC s == [41]) = true
      · rw [if_pos hs] at he
        cases he
        have hdm : dM (kdX k [y]) = dM y + 1 := by rw [dM_kd, if_pos hk]; show max (dM y) 0 + 1 = _; omega
        rw [hdm]
        by_cases hg : dM y + 1 ≤ g
        · rw [if_pos hg, if_pos hg]; simp only [grpE]; rw [if_pos hs]
        · rw [if_neg hg, if_neg hg]; rfl
      · rw [if_neg hs] at he; cases he
  unfold atomP at h ⊢
  by_cases k0 : (hdC l == [46]) = true
  · rw [if_pos k0] at h ⊢; cases h; exact lf rfl rfl (by decide) (by decide)
  rw [if_neg k0] at h ⊢
  by_cases k1 : (hdC l == [40]) = true
  · rw [if_pos k1] at h ⊢
    unfold grpP at h ⊢
    by_cases hdp : deep = true
    · rw [if_pos hdp] at h; cases h
    rw [if_neg hdp] at h
    by_cases hd2 : deep' = true
    · rw [if_pos hd2]
      have hg0 := hd.1 hd2
      have : 1 ≤ dM x := by
        have dk : ∀ {k : Int} {l' : List UInt8}, (k = 5 ∨ k = 6) → grpE k (pat l') = .ok x r → 1 ≤ dM x := by
          intro k l' hk he
          cases hq : pat l' with
          | no => rw [hq] at he; cases he
          | err n => rw [hq] at he; cases he
          | ok y s =>
            rw [hq] at he
            simp only [grpE] at he
            split at he
            · cases he; rw [dM_kd, if_pos hk]; omega
            · cases he
        split at h
        · split at h
          · exact dk (.inr rfl) h
          · cases h
        · exact dk (.inl rfl) h
      rw [if_neg (by omega)]
    · rw [if_neg hd2]
      have hd2 := Bool.eq_false_iff.2 hd2
      by_cases k2 : (hdC (tlC l) == [63]) = true
      · rw [if_pos k2] at h ⊢
        by_cases k3 : (hdC (tlC (tlC l)) == [58]) = true
        · rw [if_pos k3] at h ⊢; exact gE (.inr rfl) hd2 h
        · rw [if_neg k3] at h; cases h
      · rw [if_neg k2] at h ⊢; exact gE (.inl rfl) hd2 h
  rw [if_neg k1] at h ⊢
  by_cases k2 : (hdC l == [91]) = true
  · rw [if_pos k2] at h ⊢
    have hk : x.kids = [] ∧ x.k = 4 := by
      unfold classP at h
      split at h
      · cases h
      · cases h; exact ⟨rfl, rfl⟩
    exact lf h hk.1 (by omega) (by omega)
  rw [if_neg k2] at h ⊢
  by_cases k3 : (hdC l == [92]) = true
  · rw [if_pos k3] at h ⊢
    have hk : x.kids = [] ∧ x.k ≠ 5 ∧ x.k ≠ 6 := by
      have h2 := h
      unfold bakP at h2
      repeat' split at h2
      all_goals first
        | (cases h2; done)
        | (cases h2; exact ⟨rfl, by first | decide | (rw [chX_k]; decide), by first | decide | (rw [chX_k]; decide)⟩)
    exact lf h hk.1 hk.2.1 hk.2.2
  rw [if_neg k3] at h ⊢
  by_cases k4 : (hdC l == [42]) = true
  · rw [if_pos k4] at h; cases h
  rw [if_neg k4] at h ⊢
  by_cases k5 : (hdC l == [43]) = true
  · rw [if_pos k5] at h; cases h
  rw [if_neg k5] at h ⊢
  by_cases k6 : (hdC l == [63]) = true
  · rw [if_pos k6] at h; cases h
  rw [if_neg k6] at h ⊢
  by_cases k7 : (hdC l == [123]) = true
  · rw [if_pos k7] at h; cases h
  rw [if_neg k7] at h ⊢
  cases h; exact lf rfl rfl (by rw [chX_k]; decide) (by rw [chX_k]; decide)
theorem qnt_dp {x y : Rt} {l r : List UInt8} (h : qntP x l = .ok y r) : dM y = dM x := by
  have lz : ∀ {mi ma : Int} {r0 : List UInt8}, lazP mi ma x r0 = .ok y r → dM y = dM x := by
    intro mi ma r0 h
    unfold lazP at h
    cases h
    rw [dM_eq]; show max (dM x) 0 + 0 = _; omega
  unfold qntP at h
  split at h
  · exact lz h
  split at h
  · exact lz h
  split at h
  · exact lz h
  split at h
  · split at h
    · cases h
    · exact lz h
  · cases h; rfl
theorem term_dp {g : Nat} {deep deep' : Bool} {pat pat' : List UInt8 → Res} (hd : PatD g deep' pat pat') {l r : List UInt8} {x : Rt} (h : termP deep pat l = .ok x r) : termP deep' pat' l = if dM x ≤ g then .ok x r else .err 8 := by
  unfold termP at h ⊢
  by_cases k0 : (hdC l == [94]) = true
  · rw [if_pos k0] at h ⊢; cases h; rw [if_pos]; rw [dM_kd]; exact Nat.zero_le _
  rw [if_neg k0] at h ⊢
  by_cases k1 : (hdC l == [36]) = true
  · rw [if_pos k1] at h ⊢; cases h; rw [if_pos]; rw [dM_kd]; exact Nat.zero_le _
  rw [if_neg k1] at h ⊢
  cases ha : atomP deep pat l with
  | no => rw [ha] at h; cases h
  | err n => rw [ha] at h; cases h
  | ok y s =>
    rw [ha] at h
    rw [atom_dp hd ha]
    simp only at h
    by_cases hk : y.k = 10 ∨ y.k = 11
    · rw [if_pos hk] at h
      cases h
      by_cases hg : dM x ≤ g
      · rw [if_pos hg]; simp only; rw [if_pos hk]
      · rw [if_neg hg]
    · rw [if_neg hk] at h
      rw [qnt_dp h]
      by_cases hg : dM y ≤ g
      · rw [if_pos hg, if_pos hg]; simp only; rw [if_neg hk, h]
      · rw [if_neg hg, if_neg hg]
theorem terms_dp {g : Nat} {deep deep' : Bool} {pat pat' : List UInt8 → Res} (hd : PatD g deep' pat pat') {l r : List UInt8} {ts : List Rt} (h : TermsR deep pat l ts r) : ∀ (n : Nat) (acc : List Rt), termsP deep' pat' (n + ts.length) acc l = if dL ts ≤ g then termsP deep' pat' n (acc ++ ts) r else .err 8 := by
  induction h with
  | nil l => intro n acc; rw [List.append_nil, if_pos (show dL ([] : List Rt) ≤ g from Nat.zero_le _)]; rfl
  | cons hE ht h ih =>
    rename_i l r1 r x ts
    intro n acc
    have e1 : dL (x :: ts) = max (dM x) (dL ts) := rfl
    rw [show n + (x :: ts).length = (n + ts.length) + 1 by simp; omega, termsP, hE, if_neg (by decide), term_dp hd ht, e1]
    by_cases hg : dM x ≤ g
    · rw [if_pos hg]
      simp only
      rw [ih n (acc ++ [x]), List.append_assoc]
      by_cases h2 : dL ts ≤ g
      · rw [if_pos h2, if_pos (by omega)]; rfl
      · rw [if_neg h2, if_neg (by omega)]
    · rw [if_neg hg, if_neg (by omega)]
theorem alts_dp {g : Nat} {deep deep' : Bool} {pat pat' : List UInt8 → Res} (hg : deep = false → ∀ l, Gd 0 2 l (pat l)) (hd : PatD g deep' pat pat') {l r : List UInt8} {xs : List Rt} (h : AltsR deep pat l xs r) : ∀ (n : Nat) (acc : List Rt), altsP deep' pat' (n + xs.length) acc l = if dL xs ≤ g then .ok (altX (flK 1 (acc ++ xs))) r else .err 8 := by
  have tt : ∀ {l r : List UInt8} {ts : List Rt}, TermsR deep pat l ts r → endB r = true → termsP deep' pat' (l.length + 1) [] l = if dL ts ≤ g then .ok (seqX (flK 0 ts)) r else .err 8 := by
    intro l r ts ht hE
    have hl := ht.len hg
    obtain ⟨n, hn⟩ : ∃ n, l.length + 1 = (n + 1) + ts.length := ⟨l.length - ts.length, by omega⟩
    rw [hn, terms_dp hd ht, termsP, if_pos hE]; rfl
  have sq : ∀ ts : List Rt, dM (seqX (flK 0 ts)) = dL ts := fun ts => by rw [(dM_seqX _).1, (dL_flK (.inl rfl) ts).1]
  induction h with
  | last ht hE hq =>
    rename_i l r ts
    intro n acc
    have e1 : dL [seqX (flK 0 ts)] = max (dM (seqX (flK 0 ts))) 0 := rfl
    rw [show n + [seqX (flK 0 ts)].length = n + 1 from rfl, altsP, tt ht hE, e1, sq]
    by_cases h2 : dL ts ≤ g
    · rw [if_pos h2, if_pos (by omega)]
      simp only
      rw [hq, if_neg (by decide)]
    · rw [if_neg h2, if_neg (by omega)]
  | more ht hq h ih =>
    rename_i l r r' ts xs
    intro n acc
    have e1 : dL (seqX (flK 0 ts) :: xs) = max (dM (seqX (flK 0 ts))) (dL xs) := rfl
    rw [show n + (seqX (flK 0 ts) :: xs).length = (n + xs.length) + 1 by simp; omega, altsP, tt ht (end_bar hq), e1, sq]
    by_cases h2 : dL ts ≤ g
    · rw [if_pos h2]
      simp only
      rw [if_pos hq, ih, List.append_assoc]
      by_cases h3 : dL xs ≤ g
      · rw [if_pos h3, if_pos (by omega)]; rfl
      · rw [if_neg h3, if_neg (by omega)]
    · rw [if_neg h2, if_neg (by omega)]
/-- A pattern that is read is read where fewer groups may be opened, if it is not too deep. -/
theorem pat_dp : ∀ (F f : Nat) (l : List UInt8) (x : Rt) (r : List UInt8), patP (F + 1) l = .ok x r → patP (f + 1) l = if dM x ≤ f then .ok x r else .err 8 := by
  intro F
  induction F with
  | zero =>
    intro f l x r h
    obtain ⟨xs, h1, h2⟩ := alts_of _ _ _ _ _ h
    have hd : PatD f (f == 0) (patP 0) (patP f) := ⟨fun h => beq_iff_eq.1 h, fun l y s h _ => by cases h⟩
    have := h1.len (gdL 0)
    obtain ⟨n, hn⟩ : ∃ n, l.length + 1 = n + xs.length := ⟨l.length + 1 - xs.length, by omega⟩
    have h3 := alts_dp (gdL 0) hd h1 n []
    rw [← hn] at h3
    rw [h2, (dM_altX _).1, (dL_flK (.inr rfl) _).1]
    exact h3
  | succ F ih =>
    intro f l x r h
    obtain ⟨xs, h1, h2⟩ := alts_of _ _ _ _ _ h
    have hd : PatD f (f == 0) (patP (F + 1)) (patP f) := ⟨fun h => beq_iff_eq.1 h, fun l y s h hf => by
      cases f with
      | zero => cases hf
      | succ f =>
        rw [ih f l y s h]
        by_cases hg : dM y ≤ f
        · rw [if_pos hg, if_pos (by omega)]
        · rw [if_neg hg, if_neg (by omega)]⟩
    have := h1.len (gdL (F + 1))
    obtain ⟨n, hn⟩ : ∃ n, l.length + 1 = n + xs.length := ⟨l.length + 1 - xs.length, by omega⟩
    have h3 := alts_dp (gdL (F + 1)) hd h1 n []
    rw [← hn] at h3
    rw [h2, (dM_altX _).1, (dL_flK (.inr rfl) _).1]
    exact h3
end
section
open SetM
set_option linter.unusedVariables false
theorem readP_to {l : List UInt8} (h1 : l.length ≤ 256) (h2 : contH l = false) {x : Rt} (h : patP 17 l = .ok x []) : readP l = .ok x [] := by
  unfold readP
  rw [if_neg (by omega), h2, if_neg (by decide), h]; rfl
theorem readP_er {l : List UInt8} (h1 : l.length ≤ 256) (h2 : contH l = false) {n : Int} (h : patP 17 l = .err n) : readP l = .err n := by
  unfold readP
  rw [if_neg (by omega), h2, if_neg (by decide), h]; rfl
/-- The first alternative's terms begin with no sign of a quantifier. -/
theorem terms_stop {deep : Bool} {pat : List UInt8 → Res} {l r : List UInt8} {ts : List Rt} (h : TermsR deep pat l ts r) (hE : endB r = true) (hc : contH l = false) : Stop l := by
  cases h with
  | nil =>
    unfold endB at hE
    simp only [Bool.or_eq_true, List.isEmpty_iff] at hE
    rcases hE with h | h | h
    · subst h; exact stop_nil
    · have h := beq_iff_eq.1 h; exact ⟨hc, by rw [h]; rfl, by rw [h]; rfl, by rw [h]; rfl, by rw [h]; rfl⟩
    · have h := beq_iff_eq.1 h; exact ⟨hc, by rw [h]; rfl, by rw [h]; rfl, by rw [h]; rfl, by rw [h]; rfl⟩
  | cons hE2 ht h =>
    have no : ∀ y : UInt8, y = 42 ∨ y = 43 ∨ y = 63 ∨ y = 123 → (hdC l == [y]) = false := by
      intro y hy
      rw [Bool.eq_false_iff]
      intro hq
      have hq := beq_iff_eq.1 hq
      have : ∃ n, termP deep pat l = .err n := by
        unfold termP
        rw [hq]
        rcases hy with rfl | rfl | rfl | rfl
        all_goals
          rw [if_neg (by decide), if_neg (by decide)]
          unfold atomP
          rw [hq]
          exact ⟨10, rfl⟩
      obtain ⟨n, hn⟩ := this
      rw [hn] at ht
      cases ht
    exact ⟨hc, no _ (by simp), no _ (by simp), no _ (by simp), no _ (by simp)⟩
theorem alts_stop {deep : Bool} {pat : List UInt8 → Res} {l r : List UInt8} {xs : List Rt} (h : AltsR deep pat l xs r) (hc : contH l = false) : Stop l := by
  cases h with
  | last ht hE hq => exact terms_stop ht hE hc
  | more ht hq h => exact terms_stop ht (end_bar hq) hc
/-- What terms there are: each may be, none is a sequence or alternatives. -/
theorem terms_acc {g : Nat} {deep : Bool} {pat : List UInt8 → Res} (hp : PatV g deep pat) {l r : List UInt8} {ts : List Rt} (h : TermsR deep pat l ts r) (hc : contH l = false) : (∀ x ∈ ts, KdT x ∧ er x = x) := by
  induction h with
  | nil l => intro x hx; cases hx
  | cons hE ht h ih =>
    rename_i l r1 r x ts
    obtain ⟨hv, hk⟩ := term_va hp hc (end_ne hE) ht
    have hey : er x = x := by
      have := term_gd (fun hd => (hp hd).2.1) l (end_ne hE)
      rw [ht] at this
      exact this.2.2
    intro z hz
    rcases List.mem_cons.1 hz with rfl | hz
    · exact ⟨hk, hey⟩
    · exact ih hv.ct z hz
theorem map_self {l : List Rt} (h : ∀ x ∈ l, er x = x) : l.map er = l := by
  induction l with
  | nil => rfl
  | cons a r ih => rw [List.map_cons, h a List.mem_cons_self, ih (fun x hx => h x (List.mem_cons_of_mem _ hx))]
theorem flK0_ts {ts : List Rt} (h : ∀ x ∈ ts, KdT x ∧ er x = x) : flK 0 ts = ts := flK_none (fun x hx => (kdT_seq (h x hx).1).2.1) (map_self (fun x hx => (h x hx).2))
/-- A sequence of terms, flattened, is its terms. -/
theorem flK_seqX {ts : List Rt} (h : ∀ x ∈ ts, KdT x ∧ er x = x) : flK 0 [seqX ts] = ts := by
  unfold seqX
  split
  · rename_i hl
    match ts, hl, h with
    | [a], _, h => exact flK0_ts h
  · unfold flK
    rw [List.flatMap_cons, List.flatMap_nil, List.append_nil, if_pos (show (kdX 0 ts).k = 0 from rfl)]
    exact map_self (fun x hx => (h x hx).2)
theorem seqX_k {ts : List Rt} (h : ∀ x ∈ ts, KdT x ∧ er x = x) : (seqX ts).k ≠ 1 ∧ er (seqX ts) = seqX ts := by
  have := seqX_gd ts (map_self (fun x hx => (h x hx).2))
  refine ⟨?_, this.2⟩
  unfold seqX
  split
  · rename_i hl
    match ts, hl, h with
    | [a], _, h => exact (kdT_seq (h a (by simp)).1).2.2
  · show (0 : Int) ≠ 1; decide
theorem alts_acc {g : Nat} {deep : Bool} {pat : List UInt8 → Res} (hp : PatV g deep pat) {l r : List UInt8} {xs : List Rt} (h : AltsR deep pat l xs r) (hc : contH l = false) : xs ≠ [] ∧ ∀ x ∈ xs, x.k ≠ 1 ∧ er x = x := by
  have one : ∀ {l r : List UInt8} {ts : List Rt}, TermsR deep pat l ts r → contH l = false → (seqX (flK 0 ts)).k ≠ 1 ∧ er (seqX (flK 0 ts)) = seqX (flK 0 ts) := by
    intro l r ts ht hc
    have := terms_acc hp ht hc
    rw [flK0_ts this]
    exact seqX_k this
  induction h with
  | last ht hE hq => exact ⟨by simp, fun x hx => by obtain rfl : x = _ := (by simpa using hx); exact one ht hc⟩
  | more ht hq h ih =>
    refine ⟨by simp, fun x hx => ?_⟩
    rcases List.mem_cons.1 hx with rfl | hx
    · exact one ht hc
    · exact (ih (contH_tl _)).2 x hx
theorem flK1_xs {xs : List Rt} (h : ∀ x ∈ xs, x.k ≠ 1 ∧ er x = x) : flK 1 xs = xs := flK_none (fun x hx => (h x hx).1) (map_self (fun x hx => (h x hx).2))
theorem flK_altX {xs : List Rt} (h0 : xs ≠ []) (h : ∀ x ∈ xs, x.k ≠ 1 ∧ er x = x) : flK 1 [altX xs] = xs := by
  unfold altX
  rw [if_neg (by simpa using h0)]
  split
  · rename_i hl
    match xs, hl, h with
    | [a], _, h => exact flK1_xs h
  · unfold flK
    rw [List.flatMap_cons, List.flatMap_nil, List.append_nil, if_pos (show (kdX 1 xs).k = 1 from rfl)]
    exact map_self (fun x hx => (h x hx).2)
theorem flK_two (k : Int) (x y : Rt) : flK k [x, y] = flK k [x] ++ flK k [y] := by
  unfold flK; simp
theorem patV16 : PatV 16 false (patP 16) := fun _ => ⟨by decide, pat_gd 15, fun l y s h1 h2 => (pat_va 15 l y s h1 h2).1⟩
theorem readP_alts {l : List UInt8} {x : Rt} (h : readP l = .ok x []) : l.length ≤ 256 ∧ contH l = false ∧ ∃ xs, AltsR false (patP 16) l xs [] ∧ x = altX xs ∧ xs ≠ [] ∧ ∀ x ∈ xs, x.k ≠ 1 ∧ er x = x := by
  obtain ⟨h1, h2, _, h3, _⟩ := readP_va h
  obtain ⟨xs, g1, g2⟩ := alts_of (deep := false) (pat := patP 16) _ _ _ _ _ h3
  obtain ⟨g3, g4⟩ := alts_acc patV16 g1 h2
  rw [List.nil_append, flK1_xs g4] at g2
  exact ⟨h1, h2, xs, g1, g2, g3, g4⟩
theorem readP_alt {s t : List UInt8} {x y : Rt} (h : readP s = .ok x []) (g : readP t = .ok y []) (hz : s.length + t.length + 1 ≤ 256) : readP (s ++ 124 :: t) = .ok (altX (flK 1 [x, y])) [] := by
  obtain ⟨h1, h2, xs, h3, h4, h5, h6⟩ := readP_alts h
  obtain ⟨g1, g2, ys, g3, g4, g5, g6⟩ := readP_alts g
  have hb := h3.bar (fun _ => patL_all 16) g2 g3
  have ha := alts_all (fun _ => pat_gd 15) hb
  rw [h4, g4, flK_two, flK_altX h5 h6, flK_altX g5 g6]
  refine readP_to (by rw [List.length_append, List.length_cons]; omega) ?_ ?_
  · cases s with
    | nil => rfl
    | cons a s => exact h2
  · have : flK 1 (xs ++ ys) = xs ++ ys := flK1_xs (fun x hx => by
      rcases List.mem_append.1 hx with hx | hx
      · exact h6 x hx
      · exact g6 x hx)
    rw [this] at ha
    exact ha
theorem altX_one {xs : List Rt} (h0 : xs ≠ []) (hk : (altX xs).k ≠ 1) : ∃ a, xs = [a] := by
  unfold altX at hk
  rw [if_neg (by simpa using h0)] at hk
  split at hk
  · rename_i hl
    match xs, hl with
    | [a], _ => exact ⟨a, rfl⟩
  · exact absurd rfl hk
theorem readP_seq {s t : List UInt8} {x y : Rt} (h : readP s = .ok x []) (g : readP t = .ok y []) (hx : x.k ≠ 1) (hy : y.k ≠ 1) (hz : s.length + t.length ≤ 256) : readP (s ++ t) = .ok (seqX (flK 0 [x, y])) [] := by
  obtain ⟨h1, h2, xs, h3, h4, h5, h6⟩ := readP_alts h
  obtain ⟨g1, g2, ys, g3, g4, g5, g6⟩ := readP_alts g
  have st := alts_stop g3 g2
  rw [h4] at hx
  rw [g4] at hy
  obtain ⟨a, rfl⟩ := altX_one h5 hx
  obtain ⟨b, rfl⟩ := altX_one g5 hy
  cases h3 with
  | more ht hq h => cases h
  | last ht hE hq =>
    rename_i ts
    cases g3 with
    | more ht hq h => cases h
    | last ut uE uq =>
      rename_i us
      have k1 := terms_acc patV16 ht h2
      have k2 := terms_acc patV16 ut g2
      have htr := (ht.app (fun _ => patL_all 16) st).trans ut
      have ha := alts_all (fun _ => pat_gd 15) (.last htr uE uq)
      have k3 : ∀ x ∈ ts ++ us, KdT x ∧ er x = x := fun x hx => by
        rcases List.mem_append.1 hx with hx | hx
        · exact k1 x hx
        · exact k2 x hx
      have e1 : altX [seqX (flK 0 ts)] = seqX ts := by rw [flK0_ts k1]; rfl
      have e2 : altX [seqX (flK 0 us)] = seqX us := by rw [flK0_ts k2]; rfl
      rw [h4, g4, e1, e2, flK_two, flK_seqX k1, flK_seqX k2]
      refine readP_to (by rw [List.length_append]; omega) ?_ ?_
      · cases s with
        | nil => exact g2
        | cons a s => exact h2
      · have e3 : altX (flK 1 [seqX (flK 0 (ts ++ us))]) = seqX (ts ++ us) := by
          rw [flK0_ts k3]
          have := seqX_k k3
          rw [flK1_xs (xs := [seqX (ts ++ us)]) (fun x hx => by obtain rfl : x = _ := (by simpa using hx); exact this)]
          rfl
        rw [e3] at ha
        exact ha
/-- A group's beginning. -/
def preG (bare : Bool) : List UInt8 := if bare = true then [40, 63, 58] else [40]
def kG (bare : Bool) : Int := if bare = true then 6 else 5
theorem pre_atom {bare : Bool} {f : Nat} {l v : List UInt8} {y : Rt} {c : Prop} [Decidable c] (hl : contH l = false) (hb : bare = false → (hdC (l ++ 41 :: v) == [63]) = false) (hv : contH v = false) (h : patP (f + 1) (l ++ 41 :: v) = if c then .ok y (41 :: v) else .err 8) :
    atomP false (patP (f + 1)) (preG bare ++ (l ++ 41 :: v)) = if c then .ok (kdX (kG bare) [y]) v else .err 8 := by
  have hc : contH (l ++ 41 :: v) = false := by
    cases l with
    | nil => rfl
    | cons a l => exact hl
  obtain ⟨e1, e2⟩ := hd1 (y := 41) hv
  have fin : ∀ k : Int, grpE k (patP (f + 1) (l ++ 41 :: v)) = if c then .ok (kdX k [y]) v else .err 8 := by
    intro k
    rw [h]
    by_cases hcc : c
    · rw [if_pos hcc, if_pos hcc]; simp only [grpE]; rw [e1, e2]; rfl
    · rw [if_neg hcc, if_neg hcc]; rfl
  cases bare
  · obtain ⟨a1, a2⟩ := hd1 (y := 40) hc
    show atomP false (patP (f + 1)) (40 :: (l ++ 41 :: v)) = _
    unfold atomP
    rw [a1, a2, if_neg (by decide), if_pos (by decide)]
    unfold grpP
    rw [if_neg (by decide), hb rfl, if_neg (by decide)]
    exact fin 5
  · obtain ⟨c1, c2⟩ := hd1 (y := 58) hc
    obtain ⟨b1, b2⟩ := hd1 (y := 63) (u := 58 :: (l ++ 41 :: v)) rfl
    obtain ⟨a1, a2⟩ := hd1 (y := 40) (u := 63 :: 58 :: (l ++ 41 :: v)) rfl
    show atomP false (patP (f + 1)) (40 :: 63 :: 58 :: (l ++ 41 :: v)) = _
    unfold atomP
    rw [a1, a2, if_neg (by decide), if_pos (by decide)]
    unfold grpP
    rw [if_neg (by decide), b1, b2, if_pos (by decide), c1, c2, if_pos (by decide)]
    exact fin 6
theorem pre_deep (bare : Bool) (l : List UInt8) (hl : contH l = false) : atomP true (patP 0) (preG bare ++ l) = .err 8 := by
  cases bare
  · obtain ⟨a1, a2⟩ := hd1 (y := 40) hl
    show atomP true (patP 0) (40 :: l) = _
    unfold atomP
    rw [a1, if_neg (by decide), if_pos (by decide)]; rfl
  · obtain ⟨a1, a2⟩ := hd1 (y := 40) (u := 63 :: 58 :: l) rfl
    show atomP true (patP 0) (40 :: 63 :: 58 :: l) = _
    unfold atomP
    rw [a1, if_neg (by decide), if_pos (by decide)]; rfl
theorem pre_hd (bare : Bool) {l : List UInt8} (hl : contH l = false) : hdC (preG bare ++ l) = [40] := by
  cases bare
  · exact (hd1 hl).1
  · exact (hd1 (u := 63 :: 58 :: l) rfl).1
/-- A text in brackets, n times. -/
def wrapT (bare : Bool) (s : List UInt8) : Nat → List UInt8
  | 0 => s
  | n + 1 => preG bare ++ (wrapT bare s n ++ [41])
def wrapX (bare : Bool) (x : Rt) : Nat → Rt
  | 0 => x
  | n + 1 => kdX (kG bare) [wrapX bare x n]
theorem wrap_dM (bare : Bool) (x : Rt) (n : Nat) : dM (wrapX bare x n) = dM x + n := by
  induction n with
  | zero => rfl
  | succ n ih =>
    show dM (kdX (kG bare) [wrapX bare x n]) = _
    rw [dM_kd, if_pos (by cases bare; exact .inl rfl; exact .inr rfl)]
    show max (dM (wrapX bare x n)) 0 + 1 = _
    omega
theorem wrap_er (bare : Bool) {x : Rt} (hx : er x = x) (n : Nat) : er (wrapX bare x n) = wrapX bare x n := by
  induction n with
  | zero => exact hx
  | succ n ih => exact er_kd _ _ (by simp [ih])
theorem wrap_ct (bare : Bool) {s : List UInt8} (hs : contH s = false) (n : Nat) : contH (wrapT bare s n) = false := by
  cases n with
  | zero => exact hs
  | succ n => cases bare <;> rfl
theorem contH_app {l u : List UInt8} (hl : contH l = false) (hu : contH u = false) : contH (l ++ u) = false := by
  cases l with
  | nil => exact hu
  | cons a l => exact hl
theorem wrap_hd (bare : Bool) {s v : List UInt8} (hs : Stop s) (hv : contH v = false) (n : Nat) : (hdC (wrapT bare s n ++ 41 :: v) == [63]) = false := by
  cases n with
  | zero =>
    show (hdC (s ++ 41 :: v) == [63]) = false
    by_cases h0 : s = []
    · rw [h0, List.nil_append, (hd1 (y := 41) hv).1]; rfl
    · rw [hd_app h0 rfl]; exact hs.q3
  | succ n =>
    show (hdC ((preG bare ++ (wrapT bare s n ++ [41])) ++ 41 :: v) == [63]) = false
    rw [List.append_assoc, pre_hd bare (contH_app (contH_app (wrap_ct bare hs.ct n) rfl) rfl)]; rfl
theorem one_term {deep : Bool} {pat : List UInt8 → Res} (hg : deep = false → ∀ l, Gd 0 2 l (pat l)) {l u : List UInt8} {y : Rt} (hE : endB l = false) (ht : termP deep pat l = .ok y u) (hu : endB u = true) (hq : (hdC u == [124]) = false) (h0 : y.k ≠ 0) (h1 : y.k ≠ 1) (he : er y = y) : altsP deep pat (l.length + 1) [] l = .ok y u := by
  have ha := alts_all hg (.last (.cons hE ht (.nil u)) hu hq)
  have e0 : flK 0 [y] = [y] := flK_none (fun x hx => by obtain rfl : x = y := (by simpa using hx); exact h0) (by simp [he])
  have e1 : flK 1 [y] = [y] := flK_none (fun x hx => by obtain rfl : x = y := (by simpa using hx); exact h1) (by simp [he])
  rw [e0, show seqX [y] = y from rfl, e1] at ha
  exact ha
theorem one_err {deep : Bool} {pat : List UInt8 → Res} {l : List UInt8} {n : Int} (hE : endB l = false) (ht : termP deep pat l = .err n) : altsP deep pat (l.length + 1) [] l = .err n := by
  rw [altsP, termsP, hE, if_neg (by decide), ht]
theorem pre_end (bare : Bool) {l : List UInt8} (hl : contH l = false) : endB (preG bare ++ l) = false := by
  unfold endB
  rw [pre_hd bare hl]
  cases bare <;> rfl
theorem pre_term {deep : Bool} {pat : List UInt8 → Res} (bare : Bool) {l u : List UInt8} {y : Rt} (hl : contH l = false) (h : atomP deep pat (preG bare ++ l) = .ok y u) (hk : ¬ (y.k = 10 ∨ y.k = 11)) : termP deep pat (preG bare ++ l) = qntP y u := by
  unfold termP
  rw [pre_hd bare hl, if_neg (by decide), if_neg (by decide), h]
  simp only
  rw [if_neg hk]
theorem pre_terr {deep : Bool} {pat : List UInt8 → Res} (bare : Bool) {l : List UInt8} {n : Int} (hl : contH l = false) (h : atomP deep pat (preG bare ++ l) = .err n) : termP deep pat (preG bare ++ l) = .err n := by
  unfold termP
  rw [pre_hd bare hl, if_neg (by decide), if_neg (by decide), h]
theorem kG_k (bare : Bool) : kG bare = 5 ∨ kG bare = 6 := by cases bare; exact .inl rfl; exact .inr rfl
theorem end_stop {u : List UInt8} (hc : contH u = false) (h : u = [] ∨ (hdC u == [41]) = true) : Stop u ∧ endB u = true ∧ (hdC u == [124]) = false := by
  rcases h with rfl | h
  · exact ⟨stop_nil, rfl, rfl⟩
  · have h2 := beq_iff_eq.1 h
    exact ⟨⟨hc, by rw [h2]; rfl, by rw [h2]; rfl, by rw [h2]; rfl, by rw [h2]; rfl⟩, by unfold endB; rw [h]; simp, by rw [h2]; rfl⟩
theorem wrap_pat (bare : Bool) {s : List UInt8} {x : Rt} (h : patP 17 s = .ok x []) (hs : Stop s) (hx : er x = x) : ∀ (n f : Nat) (u : List UInt8), contH u = false → (u = [] ∨ (hdC u == [41]) = true) → patP (f + 1) (wrapT bare s n ++ u) = if dM (wrapX bare x n) ≤ f then .ok (wrapX bare x n) u else .err 8 := by
  intro n
  induction n with
  | zero =>
    intro f u hc hu
    obtain ⟨s1, s2, s3⟩ := end_stop hc hu
    have := pat_app (f := 16) s1 (.inr ⟨s2, s3⟩) h
    rw [List.nil_append] at this
    exact pat_dp 16 f _ _ _ this
  | succ n ih =>
    intro f u hc hu
    obtain ⟨s1, s2, s3⟩ := end_stop hc hu
    have e : wrapT bare s (n + 1) ++ u = preG bare ++ (wrapT bare s n ++ 41 :: u) := by
      show (preG bare ++ (wrapT bare s n ++ [41])) ++ u = _
      rw [List.append_assoc, List.append_assoc]; rfl
    have hc2 : contH (wrapT bare s n ++ 41 :: u) = false := contH_app (wrap_ct bare hs.ct n) rfl
    have hd := wrap_dM bare x (n + 1)
    have hd0 := wrap_dM bare x n
    rw [e]
    cases f with
    | zero =>
      rw [if_neg (by omega)]
      exact one_err (deep := true) (pat := patP 0) (pre_end bare hc2) (pre_terr bare hc2 (pre_deep bare _ hc2))
    | succ f =>
      have hp := ih f (41 :: u) rfl (.inr (by rw [(hd1 (y := 41) hc).1]; rfl))
      have ha := pre_atom (bare := bare) (c := dM (wrapX bare x n) ≤ f) (wrap_ct bare hs.ct n) (fun hb => wrap_hd bare hs hc n) hc hp
      have ht : termP false (patP (f + 1)) (preG bare ++ (wrapT bare s n ++ 41 :: u)) = if dM (wrapX bare x n) ≤ f then .ok (wrapX bare x (n + 1)) u else .err 8 := by
        by_cases hg : dM (wrapX bare x n) ≤ f
        · rw [if_pos hg] at ha ⊢
          rw [pre_term bare hc2 ha (show ¬ (kG bare = 10 ∨ kG bare = 11) by have := kG_k bare; omega)]
          exact qnt_app (x := kdX (kG bare) [wrapX bare x n]) (l := []) s1 rfl
        · rw [if_neg hg] at ha ⊢
          exact pre_terr bare hc2 ha
      by_cases hg : dM (wrapX bare x n) ≤ f
      · rw [if_pos hg] at ht
        rw [if_pos (by omega)]
        exact one_term (deep := false) (pat := patP (f + 1)) (fun _ => pat_gd f) (pre_end bare hc2) ht s2 s3 (by show kG bare ≠ 0; have := kG_k bare; omega) (by show kG bare ≠ 1; have := kG_k bare; omega) (wrap_er bare hx (n + 1))
      · rw [if_neg hg] at ht
        rw [if_neg (by omega)]
        exact one_err (deep := false) (pat := patP (f + 1)) (pre_end bare hc2) ht
theorem readP_stop {s : List UInt8} {x : Rt} (h : readP s = .ok x []) : patP 17 s = .ok x [] ∧ Stop s ∧ er x = x := by
  obtain ⟨h1, h2, xs, h3, h4, h5, h6⟩ := readP_alts h
  obtain ⟨_, _, _, h7, h8, _⟩ := readP_va h
  exact ⟨h7, alts_stop h3 h2, h8⟩
theorem readP_wrap (bare : Bool) {s : List UInt8} {x : Rt} (h : readP s = .ok x []) (n : Nat) (hz : (wrapT bare s n).length ≤ 256) : readP (wrapT bare s n) = if dM x + n ≤ 16 then .ok (wrapX bare x n) [] else .err 8 := by
  obtain ⟨h1, h2, h3⟩ := readP_stop h
  have hp := wrap_pat bare h1 h2 h3 n 16 [] rfl (.inl rfl)
  rw [List.append_nil, wrap_dM] at hp
  by_cases hg : dM x + n ≤ 16
  · rw [if_pos hg] at hp ⊢
    exact readP_to hz (wrap_ct bare h2.ct n) hp
  · rw [if_neg hg] at hp ⊢
    exact readP_er hz (wrap_ct bare h2.ct n) hp
/-- A group, and a quantifier behind it. -/
theorem readP_often (bare : Bool) {s q : List UInt8} {x : Rt} {mi ma : Int} {lz : Bool} (h : readP s = .ok x []) (hd : dM x < 16) (hq : ∀ y, qntP y q = .ok (repX mi ma lz y) []) (hq2 : ∀ y, qntP y (q ++ [42]) = .ok (repX mi ma lz y) [42]) (hc : contH q = false) (hc0 : q ≠ []) (hz : (preG bare ++ (s ++ 41 :: q)).length + 1 ≤ 256) :
    readP (preG bare ++ (s ++ 41 :: q)) = .ok (repX mi ma lz (kdX (kG bare) [x])) [] ∧ readP (preG bare ++ (s ++ 41 :: q) ++ [42]) = .err 10 := by
  obtain ⟨h1, h2, h3⟩ := readP_stop h
  have hgo : ∀ v : List UInt8, contH v = false → contH (s ++ 41 :: v) = false ∧ atomP false (patP 16) (preG bare ++ (s ++ 41 :: v)) = .ok (kdX (kG bare) [x]) v := by
    intro v hv
    have hp := wrap_pat bare h1 h2 h3 0 15 (41 :: v) rfl (.inr (by rw [(hd1 (y := 41) hv).1]; rfl))
    have ha := pre_atom (bare := bare) (c := dM (wrapX bare x 0) ≤ 15) h2.ct (fun hb => wrap_hd bare h2 hv 0) hv hp
    rw [if_pos (show dM (wrapX bare x 0) ≤ 15 by show dM x ≤ 15; omega)] at ha
    exact ⟨contH_app h2.ct rfl, ha⟩
  have hk := kG_k bare
  obtain ⟨c1, a1⟩ := hgo q hc
  obtain ⟨c2, a2⟩ := hgo (q ++ [42]) (by cases q with | nil => exact absurd rfl hc0 | cons a q => exact hc)
  have hxe : er (repX mi ma lz (kdX (kG bare) [x])) = repX mi ma lz (kdX (kG bare) [x]) := er_rep (er_kd _ _ (by simp [h3]))
  refine ⟨readP_to (by omega) (by cases bare <;> rfl) ?_, ?_⟩
  · refine one_term (deep := false) (pat := patP 16) (fun _ => pat_gd 15) (pre_end bare c1) ?_ rfl rfl (by show (7 : Int) ≠ 0; decide) (by show (7 : Int) ≠ 1; decide) hxe
    rw [pre_term bare c1 a1 (show ¬ (kG bare = 10 ∨ kG bare = 11) by omega), hq]
  · have e : preG bare ++ (s ++ 41 :: q) ++ [42] = preG bare ++ (s ++ 41 :: (q ++ [42])) := by rw [List.append_assoc, List.append_assoc]; rfl
    rw [e]
    refine readP_er (by rw [← e, List.length_append]; simpa using hz) (by cases bare <;> rfl) ?_
    show altsP false (patP 16) _ [] _ = _
    obtain ⟨m, hm⟩ : ∃ m, (preG bare ++ (s ++ 41 :: (q ++ [42]))).length = m + 1 := by
      cases bare
      · exact ⟨_, rfl⟩
      · exact ⟨_, rfl⟩
    have ht : termP false (patP 16) (preG bare ++ (s ++ 41 :: (q ++ [42]))) = .ok (repX mi ma lz (kdX (kG bare) [x])) [42] := by
      rw [pre_term bare c2 a2 (show ¬ (kG bare = 10 ∨ kG bare = 11) by omega), hq2]
    rw [altsP, termsP, pre_end bare c2, if_neg (by decide), ht]
    simp only
    rw [hm, termsP, if_neg (by decide), show termP false (patP 16) [42] = .err 10 from rfl]
end
section
open Go.ChangeShapes Go.WideShapes Go.ChangeAt Go.RowKit
open SetM
attribute [local go_sem ↓] Go.wp_at_zero Go.wp_at_succ
set_option maxRecDepth 100000
set_option linter.unusedVariables false
/-- The number that Read answers beside a tree. -/
def rdN : Res → Int
  | .no => 0
  | .err n => n
  | .ok _ _ => 0
/-- A tree's eight fields, whatever they are. -/
def RdwPost (n : Int) (w : World) : Ending → World → Prop := fun e w' => ∃ (k : Int) (ch : ByteArray) (nt : Bool) (rA : Option Addr) (rl rc : Nat) (mi ma : Int) (lz : Bool) (kA : Option Addr) (kl kc : Nat), e = .returned (.tuple #[.agg #[.int .i64 k, .string ch, .bool nt, .slice rA rl rc, .int .i64 mi, .int .i64 ma, .bool lz, .slice kA kl kc], .int .i64 n]) ∧ Below w.heap.size w w'
theorem rx_vv {w : World} {t : Rt} (h : RxAt w t) : ∃ rA rc kA kc, t.rv = .slice rA t.rows.length rc ∧ t.kv = .slice kA t.kids.length kc ∧ t.v = .agg #[.int .i64 t.k, .string t.ch, .bool t.nt, .slice rA t.rows.length rc, .int .i64 t.mi, .int .i64 t.ma, .bool t.lz, .slice kA t.kids.length kc] := by
  obtain ⟨A, c, hkv⟩ := ksat_len h.ks
  obtain ⟨RA, rc, hrv⟩ := rwat_len h.rows
  exact ⟨RA, rc, A, c, hrv, hkv, by unfold Rt.v Rt.cs; rw [hkv, hrv]⟩
theorem read_w (s : ByteArray) (hz : s.size ≤ 1000000) (n : Int) (hn : rdN (readP s.data.toList) = n) (w : World) : Calls Try.prog 13 #[.string s] w (RdwPost n w) := by
  refine (read_any s hz w _ rfl).mono ?_
  intro e w' h
  rcases readP_cases s.data.toList with ⟨m, hm, _⟩ | ⟨x, hx⟩
  · rw [hm] at h hn
    obtain ⟨rfl, hb⟩ := h
    obtain rfl : m = n := hn
    exact ⟨0, ⟨#[]⟩, false, none, 0, 0, 0, 0, false, none, 0, 0, rfl, hb⟩
  · rw [hx] at h hn
    obtain ⟨t, rfl, hb, hr, _⟩ := h
    obtain rfl : 0 = n := hn
    obtain ⟨rA, rc, kA, kc, _, _, hv⟩ := rx_vv hr
    exact ⟨_, _, _, _, _, _, _, _, _, _, _, _, by rw [hv], hb⟩
theorem rdN_ok {l : List UInt8} (h : rdN (readP l) = 0) : ∃ x, readP l = .ok x [] := by
  rcases readP_cases l with ⟨m, hm, hn⟩ | hx
  · rw [hm] at h
    have h : m = 0 := h
    omega
  · exact hx
def CxAt (w : World) (b : Nat) (t : Rt) : Prop := ∀ j u, t.cs[j]? = some u → w.cell? ⟨b, j, none⟩ = some u
theorem cx_below {w w' : World} {b : Nat} {t : Rt} (h : CxAt w b t) (hb : Below w.heap.size w w') : CxAt w' b t := fun j u hu => cell_later hb (h j u hu)
theorem cx_new (w : World) (t : Rt) {rA kA : Option Addr} {rc kc : Nat} (hr : t.rv = .slice rA t.rows.length rc) (hk : t.kv = .slice kA t.kids.length kc) : CxAt (w.alloc (.cells #[.int .i64 t.k, .string t.ch, .bool t.nt, .slice rA t.rows.length rc, .int .i64 t.mi, .int .i64 t.ma, .bool t.lz, .slice kA t.kids.length kc] 26)) w.heap.size t := by
  intro j u hu
  unfold Rt.cs at hu
  rw [hr, hk] at hu
  exact ks_alloc (W := w) (T := 26) (cs := [.int .i64 t.k, .string t.ch, .bool t.nt, .slice rA t.rows.length rc, .int .i64 t.mi, .int .i64 t.ma, .bool t.lz, .slice kA t.kids.length kc]) rfl j u hu
theorem cx_8 {w : World} {b : Nat} {t : Rt} (h : CxAt w b t) {rA kA : Option Addr} {rc kc : Nat} (hr : t.rv = .slice rA t.rows.length rc) (hk : t.kv = .slice kA t.kids.length kc) : w.cell? ⟨b, 0, none⟩ = some (.int .i64 t.k) ∧ w.cell? ⟨b, 1, none⟩ = some (.string t.ch) ∧ w.cell? ⟨b, 2, none⟩ = some (.bool t.nt) ∧ w.cell? ⟨b, 3, none⟩ = some (.slice rA t.rows.length rc) ∧ w.cell? ⟨b, 4, none⟩ = some (.int .i64 t.mi) ∧ w.cell? ⟨b, 5, none⟩ = some (.int .i64 t.ma) ∧ w.cell? ⟨b, 6, none⟩ = some (.bool t.lz) ∧ w.cell? ⟨b, 7, none⟩ = some (.slice kA t.kids.length kc) := by
  refine ⟨h 0 _ rfl, h 1 _ rfl, h 2 _ rfl, ?_, h 4 _ rfl, h 5 _ rfl, h 6 _ rfl, ?_⟩
  · rw [← hr]; exact h 3 _ rfl
  · rw [← hk]; exact h 7 _ rfl
theorem ks_two {w W : World} {x y : Rt} {arr : Array Value} (ha : arr.toList = x.cs ++ y.cs) (hx : RxAt w x) (hy : RxAt w y) (hb : Below (w.alloc (.cells arr 26)).heap.size (w.alloc (.cells arr 26)) W) : KsAt W (.slice (some ⟨w.heap.size, 0, none⟩) 2 2) [x, y] ∧ ∀ i (hi : i < [x, y].length), RxAt W [x, y][i] := by
  have hb2 := bl_trans (bl_alloc (bl_refl w) (.cells arr 26)) hb
  refine ⟨.inr ⟨⟨w.heap.size, 0, none⟩, 2, rfl, Nat.le_refl _, by decide, fun i hi j u hu => ?_⟩, fun i hi => ?_⟩
  · refine cell_later hb ?_
    rw [addr_add]
    have hz : (0 : Nat) + (i * 8 + j) = i * 8 + j := Nat.zero_add _
    show (w.alloc (.cells arr 26)).cell? ⟨w.heap.size, 0 + (i * 8 + j), none⟩ = some u
    rw [hz]
    have := cells_lit w arr 26 (i * 8 + j) u (by
      rw [ha]
      have := flatX_at [x, y] i hi j u hu
      simpa [flatX] using this)
    rw [addr_add, Nat.zero_add] at this
    exact this
  · match i, hi with
    | 0, _ => exact rx_below hx hb2
    | 1, _ => exact rx_below hy hb2
theorem seq_lit2 {w W : World} {n : Nat} {x y : Rt} {arr : Array Value} (hb : Below (w.alloc (.cells arr 26)).heap.size (w.alloc (.cells arr 26)) W) (hn : n = w.heap.size) (ha : arr.toList = x.cs ++ y.cs) (hx : RxAt w x) (hy : RxAt w y) (hz : sM x + sM y ≤ 100000) :
    Calls Try.prog 20 #[.slice (some ⟨n, 0, none⟩) 2 2] W (SqfPost (seqX (flK 0 [x, y])) W) := by
  subst hn
  obtain ⟨h1, h2⟩ := ks_two ha hx hy hb
  exact seqf_any _ _ _ h1 h2 (by simp only [sL]; omega)
theorem alt_lit2 {w W : World} {n : Nat} {x y : Rt} {arr : Array Value} (hb : Below (w.alloc (.cells arr 26)).heap.size (w.alloc (.cells arr 26)) W) (hn : n = w.heap.size) (ha : arr.toList = x.cs ++ y.cs) (hx : RxAt w x) (hy : RxAt w y) (hz : sM x + sM y ≤ 100000) :
    Calls Try.prog 19 #[.slice (some ⟨n, 0, none⟩) 2 2] W (SqfPost (altX (flK 1 [x, y])) W) := by
  subst hn
  obtain ⟨h1, h2⟩ := ks_two ha hx hy hb
  exact altf_any _ _ _ h1 h2 (by simp only [sL]; omega)
end
section
open SetM
set_option linter.unusedVariables false
/-- A small letter or a digit. -/
def alB (y : UInt8) : Prop := (48 ≤ y.toNat ∧ y.toNat ≤ 57) ∨ (97 ≤ y.toNat ∧ y.toNat ≤ 122)
/-- A row as a class tells it: one byte, or two with a sign between. -/
structure It where
  f : UInt8
  t : UInt8
  one : Bool
def It.b (i : It) : List UInt8 := if i.one = true then [i.f] else [i.f, 45, i.t]
def It.r (i : It) : Rw := (bsC [i.f], bsC [i.t])
structure It.ok (i : It) : Prop where
  a1 : alB i.f
  a2 : alB i.t
  le : i.f.toNat ≤ i.t.toNat
  e : i.one = true → i.f = i.t
def bytesI (l : List It) : List UInt8 := l.flatMap It.b
theorem al_not {y : UInt8} (h : alB y) (n : UInt8) (hn : ¬ alB n) : (([y] : List UInt8) == [n]) = false := by
  rw [Bool.eq_false_iff]; intro e
  have : y = n := by simpa using e
  subst this; exact hn h
theorem al_ct {y : UInt8} (u : List UInt8) (h : alB y) : contH (y :: u) = false := by
  show contB y = false
  unfold contB
  rw [decide_eq_false_iff_not]
  unfold alB at h
  omega
theorem no_al (n : UInt8) (h : n.toNat < 48 ∨ (57 < n.toNat ∧ n.toNat < 97) ∨ 122 < n.toNat) : ¬ alB n := by unfold alB; omega
/-- What begins with a letter, a digit, or the bracket that closes. -/
def Beg (u : List UInt8) : Prop := ∃ y v, u = y :: v ∧ (alB y ∨ y = 93)
theorem Beg.ct {u : List UInt8} (h : Beg u) : contH u = false := by
  obtain ⟨y, v, rfl, h | rfl⟩ := h
  · exact al_ct v h
  · exact (by decide : contB 93 = false)
theorem beg_hd {u : List UInt8} (h : Beg u) (n : UInt8) (h1 : ¬ alB n) (h2 : n ≠ 93) (h3 : n.toNat < 128) : (hdC u == [n]) = false := by
  obtain ⟨y, v, rfl, hy⟩ := h
  rw [Bool.eq_false_iff]; intro e
  have e := beq_iff_eq.1 e
  have e2 : hdC (y :: v) = y :: (v.take (v.takeWhile contB).length) := by
    show (y :: v).take (1 + (v.takeWhile contB).length) = _
    rw [Nat.add_comm, List.take_succ_cons]
  rw [e2] at e
  injection e with e _
  subst e
  rcases hy with hy | hy
  · exact h1 hy
  · exact h2 hy
theorem item_al {y : UInt8} {u : List UInt8} (h : alB y) (hu : contH u = false) : itemP (y :: u) = some ([], bsC [y], u) := by
  obtain ⟨a1, a2⟩ := hd1 (y := y) hu
  unfold itemP
  rw [a1, a2, al_not h 92 (no_al 92 (by decide)), if_neg (by decide), if_neg (by simp)]
theorem bl_one (a b : UInt8) : bl (bsC [b]) (bsC [a]) = decide (b.toNat < a.toNat) := by
  rw [Bool.eq_iff_iff, bl_iff, bsC_data, bsC_data, decide_eq_true_iff]
  constructor
  · intro h
    rcases List.cons_lt_cons_iff.1 h with h | ⟨_, h⟩
    · exact UInt8.lt_iff_toNat_lt.1 h
    · exact absurd h (List.not_lt_nil _)
  · intro h
    exact List.cons_lt_cons_iff.2 (.inl (UInt8.lt_iff_toNat_lt.2 h))
theorem rows_al {i : It} {u : List UInt8} (h : i.ok) (hu : Beg u) : rowsP (i.b ++ u) = some ([i.r], u) := by
  have hs : ∀ y : UInt8, ¬ (bsC [y]).size = 0 := fun y => by rw [bsC_size]; simp
  unfold It.b
  by_cases ho : i.one = true
  · rw [if_pos ho]
    show rowsP (i.f :: u) = _
    unfold rowsP
    rw [item_al h.a1 hu.ct]
    show (if (bsC [i.f]).size = 0 then _ else _) = _
    rw [if_neg (hs _)]
    have hr : rngP u = false := by
      unfold rngP
      rw [beg_hd hu 45 (no_al 45 (by decide)) (by decide) (by decide)]; rfl
    rw [hr, if_neg (by decide)]
    unfold It.r
    rw [← h.e ho]
  · rw [if_neg ho]
    show rowsP (i.f :: 45 :: i.t :: u) = _
    have c1 : contH (i.t :: u) = false := al_ct u h.a2
    have c2 : contH (45 :: i.t :: u) = false := (by decide : contB 45 = false)
    unfold rowsP
    rw [item_al h.a1 c2]
    show (if (bsC [i.f]).size = 0 then _ else _) = _
    rw [if_neg (hs _)]
    obtain ⟨a1, a2⟩ := hd1 (y := 45) c1
    obtain ⟨b1, b2⟩ := hd1 (y := i.t) hu.ct
    have hr : rngP (45 :: i.t :: u) = true := by
      unfold rngP
      rw [a1, a2, b1, al_not h.a2 93 (no_al 93 (by decide))]; rfl
    rw [hr, if_pos rfl, a2, item_al h.a2 hu.ct]
    show (if bl (bsC [i.t]) (bsC [i.f]) = true then none else _) = _
    have hb : bl (bsC [i.t]) (bsC [i.f]) = false := by rw [bl_one]; exact decide_eq_false (by have := h.le; omega)
    rw [hb]; rfl
theorem bytes_cons (i : It) (l : List It) : bytesI (i :: l) ++ [93] = i.b ++ (bytesI l ++ [93]) := by
  unfold bytesI; rw [List.flatMap_cons, List.append_assoc]
theorem bytes_beg (l : List It) (h : ∀ i ∈ l, i.ok) : Beg (bytesI l ++ [93]) := by
  cases l with
  | nil => exact ⟨93, [], rfl, .inr rfl⟩
  | cons i l =>
    rw [bytes_cons]
    unfold It.b
    split
    · exact ⟨i.f, _, rfl, .inl (h i List.mem_cons_self).a1⟩
    · exact ⟨i.f, _, rfl, .inl (h i List.mem_cons_self).a1⟩
theorem b_hd {i : It} {u : List UInt8} (h : i.ok) (hu : Beg u) : hdC (i.b ++ u) = [i.f] := by
  unfold It.b
  split
  · exact (hd1 (y := i.f) hu.ct).1
  · exact (hd1 (y := i.f) (u := 45 :: i.t :: u) (by decide : contB 45 = false)).1
theorem clsI : ∀ (l : List It) (n : Nat) (acc : List Rw), (∀ i ∈ l, i.ok) → l.length < n → clsP n acc (bytesI l ++ [93]) = some (acc ++ l.map It.r, [])
  | [], n, acc, _, hn => by
    obtain ⟨n, rfl⟩ : ∃ k, n = k + 1 := ⟨n - 1, by simp at hn; omega⟩
    show clsP (n + 1) acc [93] = _
    rw [clsP, if_pos (by decide)]
    simp only [List.map_nil, List.append_nil]
    rfl
  | i :: l, n, acc, h, hn => by
    obtain ⟨n, rfl⟩ : ∃ k, n = k + 1 := ⟨n - 1, by simp at hn; omega⟩
    have hi := h i List.mem_cons_self
    have hl : ∀ i ∈ l, i.ok := fun x hx => h x (List.mem_cons_of_mem _ hx)
    have hb := bytes_beg l hl
    rw [bytes_cons, clsP, b_hd hi hb, al_not hi.a1 93 (no_al 93 (by decide)), if_neg (by decide), rows_al hi hb]
    show clsP n (acc ++ [i.r]) (bytesI l ++ [93]) = _
    rw [clsI l n _ hl (by simp at hn; omega), List.map_cons, List.append_assoc]; rfl
theorem bytes_len (l : List It) : l.length ≤ (bytesI l).length ∧ (bytesI l).length ≤ 3 * l.length := by
  induction l with
  | nil => exact ⟨Nat.le_refl _, Nat.le_refl _⟩
  | cons i l ih =>
    unfold bytesI at ih ⊢
    rw [List.flatMap_cons, List.length_append, List.length_cons]
    have : 1 ≤ i.b.length ∧ i.b.length ≤ 3 := by unfold It.b; split <;> simp
    omega
def headC (nt : Bool) : List UInt8 := if nt = true then [91, 94] else [91]
/-- A class of rows is read as their union. -/
theorem readP_class (nt : Bool) (l : List It) (h : ∀ i ∈ l, i.ok) (hl : l.length ≤ 10) : readP (headC nt ++ (bytesI l ++ [93])) = .ok (setX nt (uniF (sortS (okU (l.map It.r))))) [] := by
  have hb := bytes_beg l h
  have hle := bytes_len l
  obtain ⟨c, hc⟩ : ∃ c, bytesI l ++ [93] = c := ⟨_, rfl⟩
  have hcl : c.length ≤ 31 := by rw [← hc, List.length_append]; simp only [List.length_cons, List.length_nil]; omega
  have hcls : ∀ n, l.length < n → clsP n [] c = some (l.map It.r, []) := fun n hn => by
    rw [← hc]; have := clsI l n [] h hn; simpa using this
  have hcll : l.length < c.length + 1 := by rw [← hc, List.length_append]; simp only [List.length_cons, List.length_nil]; omega
  rw [hc] at hb ⊢
  have hrest : ∃ rest, headC nt ++ c = 91 :: rest ∧ contH rest = false ∧ classP rest = .ok (setX nt (uniF (sortS (okU (l.map It.r))))) [] ∧ rest.length ≤ 32 := by
    cases nt
    · refine ⟨c, rfl, hb.ct, ?_, by omega⟩
      unfold classP
      rw [beg_hd hb 94 (no_al 94 (by decide)) (by decide) (by decide), if_neg (by decide), hcls _ hcll]
    · obtain ⟨a1, a2⟩ := hd1 (y := 94) hb.ct
      refine ⟨94 :: c, rfl, (by decide : contB 94 = false), ?_, by rw [List.length_cons]; omega⟩
      unfold classP
      rw [a1, a2, if_pos (by decide), hcls _ hcll]
      rfl
  obtain ⟨rest, e1, e2, e3, e4⟩ := hrest
  rw [e1]
  obtain ⟨a1, a2⟩ := hd1 (y := 91) e2
  have ht : termP (16 == 0) (patP 16) (91 :: rest) = .ok (setX nt (uniF (sortS (okU (l.map It.r))))) [] := by
    unfold termP
    rw [a1, if_neg (by decide), if_neg (by decide)]
    unfold atomP
    rw [a1, if_neg (by decide), if_neg (by decide), if_pos (by decide), a2, e3]
    show (if (4 : Int) = 10 ∨ (4 : Int) = 11 then _ else _) = _
    rw [if_neg (by decide)]
    rfl
  have hE : endB (91 :: rest) = false := by
    unfold endB
    rw [a1]; rfl
  unfold readP
  rw [if_neg (by rw [List.length_cons]; omega), if_neg (show ¬ contH (91 :: rest) = true from (by decide : ¬ contB 91 = true))]
  have hp : patP 17 (91 :: rest) = .ok (setX nt (uniF (sortS (okU (l.map It.r))))) [] := by
    show altsP (16 == 0) (patP 16) _ [] _ = _
    exact one_term (fun _ => pat_gd 15) hE ht rfl rfl (show (4 : Int) ≠ 0 by decide) (show (4 : Int) ≠ 1 by decide) (by rw [er_eq]; rfl)
  rw [hp]; rfl
theorem uni_rev (l : List It) : uniF (sortS (okU (l.reverse.map It.r))) = uniF (sortS (okU (l.map It.r))) := by
  refine uni_same _ _ (fun s hs => (rowB_ok ((List.mem_filter.1 hs).2)).2.2) (fun s => ?_)
  unfold okU
  rw [List.mem_filter, List.mem_filter, List.map_reverse, List.mem_reverse]
end
section
open Go.ChangeShapes Go.WideShapes Go.ChangeAt Go.RowKit Go.Deep
set_option linter.unusedVariables false
section
open SpanM
/-- The slice reads as l. -/
def SpAt (w : World) (v : Value) (l : List Sp) : Prop :=
  (v = .slice none 0 0 ∧ l = []) ∨
  ∃ x c, v = .slice (some x) l.length c ∧ l.length ≤ c ∧ c ≤ maxLen ∧ ∀ i (h : i < l.length), w.cell? (x.add (i * 2)) = some (.int .i64 l[i].1) ∧ w.cell? (x.add (i * 2 + 1)) = some (.int .i64 l[i].2)
theorem spat_len {w : World} {v : Value} {l : List Sp} (h : SpAt w v l) : ∃ a c, v = .slice a l.length c := by
  rcases h with ⟨rfl, rfl⟩ | ⟨x, c, rfl, _⟩
  · exact ⟨none, 0, rfl⟩
  · exact ⟨some x, c, rfl⟩
theorem spat_below {w w' : World} {v : Value} {l : List Sp} (h : SpAt w v l) (hb : Below w.heap.size w w') : SpAt w' v l := by
  rcases h with h | ⟨x, c, rfl, h1, h2, h3⟩
  · exact .inl h
  · exact .inr ⟨x, c, rfl, h1, h2, fun i hi => ⟨cell_later hb (h3 i hi).1, cell_later hb (h3 i hi).2⟩⟩
/-- Its address, where it holds something. -/
theorem spat_some {w : World} {v : Value} {l : List Sp} (h : SpAt w v l) (hp : 0 < l.length) :
    ∃ b off c, v = .slice (some ⟨b, off, none⟩) l.length c ∧ l.length ≤ c ∧ c ≤ maxLen ∧ b < w.heap.size ∧ ∀ i (h : i < l.length), w.cell? ⟨b, off + i * 2, none⟩ = some (.int .i64 l[i].1) ∧ w.cell? ⟨b, off + i * 2 + 1, none⟩ = some (.int .i64 l[i].2) := by
  rcases h with ⟨rfl, rfl⟩ | ⟨x, c, rfl, h1, h2, h3⟩
  · simp at hp
  · obtain ⟨b, off, spot⟩ := x
    have hc := (h3 0 hp).1
    have hspot : spot = none := by simpa [Addr.add] using World.cell?_spot hc
    subst hspot
    refine ⟨b, off, c, rfl, h1, h2, ?_, fun i hi => ?_⟩
    · have := World.block_lt_of_cell? w _ hc
      rw [addr_add] at this
      exact this
    · have := h3 i hi
      rw [addr_add, addr_add] at this
      exact this
def Wf (s : Sp) : Prop := (Lit.int .i64 s.1).wf = true ∧ (Lit.int .i64 s.2).wf = true
end
open SpanM in
section
open SpanM
variable {H : Type} {enc : TypeId × Value → H} {W : World} {base : Nat} {spare : Nat → Bool} {held : Bool}
set_option maxRecDepth 100000 in
/-- A slice of pairs reads as stretches do. -/
theorem open_pairs {r : Reach} {b0 : Nat} {v : Value} {d : DataW H} {p : List MemPlace} (hv : Value.okWide Try.prog W r b0 44 v) (h : DataW.Trod enc Try.prog W base (fun _ => true) held 44 v d p) :
    ∃ l : List Sp, SpAt W v l ∧ ∀ s ∈ l, Wf s := by
  obtain ⟨a, len, cap, rfl⟩ := okWide_slice Try.underlying44 hv
  obtain ⟨fuel, hf⟩ := h
  rcases open_slice Try.underlying44 hf with ⟨hcs, _⟩ | ⟨x, l, c, m, n, D, Pl, hcs, _, hl, hm, hmm, _, hx⟩
  · simp [Value.cells] at hcs
    obtain ⟨rfl, rfl, rfl⟩ := hcs
    exact ⟨[], .inl ⟨rfl, rfl⟩, by simp⟩
  · simp [Value.cells] at hcs
    obtain ⟨rfl, rfl, rfl⟩ := hcs
    have hC : Try.prog.cellsOf 45 = 2 := by kernel_rfl
    have hC1 : Try.prog.cellsOf 3 = 1 := by kernel_rfl
    have hex : ∀ i, i < len → ∃ s : Sp, W.cell? (x.add (i * 2)) = some (.int .i64 s.1) ∧ W.cell? (x.add (i * 2 + 1)) = some (.int .i64 s.2) ∧ Wf s := by
      intro i hi
      obtain ⟨cs, h1, h2⟩ := hx i (by simp only [if_true] at hmm; omega)
      rw [hC] at h1
      obtain ⟨_, hlen, hcell⟩ := World.cells?_some h1
      obtain ⟨xs, k, _, _, _, hxl, hg⟩ := DataW.trod_array Try.underlying45 h2
      match cs, hlen with
      | [v0, v1], _ =>
        have e0 := hcell 0 (by omega)
        have e1 := hcell 1 (by omega)
        rw [add_add] at e0 e1
        match xs, hxl with
        | [y0, y1], _ =>
          have g0 := hg 0 (by omega)
          have g1 := hg 1 (by omega)
          simp only [hC1] at g0 g1
          obtain ⟨f, q0, _, w0⟩ := DataW.trod_int Try.underlying3 g0
          obtain ⟨t, q1, _, w1⟩ := DataW.trod_int Try.underlying3 g1
          simp at q0 q1
          subst q0 q1
          exact ⟨(f, t), by simpa using e0, by simpa using e1, w0, w1⟩
    obtain ⟨q, hq⟩ := choose_lt hex
    refine ⟨(List.range len).map q, .inr ⟨x, cap, by simp, by simpa using hl, hm, fun i hi => ?_⟩, fun s hs => ?_⟩
    · simp at hi
      simp only [List.getElem_map, List.getElem_range]
      exact ⟨(hq i hi).1, (hq i hi).2.1⟩
    · simp at hs
      obtain ⟨i, hi, rfl⟩ := hs
      exact (hq i hi).2.2
end
section
open SetM
/-- The lesser of two texts. -/
def mnS (a b : ByteArray) : ByteArray := if bl b a = true then b else a
theorem min_str (ats : Array TypeId) (ty : TypeId) (x y : ByteArray) (w : World) : (Builtin.min_ ats ty #[.string x, .string y]).run Try.prog w = .ok (.string (mnS x y)) w := by
  have key : (if Op.bytesLess x.toList y.toList = true ∨ x.toList = y.toList then x else y) = mnS x y := by
    unfold mnS
    cases h1 : bl y x
    · have h3 : bl x y = true ∨ x.toList = y.toList := by
        cases h2 : bl x y
        · right; rw [bl_tri x y h2 h1]
        · left; rfl
      show (if bl x y = true ∨ x.toList = y.toList then x else y) = x
      exact if_pos h3
    · have h3 : ¬ (bl x y = true ∨ x.toList = y.toList) := by
        rintro (h | h)
        · rw [bl_asym _ _ h] at h1; cases h1
        · have hx : x = y := ext _ _ (by rw [← Go.ByteArray.toList_eq, ← Go.ByteArray.toList_eq, h])
          rw [hx, bl_irr] at h1; cases h1
      show (if bl x y = true ∨ x.toList = y.toList then x else y) = y
      exact if_neg h3
  rw [← key]
  simp [Builtin.min_, Builtin.min2, Op.stringOp, asBool]
def litA : ByteArray := ⟨#[97, 98, 99, 100, 101, 102, 103, 104, 105, 106, 107, 108, 109, 110, 111, 112, 113, 114, 115, 116, 117, 118, 119, 120, 121, 122, 48, 49, 50, 51, 52, 53, 54, 55, 56, 57]⟩
def alF (a : Nat) : UInt8 := if a < 26 then UInt8.ofNat (97 + a) else UInt8.ofNat (22 + a)
theorem lit_at (a : Nat) (h : a < 36) : litA.extract a (a + 1) = bsC [alF a] := by
  have h1 : ∀ a : Fin 36, (litA.extract a.1 (a.1 + 1)).data.toList = [alF a.1] := by decide
  apply ByteArray.ext; apply Array.ext'
  rw [h1 ⟨a, h⟩, bsC_data]
theorem al_at (a : Nat) (h : a < 36) : alB (alF a) := by
  have h1 : ∀ a : Fin 36, (48 ≤ (alF a.1).toNat ∧ (alF a.1).toNat ≤ 57) ∨ (97 ≤ (alF a.1).toNat ∧ (alF a.1).toNat ≤ 122) := by decide
  exact h1 ⟨a, h⟩
/-- The item that two letters make. -/
def itF (a b : Nat) : UInt8 := if (alF b).toNat < (alF a).toNat then alF b else alF a
def itT (a b : Nat) : UInt8 := if (alF a).toNat < (alF b).toNat then alF b else alF a
theorem mn_at (a b : Nat) : mnS (bsC [alF a]) (bsC [alF b]) = bsC [itF a b] := by
  unfold mnS itF
  rw [bl_one]
  by_cases h : (alF b).toNat < (alF a).toNat
  · rw [if_pos (decide_eq_true h), if_pos h]
  · rw [if_neg (by simpa using h), if_neg h]
theorem mx_at (a b : Nat) : mx (bsC [alF a]) (bsC [alF b]) = bsC [itT a b] := by
  unfold mx itT
  rw [bl_one]
  by_cases h : (alF a).toNat < (alF b).toNat
  · rw [if_pos (decide_eq_true h), if_pos h]
  · rw [if_neg (by simpa using h), if_neg h]
theorem it_ok (a b : Nat) (ha : a < 36) (hb : b < 36) (q : Bool) (hq : q = true → itF a b = itT a b) : It.ok ⟨itF a b, itT a b, q⟩ := by
  refine ⟨?_, ?_, ?_, hq⟩
  · unfold itF; split
    · exact al_at b hb
    · exact al_at a ha
  · unfold itT; split
    · exact al_at b hb
    · exact al_at a ha
  · show (itF a b).toNat ≤ (itT a b).toNat
    unfold itF itT
    split <;> split <;> omega
end
end
end Go.Proofs.Ytcgphknnnjpbkaa
