/- The tree between first and last, as it lies in memory. No condition. -/
import Derived.Test.YtcnliipkfccohabGreatSnH
namespace Go.Proofs.YtcnliipkfccohabGreat
open Go.ChangeShapes Go.WideShapes Go.ChangeAt Go.RowKit
open SetM SpanM
set_option maxRecDepth 100000
set_option linter.unusedVariables false
def barT (kv : Value) (t : Rt) : Rt := .mk 6 ⟨#[]⟩ false (.slice none 0 0) [] 0 0 false kv [t]
def kT (k : Int) : Rt := .mk k ⟨#[]⟩ false (.slice none 0 0) [] 0 0 false (.slice none 0 0) []
theorem bar_at {w : World} {t : Rt} {g : Nat} (ht : RxAt w t) (hc : ∀ j u, t.cs[j]? = some u → w.cell? ⟨g, j, none⟩ = some u) : RxAt w (barT (.slice (some ⟨g, 0, none⟩) 1 1) t) := by
  refine .mk _ (.inl ⟨rfl, rfl⟩) (ks1 hc) (fun i hi => ?_)
  have : i = 0 := by have : i < 1 := hi; omega
  subst this
  exact ht
theorem k_at (w : World) (k : Int) : RxAt w (kT k) := .mk _ (.inl ⟨rfl, rfl⟩) (.inl ⟨rfl, rfl⟩) (fun i hi => absurd hi (Nat.not_lt_zero _))
theorem ks3 {w : World} {g : Nat} {a b c : Rt} (hc : ∀ j u, (a.cs ++ (b.cs ++ c.cs))[j]? = some u → w.cell? ⟨g, j, none⟩ = some u) : KsAt w (.slice (some ⟨g, 0, none⟩) 3 3) [a, b, c] := by
  refine .inr ⟨_, 3, rfl, by simp, by simp [maxLen], fun i hi j u hu => ?_⟩
  have hl : ∀ t : Rt, t.cs.length = 8 := fun t => rfl
  have hj : j < 8 := by
    have := (List.getElem?_eq_some_iff.1 hu).1
    rw [hl] at this
    exact this
  rw [addr_add]
  refine hc _ _ ?_
  have hi3 : i < 3 := hi
  rcases (show i = 0 ∨ i = 1 ∨ i = 2 by omega) with h | h | h
  · subst h
    rw [show 0 + (0 * 8 + j) = j by omega, List.getElem?_append_left (by rw [hl]; exact hj)]
    exact hu
  · subst h
    rw [show 0 + (1 * 8 + j) = 8 + j by omega, List.getElem?_append_right (by rw [hl]; omega), hl, show 8 + j - 8 = j by omega, List.getElem?_append_left (by rw [hl]; exact hj)]
    exact hu
  · subst h
    rw [show 0 + (2 * 8 + j) = 16 + j by omega, List.getElem?_append_right (by rw [hl]; omega), hl, List.getElem?_append_right (by rw [hl]; omega), hl, show 16 + j - 8 - 8 = j by omega]
    exact hu
theorem zE_of (kv : Value) (t : Rt) : seqX (flK 0 [kT 8, barT kv t, kT 9]) = zE t := by
  have h1 : flK 0 [kT 8, barT kv t, kT 9] = [er (kT 8), er (barT kv t), er (kT 9)] := rfl
  rw [h1, er_eq (kT 8), er_eq (barT kv t), er_eq (kT 9)]
  rfl
theorem zE_sM {x t : Rt} (h : er t = zE x) : sM t ≤ sM x + 5 := by
  rw [← sM_er t, h, sM_eq]
  show 1 + 0 + 0 + (sM (kdX 8 []) + (sM (kdX 6 [er x]) + (sM (kdX 9 []) + 0))) ≤ _
  have h1 : sM (kdX 8 []) = 1 := by rw [sM_eq]; rfl
  have h2 : sM (kdX 6 [er x]) = 1 + sM x := by rw [sM_eq]; show 1 + 0 + 0 + (sM (er x) + 0) = _; rw [sM_er]; omega
  have h3 : sM (kdX 9 []) = 1 := by rw [sM_eq]; rfl
  omega
theorem l3_sL (kv : Value) (t : Rt) : sL [kT 8, barT kv t, kT 9] ≤ sM t + 5 := by
  show sM (kT 8) + (sM (barT kv t) + (sM (kT 9) + 0)) ≤ _
  have h1 : sM (kT 8) = 1 := by rw [sM_eq]; rfl
  have h2 : sM (barT kv t) = 1 + sM t := by rw [sM_eq]; show 1 + 0 + 0 + (sM t + 0) = _; omega
  have h3 : sM (kT 9) = 1 := by rw [sM_eq]; rfl
  omega
theorem l3_at {w : World} {kv : Value} {t : Rt} (h : RxAt w (barT kv t)) (i : Nat) (hi : i < [kT 8, barT kv t, kT 9].length) : RxAt w [kT 8, barT kv t, kT 9][i] := by
  have hi3 : i < 3 := hi
  rcases (show i = 0 ∨ i = 1 ∨ i = 2 by omega) with e | e | e
  · subst e; exact k_at w 8
  · subst e; exact h
  · subst e; exact k_at w 9
end Go.Proofs.YtcnliipkfccohabGreat
