/- The places of a text's characters are where steps to the right lead (plain mathematics). -/
import Derived.Test.YtodnnhhlpinpbaaChP
import Derived.Test.YtodnnhhlpinpbaaMotR
namespace Go.Proofs.Ytodnnhhlpinpbaa
theorem cont_nl (L : List UInt8) (k : Nat) (h : k < L.length) : contB L[k] = nlP L k := by
  rw [nlP_in L k h]
  unfold contB
  rw [Bool.eq_iff_iff]
  simp
theorem pl_head (L : List UInt8) : ∀ (n k : Nat), n = L.length - k → 1 ≤ k → k ≤ L.length → ∃ Q, plGo (L.drop k) k = upW (nlP L) L.length k :: Q := by
  intro n
  induction n with
  | zero =>
    intro k h0 h1 h2
    obtain rfl : k = L.length := by omega
    rw [plGo_end, upW_end _ _ _ (Nat.le_refl _)]
    exact ⟨[], rfl⟩
  | succ n ih =>
    intro k h0 h1 h2
    have hk : k < L.length := by omega
    rcases hc : contB L[k] with _ | _
    · rw [plGo_on L k hk (.inr hc), upW_stop _ _ _ (by rw [← cont_nl L k hk, hc])]
      exact ⟨_, rfl⟩
    · rw [plGo_off L k hk (by omega) hc, upW_go _ _ _ hk (by rw [← cont_nl L k hk, hc])]
      exact ih (k + 1) (by omega) (by omega) (by omega)
def ChainR (L : List UInt8) : List Nat → Prop
  | [] => False
  | [a] => a = L.length
  | a :: b :: r => rtM L a = b ∧ a < L.length ∧ ChainR L (b :: r)
theorem pl_chain (L : List UInt8) : ∀ (n k : Nat), n = L.length - k → k ≤ L.length → ChainR L (plGo (L.drop k) k) := by
  intro n
  induction n with
  | zero =>
    intro k h0 h1
    obtain rfl : k = L.length := by omega
    rw [plGo_end]; rfl
  | succ n ih =>
    intro k h0 h1
    have hk : k < L.length := by omega
    have h2 := ih (k + 1) (by omega) (by omega)
    by_cases hc : k = 0 ∨ contB L[k] = false
    · rw [plGo_on L k hk hc]
      obtain ⟨Q, hQ⟩ := pl_head L (L.length - (k + 1)) (k + 1) rfl (by omega) (by omega)
      rw [hQ] at h2 ⊢
      refine ⟨?_, hk, h2⟩
      have := (upW_at (nlP L) L.length (k + 1)).2.1 (by omega)
      unfold rtM
      omega
    · have h3 : ¬ k = 0 := fun h => hc (.inl h)
      have h4 : contB L[k] = true := by
        rcases hb : contB L[k] with _ | _
        · exact absurd (.inr hb) hc
        · rfl
      rw [plGo_off L k hk h3 h4]; exact h2
theorem chain_at (L : List UInt8) : ∀ (P : List Nat), ChainR L P → 0 < P.length ∧ (∀ i (h : i + 1 < P.length), rtM L (P[i]'(by omega)) = P[i + 1] ∧ P[i]'(by omega) < L.length) ∧ ∀ h : P.length - 1 < P.length, P[P.length - 1] = L.length := by
  intro P
  induction P with
  | nil => intro h; exact h.elim
  | cons a r ih =>
    intro h
    cases r with
    | nil => exact ⟨by simp, fun i h => by simp at h, fun _ => h⟩
    | cons b t =>
      obtain ⟨h1, h2, h3⟩ := h
      obtain ⟨g1, g2, g3⟩ := ih h3
      refine ⟨by simp, fun i hi => ?_, fun _ => ?_⟩
      · cases i with
        | zero => exact ⟨h1, h2⟩
        | succ i => exact g2 i (by simpa using hi)
      · have := g3 (by simp)
        simpa using this
theorem pl_zero (L : List UInt8) (h : 0 < (plGo L 0).length) : (plGo L 0)[0] = 0 := by
  cases L with
  | nil => rfl
  | cons c r => simp [plGo]
end Go.Proofs.Ytodnnhhlpinpbaa
