/- Steps of a caret (plain mathematics). -/
import Derived.Test.YtmjadcjpgcbalaaDoorLinA
namespace Go.Proofs.YtmjadcjpgcbalaaDoor
/-- The last place below k that is one, or 0. -/
def dnP (p : Nat → Bool) : Nat → Nat
  | 0 => 0
  | k + 1 => if p k then k else dnP p k
/-- Down from k over those that are one. -/
def dnW (p : Nat → Bool) : Nat → Nat
  | 0 => 0
  | k + 1 => if p k then dnW p k else k + 1
/-- Up from k, below k + f, over those that are one. -/
def upF (p : Nat → Bool) : Nat → Nat → Nat
  | 0, k => k
  | f + 1, k => if p k then upF p f (k + 1) else k
def upW (p : Nat → Bool) (n k : Nat) : Nat := upF p (n - k) k
theorem upW_end (p : Nat → Bool) (n k : Nat) (h : n ≤ k) : upW p n k = k := by
  unfold upW; rw [show n - k = 0 by omega]; rfl
theorem upW_go (p : Nat → Bool) (n k : Nat) (h : k < n) (hp : p k = true) : upW p n k = upW p n (k + 1) := by
  unfold upW; rw [show n - k = (n - (k + 1)) + 1 by omega, upF, if_pos hp]
theorem upW_stop (p : Nat → Bool) (n k : Nat) (hp : p k = false) : upW p n k = k := by
  unfold upW
  cases h : n - k with
  | zero => rfl
  | succ f => rw [upF, hp]; rfl
theorem upF_at (p : Nat → Bool) : ∀ (f k : Nat), k ≤ upF p f k ∧ upF p f k ≤ k + f ∧ (∀ j, k ≤ j → j < upF p f k → p j = true) ∧ (upF p f k < k + f → p (upF p f k) = false) := by
  intro f
  induction f with
  | zero => intro k; simp only [upF]; exact ⟨by omega, by omega, fun j h1 h2 => by omega, fun h => by omega⟩
  | succ f ih =>
    intro k
    simp only [upF]
    by_cases hp : p k = true
    · rw [if_pos hp]
      obtain ⟨h1, h2, h3, h4⟩ := ih (k + 1)
      refine ⟨by omega, by omega, fun j h5 h6 => ?_, fun h => h4 (by omega)⟩
      rcases Nat.eq_or_lt_of_le h5 with h7 | h7
      · rw [← h7]; exact hp
      · exact h3 j h7 h6
    · rw [if_neg hp]
      exact ⟨by omega, by omega, fun j h1 h2 => by omega, fun _ => by simpa using hp⟩
theorem upW_at (p : Nat → Bool) (n k : Nat) : k ≤ upW p n k ∧ (k ≤ n → upW p n k ≤ n) ∧ (∀ j, k ≤ j → j < upW p n k → p j = true) ∧ (upW p n k < n → p (upW p n k) = false) := by
  obtain ⟨h1, h2, h3, h4⟩ := upF_at p (n - k) k
  refine ⟨h1, fun h => ?_, h3, fun h => h4 ?_⟩
  · unfold upW; omega
  · unfold upW at h; omega
theorem upW_uniq (p : Nat → Bool) (n k r : Nat) (h1 : k ≤ r) (h2 : ∀ j, k ≤ j → j < r → p j = true) (h3 : r < n → p r = false) (h4 : r ≤ n) : upW p n k = r := by
  obtain ⟨a1, a2, a3, a4⟩ := upW_at p n k
  rcases Nat.lt_trichotomy (upW p n k) r with h | h | h
  · have := h2 _ a1 h
    rw [a4 (by omega)] at this
    cases this
  · exact h
  · have := a3 r h1 h
    rw [h3 (by have := a2 (by omega); omega)] at this
    cases this
theorem dnW_at (p : Nat → Bool) : ∀ k, dnW p k ≤ k ∧ (∀ j, dnW p k ≤ j → j < k → p j = true) ∧ (∀ j, j + 1 = dnW p k → p j = false) := by
  intro k
  induction k with
  | zero => exact ⟨Nat.le_refl _, fun j _ h => by omega, fun j h => by simp [dnW] at h⟩
  | succ k ih =>
    simp only [dnW]
    by_cases hp : p k = true
    · rw [if_pos hp]
      obtain ⟨h1, h2, h3⟩ := ih
      refine ⟨by omega, fun j h4 h5 => ?_, h3⟩
      rcases Nat.eq_or_lt_of_le (Nat.le_of_lt_succ h5) with h7 | h7
      · rw [h7]; exact hp
      · exact h2 j h4 h7
    · rw [if_neg hp]
      exact ⟨by omega, fun j h4 h5 => by omega, fun j h => by rw [show j = k by omega]; simpa using hp⟩
theorem dnP_at (p : Nat → Bool) : ∀ k, (dnP p k = 0 ∧ ∀ j, 0 < j → j < k → p j = false) ∨ (dnP p k < k ∧ p (dnP p k) = true ∧ ∀ j, dnP p k < j → j < k → p j = false) := by
  intro k
  induction k with
  | zero => exact .inl ⟨rfl, fun j _ h => by omega⟩
  | succ k ih =>
    simp only [dnP]
    by_cases hp : p k = true
    · rw [if_pos hp]
      exact .inr ⟨by omega, hp, fun j h1 h2 => by omega⟩
    · rw [if_neg hp]
      have hp' : p k = false := by simpa using hp
      rcases ih with ⟨h1, h2⟩ | ⟨h1, h2, h3⟩
      · refine .inl ⟨h1, fun j h3 h4 => ?_⟩
        rcases Nat.eq_or_lt_of_le (Nat.le_of_lt_succ h4) with h7 | h7
        · rw [h7]; exact hp'
        · exact h2 j h3 h7
      · refine .inr ⟨by omega, h2, fun j h4 h5 => ?_⟩
        rcases Nat.eq_or_lt_of_le (Nat.le_of_lt_succ h5) with h7 | h7
        · rw [h7]; exact hp'
        · exact h3 j h4 h7
theorem dnP_le (p : Nat → Bool) (k : Nat) : dnP p k ≤ k := by
  rcases dnP_at p k with ⟨h, _⟩ | ⟨h, _⟩ <;> omega
theorem dnP_mono (p : Nat → Bool) (j k : Nat) (h : j ≤ k) : dnP p j ≤ dnP p k := by
  induction k with
  | zero => rw [show j = 0 by omega]; exact Nat.le_refl _
  | succ k ih =>
    rcases Nat.eq_or_lt_of_le h with h1 | h1
    · rw [h1]; exact Nat.le_refl _
    · simp only [dnP]
      by_cases hp : p k = true
      · rw [if_pos hp]
        have := dnP_le p j
        omega
      · rw [if_neg hp]; exact ih (by omega)
theorem dnW_mono (p : Nat → Bool) (j k : Nat) (h : j ≤ k) : dnW p j ≤ dnW p k := by
  induction k with
  | zero => rw [show j = 0 by omega]; exact Nat.le_refl _
  | succ k ih =>
    rcases Nat.eq_or_lt_of_le h with h1 | h1
    · rw [h1]; exact Nat.le_refl _
    · simp only [dnW]
      by_cases hp : p k = true
      · rw [if_pos hp]; exact ih (by omega)
      · rw [if_neg hp]
        have := (dnW_at p j).1
        omega
theorem upW_mono (p : Nat → Bool) (n j k : Nat) (h : j ≤ k) (hk : k ≤ n) : upW p n j ≤ upW p n k := by
  obtain ⟨a1, a2, a3, a4⟩ := upW_at p n j
  obtain ⟨b1, b2, b3, b4⟩ := upW_at p n k
  rcases Nat.lt_or_ge (upW p n k) (upW p n j) with h1 | h1
  · have := a3 (upW p n k) (by omega) h1
    rw [b4 (by have := a2 (by omega); omega)] at this
    cases this
  · exact h1
/-- The kinds of a byte at a place. -/
def ldP (L : List UInt8) (k : Nat) : Bool := match L[k]? with | none => false | some c => decide (c.toNat < 128 ∨ 191 < c.toNat)
def nlP (L : List UInt8) (k : Nat) : Bool := match L[k]? with | none => false | some c => !decide (c.toNat < 128 ∨ 191 < c.toNat)
def wordC (c : UInt8) : Bool := decide ((48 ≤ c.toNat ∧ c.toNat ≤ 57) ∨ (65 ≤ c.toNat ∧ c.toNat ≤ 90) ∨ (97 ≤ c.toNat ∧ c.toNat ≤ 122) ∨ c.toNat = 95 ∨ 128 ≤ c.toNat)
def wdP (L : List UInt8) (k : Nat) : Bool := match L[k]? with | none => false | some c => wordC c
def nwP (L : List UInt8) (k : Nat) : Bool := match L[k]? with | none => false | some c => !wordC c
theorem ldP_in (L : List UInt8) (k : Nat) (h : k < L.length) : ldP L k = decide (L[k].toNat < 128 ∨ 191 < L[k].toNat) := by unfold ldP; rw [List.getElem?_eq_getElem h]
theorem nlP_in (L : List UInt8) (k : Nat) (h : k < L.length) : nlP L k = !decide (L[k].toNat < 128 ∨ 191 < L[k].toNat) := by unfold nlP; rw [List.getElem?_eq_getElem h]
theorem wdP_in (L : List UInt8) (k : Nat) (h : k < L.length) : wdP L k = wordC L[k] := by unfold wdP; rw [List.getElem?_eq_getElem h]
theorem nwP_in (L : List UInt8) (k : Nat) (h : k < L.length) : nwP L k = !wordC L[k] := by unfold nwP; rw [List.getElem?_eq_getElem h]
theorem nlP_ld (L : List UInt8) (k : Nat) (h : k < L.length) : nlP L k = !ldP L k := by rw [nlP_in L k h, ldP_in L k h]
theorem nwP_wd (L : List UInt8) (k : Nat) (h : k < L.length) : nwP L k = !wdP L k := by rw [nwP_in L k h, wdP_in L k h]
theorem cnt1 (l : List UInt8) : cnt 1 l = nRun l := by unfold cnt byW; simp
theorem run_succ (L : List UInt8) (k : Nat) (h : k < L.length) : nRun (L.take (k + 1)) = nRun (L.take k) + if ldP L k = true then 1 else 0 := by
  rw [List.take_succ_eq_append_getElem h, nRun_snoc, ldP_in L k h]
  simp
theorem run_mono (L : List UInt8) (j k : Nat) (h : j ≤ k) : nRun (L.take j) ≤ nRun (L.take k) := by
  have e : L.take k = L.take j ++ (L.take k).drop j := by
    have := List.take_append_drop j (L.take k)
    rw [List.take_take, Nat.min_eq_left h] at this
    exact this.symm
  rw [e, nRun_app]
  have := nRun_le ((L.take k).drop j)
  omega
theorem lf_run (L : List UInt8) (k : Nat) (hk : k ≤ L.length) : (nRun (L.take k) = 0 ∧ dnP (ldP L) k = 0) ∨ (dnP (ldP L) k < k ∧ nRun (L.take (dnP (ldP L) k)) + 1 = nRun (L.take k) ∧ nRun (L.take (dnP (ldP L) k + 1)) = nRun (L.take k)) := by
  induction k with
  | zero => exact .inl ⟨by simp [nRun], rfl⟩
  | succ k ih =>
    have hr := run_succ L k (by omega)
    simp only [dnP]
    by_cases hp : ldP L k = true
    · rw [if_pos hp] at hr ⊢
      exact .inr ⟨by omega, by omega, rfl⟩
    · rw [if_neg hp] at hr ⊢
      rcases ih (by omega) with ⟨h1, h2⟩ | ⟨h1, h2, h3⟩
      · exact .inl ⟨by omega, h2⟩
      · exact .inr ⟨by omega, by omega, by omega⟩
/-- Left: by counts. -/
theorem left_zero (L : List UInt8) (k : Nat) (hk : k ≤ L.length) (h : nRun (L.take k) = 0) : dnP (ldP L) k = 0 := by
  rcases lf_run L k hk with ⟨_, h2⟩ | ⟨h1, h2, h3⟩
  · exact h2
  · have := nRun_le (L.take (dnP (ldP L) k)); omega
theorem left_some (L : List UInt8) (k : Nat) (hk : k ≤ L.length) (h : nRun (L.take k) ≠ 0) : upL 1 L (nRun (L.take k) - 1) = dnP (ldP L) k := by
  rcases lf_run L k hk with ⟨h2, _⟩ | ⟨h1, h2, h3⟩
  · exact absurd h2 h
  · have h4 := nRun_le (L.take k)
    have h5 := upL_cnt 1 L (nRun (L.take k) - 1) (by omega)
    have h6 := upL_max 1 L (nRun (L.take k) - 1) (dnP (ldP L) k) (by omega) (by rw [cnt1]; omega)
    rw [cnt1] at h5
    rcases Nat.lt_or_ge (dnP (ldP L) k) (upL 1 L (nRun (L.take k) - 1)) with h7 | h7
    · have := run_mono L (dnP (ldP L) k + 1) _ h7
      omega
    · omega
theorem right_up (L : List UInt8) (k : Nat) (hk : k < L.length) : upL 1 L (nRun (L.take (k + 1))) = min (upW (nlP L) L.length (k + 1)) L.length := by
  have h4 := nRun_le (L.take (k + 1))
  have h5 := upL_cnt 1 L (nRun (L.take (k + 1))) (by omega)
  have h6 := fun j => upL_max 1 L (nRun (L.take (k + 1))) j
  have h7 := upL_le 1 L (nRun (L.take (k + 1)))
  rw [cnt1] at h5
  have h8 := h6 (k + 1) (by omega) (by rw [cnt1]; omega)
  have e : upW (nlP L) L.length (k + 1) = upL 1 L (nRun (L.take (k + 1))) := by
    refine upW_uniq _ _ _ _ h8 (fun j h9 h10 => ?_) (fun h => ?_) h7
    · have h11 := run_succ L j (by omega)
      have h12 := run_mono L (j + 1) _ h10
      have h13 := run_mono L (k + 1) j h9
      rw [nlP_ld L j (by omega)]
      by_cases hp : ldP L j = true
      · rw [if_pos hp] at h11; omega
      · simpa using hp
    · rw [nlP_ld L _ h]
      have h11 := run_succ L _ h
      by_cases hp : ldP L (upL 1 L (nRun (L.take (k + 1)))) = true
      · rw [hp]; rfl
      · rw [if_neg hp] at h11
        have := h6 (upL 1 L (nRun (L.take (k + 1))) + 1) (by omega) (by rw [cnt1]; omega)
        omega
  rw [e]; omega
/-- The words. -/
def wlM (L : List UInt8) (k : Nat) : Nat := dnW (wdP L) (dnW (nwP L) k)
def wrM (L : List UInt8) (k : Nat) : Nat := upW (wdP L) L.length (upW (nwP L) L.length k)
/-- Up and down: the place in a line by a column of runes. -/
def inLn (L : List UInt8) (i : Int) (col : Int) : Nat := lnS L i + upL 1 ((L.take (lnE L i)).drop (lnS L i)) col
def colR (L : List UInt8) (k : Nat) : Int := cnt 1 ((L.take k).drop (lnS L (nBrk (L.take k))))
def stepM (L : List UInt8) (k : Nat) (way : Int) : Nat :=
  if way = 1 then dnP (ldP L) k
  else if way = 2 then min (upW (nlP L) L.length (k + 1)) L.length
  else if way = 3 then lnS L (nBrk (L.take k))
  else if way = 4 then lnE L (nBrk (L.take k))
  else if way = 5 then (if nBrk (L.take k) = 0 then 0 else inLn L (nBrk (L.take k) - 1) (colR L k))
  else if way = 6 then (if nBrk (L.take k) = nBrk L then L.length else inLn L (nBrk (L.take k) + 1) (colR L k))
  else if way = 7 then 0
  else if way = 8 then L.length
  else if way = 9 then wlM L k
  else wrM L k
theorem inLn_le (L : List UInt8) (i col : Int) (h0 : 0 ≤ i) (h1 : i ≤ nBrk L) : lnS L i ≤ inLn L i col ∧ inLn L i col ≤ lnE L i := by
  unfold inLn
  have h2 := upL_le 1 ((L.take (lnE L i)).drop (lnS L i)) col
  have h3 := lnS_le L i h0 h1
  have h4 := lnE_le L i
  rw [List.length_drop, List.length_take] at h2
  omega
theorem stepM_le (L : List UInt8) (k : Nat) (way : Int) (hk : k ≤ L.length) : stepM L k way ≤ L.length := by
  have hb := nBrk_le (L.take k)
  have hbt := nBrk_take L k
  unfold stepM
  split
  · have := dnP_le (ldP L) k; omega
  split
  · omega
  split
  · exact lnS_len L _ (by omega) hbt
  split
  · exact lnE_le L _
  split
  · split
    · omega
    · have := (inLn_le L (nBrk (L.take k) - 1) (colR L k) (by omega) (by omega)).2
      have := lnE_le L (nBrk (L.take k) - 1)
      omega
  split
  · split
    · omega
    · have := (inLn_le L (nBrk (L.take k) + 1) (colR L k) (by omega) (by omega)).2
      have := lnE_le L (nBrk (L.take k) + 1)
      omega
  split
  · omega
  split
  · omega
  split
  · unfold wlM
    have h1 := (dnW_at (nwP L) k).1
    have h2 := (dnW_at (wdP L) (dnW (nwP L) k)).1
    omega
  · unfold wrM
    have h1 := (upW_at (nwP L) L.length k).2.1 hk
    exact (upW_at (wdP L) L.length (upW (nwP L) L.length k)).2.1 h1
end Go.Proofs.YtmjadcjpgcbalaaDoor
