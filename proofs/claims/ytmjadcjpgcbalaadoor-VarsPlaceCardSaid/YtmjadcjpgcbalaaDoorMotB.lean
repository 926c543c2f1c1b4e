/- Steps of a caret: more plain mathematics. -/
import Derived.Test.YtmjadcjpgcbalaaDoorMotA
namespace Go.Proofs.YtmjadcjpgcbalaaDoor
theorem upL_mono (way : Int) (l : List UInt8) (m n : Int) (h0 : 0 ≤ m) (h : m ≤ n) : upL way l m ≤ upL way l n :=
  upL_max way l n _ (upL_le way l m) (Int.le_trans (upL_cnt way l m h0) h)
theorem lnE_mono (L : List UInt8) (i j : Int) (h0 : 0 ≤ i) (h : i ≤ j) : lnE L i ≤ lnE L j := upL_mono 3 L i j h0 h
theorem lnS_mono (L : List UInt8) (i j : Int) (h0 : 0 ≤ i) (h : i ≤ j) : lnS L i ≤ lnS L j := by
  unfold lnS
  by_cases h1 : i = 0
  · rw [if_pos h1]; omega
  · rw [if_neg h1, if_neg (by omega)]
    have := upL_mono 3 L (i - 1) (j - 1) (by omega) (by omega)
    omega
theorem lnE_lt (L : List UInt8) (i j : Int) (h0 : 0 ≤ i) (h : i < j) : lnE L i < lnS L j := by
  have h1 := lnS_next L i h0
  have h2 := lnS_mono L (i + 1) j (by omega) (by omega)
  omega
theorem inLn_mono (L : List UInt8) (i a b : Int) (h0 : 0 ≤ a) (h : a ≤ b) : inLn L i a ≤ inLn L i b := by
  unfold inLn
  have := upL_mono 1 ((L.take (lnE L i)).drop (lnS L i)) a b h0 h
  omega
theorem colR_nn (L : List UInt8) (k : Nat) : 0 ≤ colR L k := (cnt_bd 1 _).1
theorem colR_mono (L : List UInt8) (j k : Nat) (h : j ≤ k) (hb : nBrk (L.take j) = nBrk (L.take k)) : colR L j ≤ colR L k := by
  unfold colR
  rw [hb, cnt1, cnt1]
  have e : L.take j = (L.take k).take j := by rw [List.take_take, Nat.min_eq_left h]
  rw [e, List.drop_take]
  generalize (L.take k).drop (lnS L (nBrk (L.take k))) = l
  have := run_mono l (j - lnS L (nBrk (L.take k))) (max (j - lnS L (nBrk (L.take k))) l.length) (by omega)
  rw [List.take_of_length_le (i := max _ _) (by omega)] at this
  exact this
theorem stepM_mono (L : List UInt8) (j k : Nat) (way : Int) (h : j ≤ k) (hk : k ≤ L.length) : stepM L j way ≤ stepM L k way := by
  have hb := nBrk_mono L j k h
  have hb0 := nBrk_le (L.take j)
  have hbk := nBrk_take L k
  have hle := stepM_le L j way (by omega)
  unfold stepM at hle ⊢
  split
  · exact dnP_mono _ j k h
  split
  · rename_i h1 h2
    rcases Nat.eq_or_lt_of_le hk with h3 | h3
    · rw [upW_end (nlP L) L.length (k + 1) (by omega)]; omega
    · have := upW_mono (nlP L) L.length (j + 1) (k + 1) (by omega) (by omega)
      omega
  split
  · exact lnS_mono L _ _ (by omega) hb
  split
  · exact lnE_mono L _ _ (by omega) hb
  split
  · by_cases h1 : nBrk (L.take j) = 0
    · rw [if_pos h1]; omega
    · rw [if_neg h1, if_neg (by omega)]
      rcases Int.lt_or_eq_of_le hb with h2 | h2
      · have h3 := (inLn_le L (nBrk (L.take j) - 1) (colR L j) (by omega) (by omega)).2
        have h4 := lnE_lt L (nBrk (L.take j) - 1) (nBrk (L.take k) - 1) (by omega) (by omega)
        have h5 := (inLn_le L (nBrk (L.take k) - 1) (colR L k) (by omega) (by omega)).1
        omega
      · rw [← h2]; exact inLn_mono L _ _ _ (colR_nn L j) (colR_mono L j k h h2)
  split
  · rename_i h0 h1 h2 h3 h4 h5
    by_cases h6 : nBrk (L.take k) = nBrk L
    · rw [if_neg h0, if_neg h1, if_neg h2, if_neg h3, if_neg h4, if_pos h5] at hle
      rw [if_pos h6]; exact hle
    · rw [if_neg h6, if_neg (by omega)]
      rcases Int.lt_or_eq_of_le hb with h7 | h7
      · have h8 := (inLn_le L (nBrk (L.take j) + 1) (colR L j) (by omega) (by omega)).2
        have h9 := lnE_lt L (nBrk (L.take j) + 1) (nBrk (L.take k) + 1) (by omega) (by omega)
        have h10 := (inLn_le L (nBrk (L.take k) + 1) (colR L k) (by omega) (by omega)).1
        omega
      · rw [← h7]; exact inLn_mono L _ _ _ (colR_nn L j) (colR_mono L j k h h7)
  split
  · omega
  split
  · omega
  split
  · exact dnW_mono _ _ _ (dnW_mono _ _ _ h)
  · exact upW_mono _ _ _ _ (upW_mono _ _ _ _ h hk) ((upW_at (nwP L) L.length k).2.1 hk)
/-- Right and left again. -/
theorem dnP_uniq (p : Nat → Bool) (a k : Nat) (h : k < a) (hp : p k = true ∨ k = 0) (hn : ∀ j, k < j → j < a → p j = false) : dnP p a = k := by
  rcases dnP_at p a with ⟨h1, h2⟩ | ⟨h1, h2, h3⟩
  · rcases hp with hp | hp
    · rcases Nat.eq_zero_or_pos k with h4 | h4
      · omega
      · rw [h2 k h4 h] at hp; cases hp
    · omega
  · rcases Nat.lt_trichotomy (dnP p a) k with h4 | h4 | h4
    · rcases hp with hp | hp
      · rw [h3 k h4 h] at hp; cases hp
      · omega
    · exact h4
    · rw [hn _ h4 h1] at h2; cases h2
def rtM (L : List UInt8) (k : Nat) : Nat := min (upW (nlP L) L.length (k + 1)) L.length
theorem rt_at (L : List UInt8) (k : Nat) (hk : k < L.length) : k < rtM L k ∧ rtM L k ≤ L.length ∧ (∀ j, k < j → j < rtM L k → ldP L j = false) ∧ (rtM L k < L.length → ldP L (rtM L k) = true) := by
  obtain ⟨h1, h2, h3, h4⟩ := upW_at (nlP L) L.length (k + 1)
  have h5 := h2 (by omega)
  have e : rtM L k = upW (nlP L) L.length (k + 1) := by unfold rtM; omega
  rw [e]
  refine ⟨by omega, h5, fun j h6 h7 => ?_, fun h => ?_⟩
  · have := h3 j (by omega) h7
    rw [nlP_ld L j (by omega)] at this
    simpa using this
  · have := h4 h
    rw [nlP_ld L _ h] at this
    simpa using this
theorem rt_end (L : List UInt8) : rtM L L.length = L.length := by
  unfold rtM; rw [upW_end _ _ _ (by omega)]; omega
theorem back_rt (L : List UInt8) (k : Nat) (hk : k < L.length) (hc : ldP L k = true ∨ k = 0) : dnP (ldP L) (rtM L k) = k := by
  obtain ⟨h1, h2, h3, h4⟩ := rt_at L k hk
  exact dnP_uniq _ _ _ h1 hc h3
theorem lf_at (L : List UInt8) (k : Nat) (h0 : 0 < k) : dnP (ldP L) k < k ∧ ∀ j, dnP (ldP L) k < j → j < k → ldP L j = false := by
  rcases dnP_at (ldP L) k with ⟨h1, h2⟩ | ⟨h1, h2, h3⟩
  · exact ⟨by omega, fun j h3 h4 => h2 j (by omega) h4⟩
  · exact ⟨h1, h3⟩
theorem rt_lf (L : List UInt8) (k : Nat) (h0 : 0 < k) (hk : k ≤ L.length) (hc : k < L.length → ldP L k = true) : rtM L (dnP (ldP L) k) = k := by
  obtain ⟨h1, h2⟩ := lf_at L k h0
  have e : upW (nlP L) L.length (dnP (ldP L) k + 1) = k := by
    refine upW_uniq _ _ _ _ (by omega) (fun j h3 h4 => ?_) (fun h => ?_) hk
    · rw [nlP_ld L j (by omega), h2 j (by omega) h4]; rfl
    · rw [nlP_ld L k h, hc h]; rfl
  unfold rtM
  rw [e]; omega
/-- The words. -/
theorem wr_at (L : List UInt8) (k : Nat) (hk : k ≤ L.length) : k ≤ wrM L k ∧ wrM L k ≤ L.length ∧ (wrM L k < L.length → wdP L (wrM L k) = false ∧ k < wrM L k ∧ wdP L (wrM L k - 1) = true) ∧ (∀ i, k ≤ i → i + 1 < wrM L k → wdP L i = true → wdP L (i + 1) = true) ∧ (k < L.length → k < wrM L k) := by
  unfold wrM
  obtain ⟨a1, a2, a3, a4⟩ := upW_at (nwP L) L.length k
  have a5 := a2 hk
  obtain ⟨b1, b2, b3, b4⟩ := upW_at (wdP L) L.length (upW (nwP L) L.length k)
  have b5 := b2 a5
  have hm : upW (nwP L) L.length k < L.length → wdP L (upW (nwP L) L.length k) = true := fun h => by
    have := a4 h
    rw [nwP_wd L _ h] at this
    simpa using this
  have hlt : upW (nwP L) L.length k < L.length → upW (nwP L) L.length k < upW (wdP L) L.length (upW (nwP L) L.length k) := fun h => by
    rw [upW_go _ _ _ h (hm h)]
    exact (upW_at (wdP L) L.length (upW (nwP L) L.length k + 1)).1
  refine ⟨by omega, b5, fun h => ?_, fun i h1 h2 h3 => ?_, fun h => ?_⟩
  · have h6 : upW (nwP L) L.length k < L.length := by omega
    have h7 := hlt h6
    exact ⟨b4 h, by omega, b3 _ (by omega) (by omega)⟩
  · rcases Nat.lt_or_ge i (upW (nwP L) L.length k) with h4 | h4
    · have := a3 i h1 h4
      rw [nwP_wd L i (by omega), h3] at this
      cases this
    · exact b3 (i + 1) (by omega) h2
  · rcases Nat.lt_or_ge (upW (nwP L) L.length k) L.length with h6 | h6
    · have := hlt h6; omega
    · omega
theorem wl_at (L : List UInt8) (k : Nat) (hk : k ≤ L.length) : wlM L k ≤ k ∧ (0 < wlM L k → wdP L (wlM L k - 1) = false ∧ wlM L k < k ∧ wdP L (wlM L k) = true) ∧ (∀ i, wlM L k ≤ i → i + 1 < k → wdP L i = false → wdP L (i + 1) = false) := by
  unfold wlM
  obtain ⟨a1, a2, a3⟩ := dnW_at (nwP L) k
  obtain ⟨b1, b2, b3⟩ := dnW_at (wdP L) (dnW (nwP L) k)
  refine ⟨by omega, fun h => ?_, fun i h1 h2 h3 => ?_⟩
  · have hd : 0 < dnW (nwP L) k := by omega
    have h4 := a3 (dnW (nwP L) k - 1) (by omega)
    rw [nwP_wd L _ (by omega)] at h4
    have h5 : wdP L (dnW (nwP L) k - 1) = true := by simpa using h4
    have h6 : dnW (wdP L) (dnW (nwP L) k) < dnW (nwP L) k := by
      rcases Nat.lt_or_ge (dnW (wdP L) (dnW (nwP L) k)) (dnW (nwP L) k) with h7 | h7
      · exact h7
      · have := b3 (dnW (nwP L) k - 1) (by omega)
        rw [h5] at this; cases this
    exact ⟨b3 _ (by omega), by omega, b2 _ (by omega) h6⟩
  · rcases Nat.lt_or_ge (i + 1) (dnW (nwP L) k) with h4 | h4
    · have := b2 i h1 (by omega)
      rw [h3] at this; cases this
    · have := a2 (i + 1) h4 h2
      rw [nwP_wd L _ (by omega)] at this
      simpa using this
theorem ld_or_wd (L : List UInt8) (k : Nat) (h : k < L.length) (hl : ldP L k = false) : wdP L k = true := by
  rw [ldP_in L k h] at hl
  rw [wdP_in L k h]
  simp at hl
  unfold wordC
  simp
  omega
theorem wr_rt (L : List UInt8) (k : Nat) (hk : k < L.length) : rtM L k ≤ wrM L k := by
  obtain ⟨h1, h2, h3, h4⟩ := rt_at L k hk
  obtain ⟨a1, a2, a3, a4, a5⟩ := wr_at L k (by omega)
  rcases Nat.lt_or_ge (wrM L k) (rtM L k) with h5 | h5
  · have h6 := h3 _ (a5 hk) h5
    have h7 := ld_or_wd L _ (by omega) h6
    rw [(a3 (by omega)).1] at h7
    cases h7
  · exact h5
theorem wr_mono (L : List UInt8) (j k : Nat) (h : j ≤ k) (hk : k ≤ L.length) : wrM L j ≤ wrM L k := upW_mono _ _ _ _ (upW_mono _ _ _ _ h hk) ((upW_at (nwP L) L.length k).2.1 hk)
/-- From the top by characters. -/
def chN (L : List UInt8) (k : Nat) : Int := nRun (L.take k) + if 0 < k ∧ ldP L 0 = false then 1 else 0
def ChAt (L : List UInt8) (i : Nat) (a : Nat) : Prop := a ≤ L.length ∧ chN L a = i ∧ (a < L.length → 0 < a → ldP L a = true)
theorem chN_zero (L : List UInt8) : chN L 0 = 0 := by unfold chN; simp [nRun]
theorem chN_succ (L : List UInt8) (k : Nat) (h : k < L.length) : chN L (k + 1) = chN L k + if k = 0 ∨ ldP L k = true then 1 else 0 := by
  unfold chN
  rw [run_succ L k h]
  rcases Nat.eq_zero_or_pos k with h0 | h0
  · subst h0
    rcases hb : ldP L 0 with _ | _ <;> simp
  · have e1 : (0 < k + 1 ∧ ldP L 0 = false) = (0 < k ∧ ldP L 0 = false) := by simp [h0]
    have e2 : (k = 0 ∨ ldP L k = true) = (ldP L k = true) := by simp; omega
    simp only [e1, e2]
    omega
theorem chN_le (L : List UInt8) (j k : Nat) (h : j ≤ k) (hk : k ≤ L.length) : chN L j ≤ chN L k := by
  induction k with
  | zero => rw [show j = 0 by omega]; exact Int.le_refl _
  | succ k ih =>
    rcases Nat.eq_or_lt_of_le h with h1 | h1
    · rw [h1]; exact Int.le_refl _
    · have := ih (by omega) (by omega)
      rw [chN_succ L k (by omega)]
      split <;> omega
theorem chN_bd (L : List UInt8) (k : Nat) (hk : k ≤ L.length) : 0 ≤ chN L k ∧ chN L k ≤ k := by
  induction k with
  | zero => rw [chN_zero]; exact ⟨Int.le_refl _, by omega⟩
  | succ k ih =>
    have := ih (by omega)
    rw [chN_succ L k (by omega)]
    split <;> omega
theorem chN_flat (L : List UInt8) (j k : Nat) (h : j ≤ k) (hk : k ≤ L.length) (h0 : 0 < j) (hl : ∀ i, j ≤ i → i < k → ldP L i = false) : chN L k = chN L j := by
  induction k with
  | zero => omega
  | succ k ih =>
    rcases Nat.eq_or_lt_of_le h with h1 | h1
    · rw [h1]
    · rw [chN_succ L k (by omega), hl k (by omega) (by omega), ih (by omega) (by omega) (fun i h2 h3 => hl i h2 (by omega)), if_neg (by simp; omega)]
      omega
theorem ch_top (L : List UInt8) : ChAt L 0 0 := ⟨Nat.zero_le _, chN_zero L, fun _ h => by omega⟩
theorem ch_lt (L : List UInt8) (i a : Nat) (h : ChAt L i a) (hi : (i : Int) < chN L L.length) : a < L.length := by
  obtain ⟨h1, h2, _⟩ := h
  rcases Nat.eq_or_lt_of_le h1 with h3 | h3
  · rw [h3] at h2; omega
  · exact h3
theorem ch_next (L : List UInt8) (i a : Nat) (h : ChAt L i a) (hl : a < L.length) : ChAt L (i + 1) (rtM L a) := by
  obtain ⟨h1, h2, h3⟩ := h
  obtain ⟨r1, r2, r3, r4⟩ := rt_at L a hl
  refine ⟨r2, ?_, fun h _ => r4 h⟩
  rw [chN_flat L (a + 1) (rtM L a) r1 r2 (by omega) (fun i h4 h5 => r3 i h4 h5), chN_succ L a hl, h2, if_pos]
  · omega
  · rcases Nat.eq_zero_or_pos a with h4 | h4
    · exact .inl h4
    · exact .inr (h3 hl h4)
theorem ch_end (L : List UInt8) (i a : Nat) (h : ChAt L i a) (hi : (i : Int) = chN L L.length) : a = L.length := by
  obtain ⟨h1, h2, h3⟩ := h
  rcases Nat.eq_or_lt_of_le h1 with h4 | h4
  · exact h4
  · have h5 := chN_succ L a h4
    have h6 := chN_le L (a + 1) L.length (by omega) (Nat.le_refl _)
    rw [if_pos] at h5
    · omega
    · rcases Nat.eq_zero_or_pos a with h7 | h7
      · exact .inl h7
      · exact .inr (h3 h4 h7)
/-- A place in a line. -/
theorem brk_in (L : List UInt8) (i : Int) (k : Nat) (h0 : 0 ≤ i) (h1 : i ≤ nBrk L) (hs : lnS L i ≤ k) (he : k ≤ lnE L i) : nBrk (L.take k) = i := by
  have h2 := nBrk_mono L _ _ hs
  rw [lnS_brk L i h0 h1] at h2
  have h3 := nBrk_mono L _ _ he
  have h4 := upL_cnt 3 L i h0
  rw [cnt3] at h4
  have h5 : nBrk (L.take (lnE L i)) ≤ i := h4
  omega
theorem inLn_col (L : List UInt8) (i col : Int) (h0 : 0 ≤ i) (h1 : i ≤ nBrk L) (hc : 0 ≤ col) : nBrk (L.take (inLn L i col)) = i ∧ cnt 1 ((L.take (inLn L i col)).drop (lnS L i)) ≤ col := by
  obtain ⟨h2, h3⟩ := inLn_le L i col h0 h1
  refine ⟨brk_in L i _ h0 h1 h2 h3, ?_⟩
  have h4 := upL_cnt 1 ((L.take (lnE L i)).drop (lnS L i)) col hc
  have h5 := lnE_le L i
  have e : (L.take (inLn L i col)).drop (lnS L i) = ((L.take (lnE L i)).drop (lnS L i)).take (upL 1 ((L.take (lnE L i)).drop (lnS L i)) col) := by
    have e1 : L.take (inLn L i col) = (L.take (lnE L i)).take (inLn L i col) := by rw [List.take_take, Nat.min_eq_left h3]
    rw [e1, List.drop_take]
    congr 1
    unfold inLn
    omega
  rw [e]; exact h4
theorem home_brk (L : List UInt8) (i : Int) (h0 : 0 ≤ i) (h1 : i ≤ nBrk L) (h : 0 < lnS L i) (hl : lnS L i - 1 < L.length) : L[lnS L i - 1].toNat = 10 := by
  have hi : i ≠ 0 := fun h2 => by rw [h2] at h; simp [lnS] at h
  obtain ⟨a, b, c⟩ := lnS_pos L i (by omega) h1
  have e : lnS L i - 1 = upL 3 L (i - 1) := by unfold lnS; rw [if_neg hi]; omega
  rw [List.take_succ_eq_append_getElem a, nBrk_snoc] at c
  simp only [e]
  by_cases h2 : L[upL 3 L (i - 1)].toNat = 10
  · exact h2
  · rw [if_neg h2] at c; omega
theorem end_brk (L : List UInt8) (i : Int) (h0 : 0 ≤ i) (h : lnE L i < L.length) : L[lnE L i].toNat = 10 := by
  rcases lnE_next L i h0 with h1 | ⟨c, r, h1, h2⟩
  · omega
  · have := List.drop_eq_getElem_cons h
    rw [h1] at this
    injection this with h3 h4
    rw [← h3]; exact h2
end Go.Proofs.YtmjadcjpgcbalaaDoor
