/- Steps of a caret (plain mathematics). Steps of a caret: more plain mathematics. Contracts: word bytes, by the program and by the reference. No condition. Contracts: a caret's steps left and right, up and down, by words, in lines of a rope. Condition: a text that is not too long. Contracts: a caret's steps by words, in lines of a rope. Condition: a text that is not too long. Contracts: a caret's steps of all ways, in lines of a rope. Condition: a text that is not too long. Contracts: the reference's steps of a caret. Condition: a text that is not too long. Contract: the reference's step of a caret, of all ways. Condition: a text that is not too long. Contract: lines of a text, as layer 9's statements make them. Condition: a text that is not too long. Words on selections: their stretch, what a function makes beside drawing; contracts of sels.Span, of the order by stretches, of sels.cover. No condition. Contracts: a single selection put in order. Condition: it lies in the text. Contract: one selection goes, extended. Condition: it lies in the text. Layer 9's laws: what every program answers that is one. Layer 9's laws: a step from a place of the text. -/
import Derived.Test.YtjcmbnmejkhcjaaGreatLinA
import Derived.Test.YtjcmbnmejkhcjaaGreatOwn
import Derived.Test.YtjcmbnmejkhcjaaGreatLinR
import Derived.Test.YtjcmbnmejkhcjaaGreatSpanC
import Derived.Test.YtjcmbnmejkhcjaaGreatLater
import Derived.Laws.ResultCell
import Derived.Deep.RegionWith
import Derived.Deep.DeepCutAuto
import Derived.BigRegion
import Derived.Test.YtjcmbnmejkhcjaaGreatApp
import Derived.Lib.LazyBuf
import Derived.ArgAppend
import Derived.RegionTactic
import Derived.Test.YtjcmbnmejkhcjaaGreatLow
namespace Go.Proofs.YtjcmbnmejkhcjaaGreat
section
/-- The last place below k that is one, or 0. -/
def dnP (p : Nat → Bool) : Nat → Nat
  | 0 => 0
  | k + 1 => if p k then k else dnP p k
/-- Down from k over those that are one. -/
def dnW (p : Nat → Bool) : Nat → Nat
  | 0 => 0
  | k + 1 => if p k then dnW p k else k + 1
/-- Up from k, below k + f, over those that are one. -/
def upF (p : Nat → Bool) : Nat → Nat → Nat
  | 0, k => k
  | f + 1, k => if p k then upF p f (k + 1) else k
def upW (p : Nat → Bool) (n k : Nat) : Nat := upF p (n - k) k
theorem upW_end (p : Nat → Bool) (n k : Nat) (h : n ≤ k) : upW p n k = k := by
  unfold upW; rw [show n - k = 0 by omega]; rfl
theorem upW_go (p : Nat → Bool) (n k : Nat) (h : k < n) (hp : p k = true) : upW p n k = upW p n (k + 1) := by
  unfold upW; rw [show n - k = (n - (k + 1)) + 1 by omega, upF, if_pos hp]
theorem upW_stop (p : Nat → Bool) (n k : Nat) (hp : p k = false) : upW p n k = k := by
  unfold upW
  cases h : n - k with
  | zero => rfl
  | succ f => rw [upF, hp]; rfl
theorem upF_at (p : Nat → Bool) : ∀ (f k : Nat), k ≤ upF p f k ∧ upF p f k ≤ k + f ∧ (∀ j, k ≤ j → j < upF p f k → p j = true) ∧ (upF p f k < k + f → p (upF p f k) = false) := by
  intro f
  induction f with
  | zero => intro k; simp only [upF]; exact ⟨by omega, by omega, fun j h1 h2 => by omega, fun h => by omega⟩
  | succ f ih =>
    intro k
    simp only [upF]
    by_cases hp : p k = true
    · rw [if_pos hp]
      obtain ⟨h1, h2, h3, h4⟩ := ih (k + 1)
      refine ⟨by omega, by omega, fun j h5 h6 => ?_, fun h => h4 (by omega)⟩
      rcases Nat.eq_or_lt_of_le h5 with h7 | h7
      · rw [← h7]; exact hp
      · exact h3 j h7 h6
    · rw [if_neg hp]
      exact ⟨by omega, by omega, fun j h1 h2 => by omega, fun _ => by simpa using hp⟩
theorem upW_at (p : Nat → Bool) (n k : Nat) : k ≤ upW p n k ∧ (k ≤ n → upW p n k ≤ n) ∧ (∀ j, k ≤ j → j < upW p n k → p j = true) ∧ (upW p n k < n → p (upW p n k) = false) := by
  obtain ⟨h1, h2, h3, h4⟩ := upF_at p (n - k) k
  refine ⟨h1, fun h => ?_, h3, fun h => h4 ?_⟩
  · unfold upW; omega
  · unfold upW at h; omega
theorem upW_uniq (p : Nat → Bool) (n k r : Nat) (h1 : k ≤ r) (h2 : ∀ j, k ≤ j → j < r → p j = true) (h3 : r < n → p r = false) (h4 : r ≤ n) : upW p n k = r := by
  obtain ⟨a1, a2, a3, a4⟩ := upW_at p n k
  rcases Nat.lt_trichotomy (upW p n k) r with h | h | h
  · have := h2 _ a1 h
    rw [a4 (by omega)] at this
    cases this
  · exact h
  · have := a3 r h1 h
    rw [h3 (by have := a2 (by omega); omega)] at this
    cases this
theorem dnW_at (p : Nat → Bool) : ∀ k, dnW p k ≤ k ∧ (∀ j, dnW p k ≤ j → j < k → p j = true) ∧ (∀ j, j + 1 = dnW p k → p j = false) := by
  intro k
  induction k with
  | zero => exact ⟨Nat.le_refl _, fun j _ h => by omega, fun j h => by simp [dnW] at h⟩
  | succ k ih =>
    simp only [dnW]
    by_cases hp : p k = true
    · rw [if_pos hp]
      obtain ⟨h1, h2, h3⟩ := ih
      refine ⟨by omega, fun j h4 h5 => ?_, h3⟩
      rcases Nat.eq_or_lt_of_le (Nat.le_of_lt_succ h5) with h7 | h7
      · rw [h7]; exact hp
      · exact h2 j h4 h7
    · rw [if_neg hp]
      exact ⟨by omega, fun j h4 h5 => by omega, fun j h => by rw [show j = k by omega]; simpa using hp⟩
theorem dnP_at (p : Nat → Bool) : ∀ k, (dnP p k = 0 ∧ ∀ j, 0 < j → j < k → p j = false) ∨ (dnP p k < k ∧ p (dnP p k) = true ∧ ∀ j, dnP p k < j → j < k → p j = false) := by
  intro k
  induction k with
  | zero => exact .inl ⟨rfl, fun j _ h => by omega⟩
  | succ k ih =>
    simp only [dnP]
    by_cases hp : p k = true
    · rw [if_pos hp]
      exact .inr ⟨by omega, hp, fun j h1 h2 => by omega⟩
    · rw [if_neg hp]
      have hp' : p k = false := by simpa using hp
      rcases ih with ⟨h1, h2⟩ | ⟨h1, h2, h3⟩
      · refine .inl ⟨h1, fun j h3 h4 => ?_⟩
        rcases Nat.eq_or_lt_of_le (Nat.le_of_lt_succ h4) with h7 | h7
        · rw [h7]; exact hp'
        · exact h2 j h3 h7
      · refine .inr ⟨by omega, h2, fun j h4 h5 => ?_⟩
        rcases Nat.eq_or_lt_of_le (Nat.le_of_lt_succ h5) with h7 | h7
        · rw [h7]; exact hp'
        · exact h3 j h4 h7
theorem dnP_le (p : Nat → Bool) (k : Nat) : dnP p k ≤ k := by
  rcases dnP_at p k with ⟨h, _⟩ | ⟨h, _⟩ <;> omega
theorem dnP_mono (p : Nat → Bool) (j k : Nat) (h : j ≤ k) : dnP p j ≤ dnP p k := by
  induction k with
  | zero => rw [show j = 0 by omega]; exact Nat.le_refl _
  | succ k ih =>
    rcases Nat.eq_or_lt_of_le h with h1 | h1
    · rw [h1]; exact Nat.le_refl _
    · simp only [dnP]
      by_cases hp : p k = true
      · rw [if_pos hp]
        have := dnP_le p j
        omega
      · rw [if_neg hp]; exact ih (by omega)
theorem dnW_mono (p : Nat → Bool) (j k : Nat) (h : j ≤ k) : dnW p j ≤ dnW p k := by
  induction k with
  | zero => rw [show j = 0 by omega]; exact Nat.le_refl _
  | succ k ih =>
    rcases Nat.eq_or_lt_of_le h with h1 | h1
    · rw [h1]; exact Nat.le_refl _
    · simp only [dnW]
      by_cases hp : p k = true
      · rw [if_pos hp]; exact ih (by omega)
      · rw [if_neg hp]
        have := (dnW_at p j).1
        omega
theorem upW_mono (p : Nat → Bool) (n j k : Nat) (h : j ≤ k) (hk : k ≤ n) : upW p n j ≤ upW p n k := by
  obtain ⟨a1, a2, a3, a4⟩ := upW_at p n j
  obtain ⟨b1, b2, b3, b4⟩ := upW_at p n k
  rcases Nat.lt_or_ge (upW p n k) (upW p n j) with h1 | h1
  · have := a3 (upW p n k) (by omega) h1
    rw [b4 (by have := a2 (by omega); omega)] at this
    cases this
  · exact h1
/-- The kinds of a byte at a place. -/
def ldP (L : List UInt8) (k : Nat) : Bool := match L[k]? with | none => false | some c => decide (c.toNat < 128 ∨ 191 < c.toNat)
def nlP (L : List UInt8) (k : Nat) : Bool := match L[k]? with | none => false | some c => !decide (c.toNat < 128 ∨ 191 < c.toNat)
def wordC (c : UInt8) : Bool := decide ((48 ≤ c.toNat ∧ c.toNat ≤ 57) ∨ (65 ≤ c.toNat ∧ c.toNat ≤ 90) ∨ (97 ≤ c.toNat ∧ c.toNat ≤ 122) ∨ c.toNat = 95 ∨ 128 ≤ c.toNat)
def wdP (L : List UInt8) (k : Nat) : Bool := match L[k]? with | none => false | some c => wordC c
def nwP (L : List UInt8) (k : Nat) : Bool := match L[k]? with | none => false | some c => !wordC c
theorem ldP_in (L : List UInt8) (k : Nat) (h : k < L.length) : ldP L k = decide (L[k].toNat < 128 ∨ 191 < L[k].toNat) := by unfold ldP; rw [List.getElem?_eq_getElem h]
theorem nlP_in (L : List UInt8) (k : Nat) (h : k < L.length) : nlP L k = !decide (L[k].toNat < 128 ∨ 191 < L[k].toNat) := by unfold nlP; rw [List.getElem?_eq_getElem h]
theorem wdP_in (L : List UInt8) (k : Nat) (h : k < L.length) : wdP L k = wordC L[k] := by unfold wdP; rw [List.getElem?_eq_getElem h]
theorem nwP_in (L : List UInt8) (k : Nat) (h : k < L.length) : nwP L k = !wordC L[k] := by unfold nwP; rw [List.getElem?_eq_getElem h]
theorem nlP_ld (L : List UInt8) (k : Nat) (h : k < L.length) : nlP L k = !ldP L k := by rw [nlP_in L k h, ldP_in L k h]
theorem nwP_wd (L : List UInt8) (k : Nat) (h : k < L.length) : nwP L k = !wdP L k := by rw [nwP_in L k h, wdP_in L k h]
theorem cnt1 (l : List UInt8) : cnt 1 l = nRun l := by unfold cnt byW; simp
theorem run_succ (L : List UInt8) (k : Nat) (h : k < L.length) : nRun (L.take (k + 1)) = nRun (L.take k) + if ldP L k = true then 1 else 0 := by
  rw [List.take_succ_eq_append_getElem h, nRun_snoc, ldP_in L k h]
  simp
theorem run_mono (L : List UInt8) (j k : Nat) (h : j ≤ k) : nRun (L.take j) ≤ nRun (L.take k) := by
  have e : L.take k = L.take j ++ (L.take k).drop j := by
    have := List.take_append_drop j (L.take k)
    rw [List.take_take, Nat.min_eq_left h] at this
    exact this.symm
  rw [e, nRun_app]
  have := nRun_le ((L.take k).drop j)
  omega
theorem lf_run (L : List UInt8) (k : Nat) (hk : k ≤ L.length) : (nRun (L.take k) = 0 ∧ dnP (ldP L) k = 0) ∨ (dnP (ldP L) k < k ∧ nRun (L.take (dnP (ldP L) k)) + 1 = nRun (L.take k) ∧ nRun (L.take (dnP (ldP L) k + 1)) = nRun (L.take k)) := by
  induction k with
  | zero => exact .inl ⟨by simp [nRun], rfl⟩
  | succ k ih =>
    have hr := run_succ L k (by omega)
    simp only [dnP]
    by_cases hp : ldP L k = true
    · rw [if_pos hp] at hr ⊢
      exact .inr ⟨by omega, by omega, rfl⟩
    · rw [if_neg hp] at hr ⊢
      rcases ih (by omega) with ⟨h1, h2⟩ | ⟨h1, h2, h3⟩
      · exact .inl ⟨by omega, h2⟩
      · exact .inr ⟨by omega, by omega, by omega⟩
/-- Left: by counts. -/
theorem left_zero (L : List UInt8) (k : Nat) (hk : k ≤ L.length) (h : nRun (L.take k) = 0) : dnP (ldP L) k = 0 := by
  rcases lf_run L k hk with ⟨_, h2⟩ | ⟨h1, h2, h3⟩
  · exact h2
  · have := nRun_le (L.take (dnP (ldP L) k)); omega
theorem left_some (L : List UInt8) (k : Nat) (hk : k ≤ L.length) (h : nRun (L.take k) ≠ 0) : upL 1 L (nRun (L.take k) - 1) = dnP (ldP L) k := by
  rcases lf_run L k hk with ⟨h2, _⟩ | ⟨h1, h2, h3⟩
  · exact absurd h2 h
  · have h4 := nRun_le (L.take k)
    have h5 := upL_cnt 1 L (nRun (L.take k) - 1) (by omega)
    have h6 := upL_max 1 L (nRun (L.take k) - 1) (dnP (ldP L) k) (by omega) (by rw [cnt1]; omega)
    rw [cnt1] at h5
    rcases Nat.lt_or_ge (dnP (ldP L) k) (upL 1 L (nRun (L.take k) - 1)) with h7 | h7
    · have := run_mono L (dnP (ldP L) k + 1) _ h7
      omega
    · omega
theorem right_up (L : List UInt8) (k : Nat) (hk : k < L.length) : upL 1 L (nRun (L.take (k + 1))) = min (upW (nlP L) L.length (k + 1)) L.length := by
  have h4 := nRun_le (L.take (k + 1))
  have h5 := upL_cnt 1 L (nRun (L.take (k + 1))) (by omega)
  have h6 := fun j => upL_max 1 L (nRun (L.take (k + 1))) j
  have h7 := upL_le 1 L (nRun (L.take (k + 1)))
  rw [cnt1] at h5
  have h8 := h6 (k + 1) (by omega) (by rw [cnt1]; omega)
  have e : upW (nlP L) L.length (k + 1) = upL 1 L (nRun (L.take (k + 1))) := by
    refine upW_uniq _ _ _ _ h8 (fun j h9 h10 => ?_) (fun h => ?_) h7
    · have h11 := run_succ L j (by omega)
      have h12 := run_mono L (j + 1) _ h10
      have h13 := run_mono L (k + 1) j h9
      rw [nlP_ld L j (by omega)]
      by_cases hp : ldP L j = true
      · rw [if_pos hp] at h11; omega
      · simpa using hp
    · rw [nlP_ld L _ h]
      have h11 := run_succ L _ h
      by_cases hp : ldP L (upL 1 L (nRun (L.take (k + 1)))) = true
      · rw [hp]; rfl
      · rw [if_neg hp] at h11
        have := h6 (upL 1 L (nRun (L.take (k + 1))) + 1) (by omega) (by rw [cnt1]; omega)
        omega
  rw [e]; omega
/-- The words. -/
def wlM (L : List UInt8) (k : Nat) : Nat := dnW (wdP L) (dnW (nwP L) k)
def wrM (L : List UInt8) (k : Nat) : Nat := upW (wdP L) L.length (upW (nwP L) L.length k)
/-- Up and down: the place in a line by a column of runes. -/
def inLn (L : List UInt8) (i : Int) (col : Int) : Nat := lnS L i + upL 1 ((L.take (lnE L i)).drop (lnS L i)) col
def colR (L : List UInt8) (k : Nat) : Int := cnt 1 ((L.take k).drop (lnS L (nBrk (L.take k))))
def stepM (L : List UInt8) (k : Nat) (way : Int) : Nat :=
  if way = 1 then dnP (ldP L) k
  else if way = 2 then min (upW (nlP L) L.length (k + 1)) L.length
  else if way = 3 then lnS L (nBrk (L.take k))
  else if way = 4 then lnE L (nBrk (L.take k))
  else if way = 5 then (if nBrk (L.take k) = 0 then 0 else inLn L (nBrk (L.take k) - 1) (colR L k))
  else if way = 6 then (if nBrk (L.take k) = nBrk L then L.length else inLn L (nBrk (L.take k) + 1) (colR L k))
  else if way = 7 then 0
  else if way = 8 then L.length
  else if way = 9 then wlM L k
  else wrM L k
theorem inLn_le (L : List UInt8) (i col : Int) (h0 : 0 ≤ i) (h1 : i ≤ nBrk L) : lnS L i ≤ inLn L i col ∧ inLn L i col ≤ lnE L i := by
  unfold inLn
  have h2 := upL_le 1 ((L.take (lnE L i)).drop (lnS L i)) col
  have h3 := lnS_le L i h0 h1
  have h4 := lnE_le L i
  rw [List.length_drop, List.length_take] at h2
  omega
theorem stepM_le (L : List UInt8) (k : Nat) (way : Int) (hk : k ≤ L.length) : stepM L k way ≤ L.length := by
  have hb := nBrk_le (L.take k)
  have hbt := nBrk_take L k
  unfold stepM
  split
  · have := dnP_le (ldP L) k; omega
  split
  · omega
  split
  · exact lnS_len L _ (by omega) hbt
  split
  · exact lnE_le L _
  split
  · split
    · omega
    · have := (inLn_le L (nBrk (L.take k) - 1) (colR L k) (by omega) (by omega)).2
      have := lnE_le L (nBrk (L.take k) - 1)
      omega
  split
  · split
    · omega
    · have := (inLn_le L (nBrk (L.take k) + 1) (colR L k) (by omega) (by omega)).2
      have := lnE_le L (nBrk (L.take k) + 1)
      omega
  split
  · omega
  split
  · omega
  split
  · unfold wlM
    have h1 := (dnW_at (nwP L) k).1
    have h2 := (dnW_at (wdP L) (dnW (nwP L) k)).1
    omega
  · unfold wrM
    have h1 := (upW_at (nwP L) L.length k).2.1 hk
    exact (upW_at (wdP L) L.length (upW (nwP L) L.length k)).2.1 h1
end
section
theorem upL_mono (way : Int) (l : List UInt8) (m n : Int) (h0 : 0 ≤ m) (h : m ≤ n) : upL way l m ≤ upL way l n :=
  upL_max way l n _ (upL_le way l m) (Int.le_trans (upL_cnt way l m h0) h)
theorem lnE_mono (L : List UInt8) (i j : Int) (h0 : 0 ≤ i) (h : i ≤ j) : lnE L i ≤ lnE L j := upL_mono 3 L i j h0 h
theorem lnS_mono (L : List UInt8) (i j : Int) (h0 : 0 ≤ i) (h : i ≤ j) : lnS L i ≤ lnS L j := by
  unfold lnS
  by_cases h1 : i = 0
  · rw [if_pos h1]; omega
  · rw [if_neg h1, if_neg (by omega)]
    have := upL_mono 3 L (i - 1) (j - 1) (by omega) (by omega)
    omega
theorem lnE_lt (L : List UInt8) (i j : Int) (h0 : 0 ≤ i) (h : i < j) : lnE L i < lnS L j := by
  have h1 := lnS_next L i h0
  have h2 := lnS_mono L (i + 1) j (by omega) (by omega)
  omega
theorem inLn_mono (L : List UInt8) (i a b : Int) (h0 : 0 ≤ a) (h : a ≤ b) : inLn L i a ≤ inLn L i b := by
  unfold inLn
  have := upL_mono 1 ((L.take (lnE L i)).drop (lnS L i)) a b h0 h
  omega
theorem colR_nn (L : List UInt8) (k : Nat) : 0 ≤ colR L k := (cnt_bd 1 _).1
theorem colR_mono (L : List UInt8) (j k : Nat) (h : j ≤ k) (hb : nBrk (L.take j) = nBrk (L.take k)) : colR L j ≤ colR L k := by
  unfold colR
  rw [hb, cnt1, cnt1]
  have e : L.take j = (L.take k).take j := by rw [List.take_take, Nat.min_eq_left h]
  rw [e, List.drop_take]
  generalize (L.take k).drop (lnS L (nBrk (L.take k))) = l
  have := run_mono l (j - lnS L (nBrk (L.take k))) (max (j - lnS L (nBrk (L.take k))) l.length) (by omega)
  rw [List.take_of_length_le (i := max _ _) (by omega)] at this
  exact this
theorem stepM_mono (L : List UInt8) (j k : Nat) (way : Int) (h : j ≤ k) (hk : k ≤ L.length) : stepM L j way ≤ stepM L k way := by
  have hb := nBrk_mono L j k h
  have hb0 := nBrk_le (L.take j)
  have hbk := nBrk_take L k
  have hle := stepM_le L j way (by omega)
  unfold stepM at hle ⊢
  split
  · exact dnP_mono _ j k h
  split
  · rename_i h1 h2
    rcases Nat.eq_or_lt_of_le hk with h3 | h3
    · rw [upW_end (nlP L) L.length (k + 1) (by omega)]; omega
    · have := upW_mono (nlP L) L.length (j + 1) (k + 1) (by omega) (by omega)
      omega
  split
  · exact lnS_mono L _ _ (by omega) hb
  split
  · exact lnE_mono L _ _ (by omega) hb
  split
  · by_cases h1 : nBrk (L.take j) = 0
    · rw [if_pos h1]; omega
    · rw [if_neg h1, if_neg (by omega)]
      rcases Int.lt_or_eq_of_le hb with h2 | h2
      · have h3 := (inLn_le L (nBrk (L.take j) - 1) (colR L j) (by omega) (by omega)).2
        have h4 := lnE_lt L (nBrk (L.take j) - 1) (nBrk (L.take k) - 1) (by omega) (by omega)
        have h5 := (inLn_le L (nBrk (L.take k) - 1) (colR L k) (by omega) (by omega)).1
        omega
      · rw [← h2]; exact inLn_mono L _ _ _ (colR_nn L j) (colR_mono L j k h h2)
  split
  · rename_i h0 h1 h2 h3 h4 h5
    by_cases h6 : nBrk (L.take k) = nBrk L
    · rw [if_neg h0, if_neg h1, if_neg h2, if_neg h3, if_neg h4, if_pos h5] at hle
      rw [if_pos h6]; exact hle
    · rw [if_neg h6, if_neg (by omega)]
      rcases Int.lt_or_eq_of_le hb with h7 | h7
      · have h8 := (inLn_le L (nBrk (L.take j) + 1) (colR L j) (by omega) (by omega)).2
        have h9 := lnE_lt L (nBrk (L.take j) + 1) (nBrk (L.take k) + 1) (by omega) (by omega)
        have h10 := (inLn_le L (nBrk (L.take k) + 1) (colR L k) (by omega) (by omega)).1
        omega
      · rw [← h7]; exact inLn_mono L _ _ _ (colR_nn L j) (colR_mono L j k h h7)
  split
  · omega
  split
  · omega
  split
  · exact dnW_mono _ _ _ (dnW_mono _ _ _ h)
  · exact upW_mono _ _ _ _ (upW_mono _ _ _ _ h hk) ((upW_at (nwP L) L.length k).2.1 hk)
/-- Right and left again. -/
theorem dnP_uniq (p : Nat → Bool) (a k : Nat) (h : k < a) (hp : p k = true ∨ k = 0) (hn : ∀ j, k < j → j < a → p j = false) : dnP p a = k := by
  rcases dnP_at p a with ⟨h1, h2⟩ | ⟨h1, h2, h3⟩
  · rcases hp with hp | hp
    · rcases Nat.eq_zero_or_pos k with h4 | h4
      · omega
      · rw [h2 k h4 h] at hp; cases hp
    · omega
  · rcases Nat.lt_trichotomy (dnP p a) k with h4 | h4 | h4
    · rcases hp with hp | hp
      · rw [h3 k h4 h] at hp; cases hp
      · omega
    · exact h4
    · rw [hn _ h4 h1] at h2; cases h2
def rtM (L : List UInt8) (k : Nat) : Nat := min (upW (nlP L) L.length (k + 1)) L.length
theorem rt_at (L : List UInt8) (k : Nat) (hk : k < L.length) : k < rtM L k ∧ rtM L k ≤ L.length ∧ (∀ j, k < j → j < rtM L k → ldP L j = false) ∧ (rtM L k < L.length → ldP L (rtM L k) = true) := by
  obtain ⟨h1, h2, h3, h4⟩ := upW_at (nlP L) L.length (k + 1)
  have h5 := h2 (by omega)
  have e : rtM L k = upW (nlP L) L.length (k + 1) := by unfold rtM; omega
  rw [e]
  refine ⟨by omega, h5, fun j h6 h7 => ?_, fun h => ?_⟩
  · have := h3 j (by omega) h7
    rw [nlP_ld L j (by omega)] at this
    simpa using this
  · have := h4 h
    rw [nlP_ld L _ h] at this
    simpa using this
theorem rt_end (L : List UInt8) : rtM L L.length = L.length := by
  unfold rtM; rw [upW_end _ _ _ (by omega)]; omega
theorem back_rt (L : List UInt8) (k : Nat) (hk : k < L.length) (hc : ldP L k = true ∨ k = 0) : dnP (ldP L) (rtM L k) = k := by
  obtain ⟨h1, h2, h3, h4⟩ := rt_at L k hk
  exact dnP_uniq _ _ _ h1 hc h3
theorem lf_at (L : List UInt8) (k : Nat) (h0 : 0 < k) : dnP (ldP L) k < k ∧ ∀ j, dnP (ldP L) k < j → j < k → ldP L j = false := by
  rcases dnP_at (ldP L) k with ⟨h1, h2⟩ | ⟨h1, h2, h3⟩
  · exact ⟨by omega, fun j h3 h4 => h2 j (by omega) h4⟩
  · exact ⟨h1, h3⟩
theorem rt_lf (L : List UInt8) (k : Nat) (h0 : 0 < k) (hk : k ≤ L.length) (hc : k < L.length → ldP L k = true) : rtM L (dnP (ldP L) k) = k := by
  obtain ⟨h1, h2⟩ := lf_at L k h0
  have e : upW (nlP L) L.length (dnP (ldP L) k + 1) = k := by
    refine upW_uniq _ _ _ _ (by omega) (fun j h3 h4 => ?_) (fun h => ?_) hk
    · rw [nlP_ld L j (by omega), h2 j (by omega) h4]; rfl
    · rw [nlP_ld L k h, hc h]; rfl
  unfold rtM
  rw [e]; omega
/-- The words. -/
theorem wr_at (L : List UInt8) (k : Nat) (hk : k ≤ L.length) : k ≤ wrM L k ∧ wrM L k ≤ L.length ∧ (wrM L k < L.length → wdP L (wrM L k) = false ∧ k < wrM L k ∧ wdP L (wrM L k - 1) = true) ∧ (∀ i, k ≤ i → i + 1 < wrM L k → wdP L i = true → wdP L (i + 1) = true) ∧ (k < L.length → k < wrM L k) := by
  unfold wrM
  obtain ⟨a1, a2, a3, a4⟩ := upW_at (nwP L) L.length k
  have a5 := a2 hk
  obtain ⟨b1, b2, b3, b4⟩ := upW_at (wdP L) L.length (upW (nwP L) L.length k)
  have b5 := b2 a5
  have hm : upW (nwP L) L.length k < L.length → wdP L (upW (nwP L) L.length k) = true := fun h => by
    have := a4 h
    rw [nwP_wd L _ h] at this
    simpa using this
  have hlt : upW (nwP L) L.length k < L.length → upW (nwP L) L.length k < upW (wdP L) L.length (upW (nwP L) L.length k) := fun h => by
    rw [upW_go _ _ _ h (hm h)]
    exact (upW_at (wdP L) L.length (upW (nwP L) L.length k + 1)).1
  refine ⟨by omega, b5, fun h => ?_, fun i h1 h2 h3 => ?_, fun h => ?_⟩
  · have h6 : upW (nwP L) L.length k < L.length := by omega
    have h7 := hlt h6
    exact ⟨b4 h, by omega, b3 _ (by omega) (by omega)⟩
  · rcases Nat.lt_or_ge i (upW (nwP L) L.length k) with h4 | h4
    · have := a3 i h1 h4
      rw [nwP_wd L i (by omega), h3] at this
      cases this
    · exact b3 (i + 1) (by omega) h2
  · rcases Nat.lt_or_ge (upW (nwP L) L.length k) L.length with h6 | h6
    · have := hlt h6; omega
    · omega
theorem wl_at (L : List UInt8) (k : Nat) (hk : k ≤ L.length) : wlM L k ≤ k ∧ (0 < wlM L k → wdP L (wlM L k - 1) = false ∧ wlM L k < k ∧ wdP L (wlM L k) = true) ∧ (∀ i, wlM L k ≤ i → i + 1 < k → wdP L i = false → wdP L (i + 1) = false) := by
  unfold wlM
  obtain ⟨a1, a2, a3⟩ := dnW_at (nwP L) k
  obtain ⟨b1, b2, b3⟩ := dnW_at (wdP L) (dnW (nwP L) k)
  refine ⟨by omega, fun h => ?_, fun i h1 h2 h3 => ?_⟩
  · have hd : 0 < dnW (nwP L) k := by omega
    have h4 := a3 (dnW (nwP L) k - 1) (by omega)
    rw [nwP_wd L _ (by omega)] at h4
    have h5 : wdP L (dnW (nwP L) k - 1) = true := by simpa using h4
    have h6 : dnW (wdP L) (dnW (nwP L) k) < dnW (nwP L) k := by
      rcases Nat.lt_or_ge (dnW (wdP L) (dnW (nwP L) k)) (dnW (nwP L) k) with h7 | h7
      · exact h7
      · have := b3 (dnW (nwP L) k - 1) (by omega)
        rw [h5] at this; cases this
    exact ⟨b3 _ (by omega), by omega, b2 _ (by omega) h6⟩
  · rcases Nat.lt_or_ge (i + 1) (dnW (nwP L) k) with h4 | h4
    · have := b2 i h1 (by omega)
      rw [h3] at this; cases this
    · have := a2 (i + 1) h4 h2
      rw [nwP_wd L _ (by omega)] at this
      simpa using this
theorem ld_or_wd (L : List UInt8) (k : Nat) (h : k < L.length) (hl : ldP L k = false) : wdP L k = true := by
  rw [ldP_in L k h] at hl
  rw [wdP_in L k h]
  simp at hl
  unfold wordC
  simp
  omega
theorem wr_rt (L : List UInt8) (k : Nat) (hk : k < L.length) : rtM L k ≤ wrM L k := by
  obtain ⟨h1, h2, h3, h4⟩ := rt_at L k hk
  obtain ⟨a1, a2, a3, a4, a5⟩ := wr_at L k (by omega)
  rcases Nat.lt_or_ge (wrM L k) (rtM L k) with h5 | h5
  · have h6 := h3 _ (a5 hk) h5
    have h7 := ld_or_wd L _ (by omega) h6
    rw [(a3 (by omega)).1] at h7
    cases h7
  · exact h5
theorem wr_mono (L : List UInt8) (j k : Nat) (h : j ≤ k) (hk : k ≤ L.length) : wrM L j ≤ wrM L k := upW_mono _ _ _ _ (upW_mono _ _ _ _ h hk) ((upW_at (nwP L) L.length k).2.1 hk)
/-- From the top by characters. -/
def chN (L : List UInt8) (k : Nat) : Int := nRun (L.take k) + if 0 < k ∧ ldP L 0 = false then 1 else 0
def ChAt (L : List UInt8) (i : Nat) (a : Nat) : Prop := a ≤ L.length ∧ chN L a = i ∧ (a < L.length → 0 < a → ldP L a = true)
theorem chN_zero (L : List UInt8) : chN L 0 = 0 := by unfold chN; simp [nRun]
theorem chN_succ (L : List UInt8) (k : Nat) (h : k < L.length) : chN L (k + 1) = chN L k + if k = 0 ∨ ldP L k = true then 1 else 0 := by
  unfold chN
  rw [run_succ L k h]
  rcases Nat.eq_zero_or_pos k with h0 | h0
  · subst h0
    rcases hb : ldP L 0 with _ | _ <;> simp
  · have e1 : (0 < k + 1 ∧ ldP L 0 = false) = (0 < k ∧ ldP L 0 = false) := by simp [h0]
    have e2 : (k = 0 ∨ ldP L k = true) = (ldP L k = true) := by simp; omega
    simp only [e1, e2]
    omega
theorem chN_le (L : List UInt8) (j k : Nat) (h : j ≤ k) (hk : k ≤ L.length) : chN L j ≤ chN L k := by
  induction k with
  | zero => rw [show j = 0 by omega]; exact Int.le_refl _
  | succ k ih =>
    rcases Nat.eq_or_lt_of_le h with h1 | h1
    · rw [h1]; exact Int.le_refl _
    · have := ih (by omega) (by omega)
      rw [chN_succ L k (by omega)]
      split <;> omega
theorem chN_bd (L : List UInt8) (k : Nat) (hk : k ≤ L.length) : 0 ≤ chN L k ∧ chN L k ≤ k := by
  induction k with
  | zero => rw [chN_zero]; exact ⟨Int.le_refl _, by omega⟩
  | succ k ih =>
    have := ih (by omega)
    rw [chN_succ L k (by omega)]
    split <;> omega
theorem chN_flat (L : List UInt8) (j k : Nat) (h : j ≤ k) (hk : k ≤ L.length) (h0 : 0 < j) (hl : ∀ i, j ≤ i → i < k → ldP L i = false) : chN L k = chN L j := by
  induction k with
  | zero => omega
  | succ k ih =>
    rcases Nat.eq_or_lt_of_le h with h1 | h1
    · rw [h1]
    · rw [chN_succ L k (by omega), hl k (by omega) (by omega), ih (by omega) (by omega) (fun i h2 h3 => hl i h2 (by omega)), if_neg (by simp; omega)]
      omega
theorem ch_top (L : List UInt8) : ChAt L 0 0 := ⟨Nat.zero_le _, chN_zero L, fun _ h => by omega⟩
theorem ch_lt (L : List UInt8) (i a : Nat) (h : ChAt L i a) (hi : (i : Int) < chN L L.length) : a < L.length := by
  obtain ⟨h1, h2, _⟩ := h
  rcases Nat.eq_or_lt_of_le h1 with h3 | h3
  · rw [h3] at h2; omega
  · exact h3
theorem ch_next (L : List UInt8) (i a : Nat) (h : ChAt L i a) (hl : a < L.length) : ChAt L (i + 1) (rtM L a) := by
  obtain ⟨h1, h2, h3⟩ := h
  obtain ⟨r1, r2, r3, r4⟩ := rt_at L a hl
  refine ⟨r2, ?_, fun h _ => r4 h⟩
  rw [chN_flat L (a + 1) (rtM L a) r1 r2 (by omega) (fun i h4 h5 => r3 i h4 h5), chN_succ L a hl, h2, if_pos]
  · omega
  · rcases Nat.eq_zero_or_pos a with h4 | h4
    · exact .inl h4
    · exact .inr (h3 hl h4)
theorem ch_end (L : List UInt8) (i a : Nat) (h : ChAt L i a) (hi : (i : Int) = chN L L.length) : a = L.length := by
  obtain ⟨h1, h2, h3⟩ := h
  rcases Nat.eq_or_lt_of_le h1 with h4 | h4
  · exact h4
  · have h5 := chN_succ L a h4
    have h6 := chN_le L (a + 1) L.length (by omega) (Nat.le_refl _)
    rw [if_pos] at h5
    · omega
    · rcases Nat.eq_zero_or_pos a with h7 | h7
      · exact .inl h7
      · exact .inr (h3 h4 h7)
/-- A place in a line. -/
theorem brk_in (L : List UInt8) (i : Int) (k : Nat) (h0 : 0 ≤ i) (h1 : i ≤ nBrk L) (hs : lnS L i ≤ k) (he : k ≤ lnE L i) : nBrk (L.take k) = i := by
  have h2 := nBrk_mono L _ _ hs
  rw [lnS_brk L i h0 h1] at h2
  have h3 := nBrk_mono L _ _ he
  have h4 := upL_cnt 3 L i h0
  rw [cnt3] at h4
  have h5 : nBrk (L.take (lnE L i)) ≤ i := h4
  omega
theorem inLn_col (L : List UInt8) (i col : Int) (h0 : 0 ≤ i) (h1 : i ≤ nBrk L) (hc : 0 ≤ col) : nBrk (L.take (inLn L i col)) = i ∧ cnt 1 ((L.take (inLn L i col)).drop (lnS L i)) ≤ col := by
  obtain ⟨h2, h3⟩ := inLn_le L i col h0 h1
  refine ⟨brk_in L i _ h0 h1 h2 h3, ?_⟩
  have h4 := upL_cnt 1 ((L.take (lnE L i)).drop (lnS L i)) col hc
  have h5 := lnE_le L i
  have e : (L.take (inLn L i col)).drop (lnS L i) = ((L.take (lnE L i)).drop (lnS L i)).take (upL 1 ((L.take (lnE L i)).drop (lnS L i)) col) := by
    have e1 : L.take (inLn L i col) = (L.take (lnE L i)).take (inLn L i col) := by rw [List.take_take, Nat.min_eq_left h3]
    rw [e1, List.drop_take]
    congr 1
    unfold inLn
    omega
  rw [e]; exact h4
theorem home_brk (L : List UInt8) (i : Int) (h0 : 0 ≤ i) (h1 : i ≤ nBrk L) (h : 0 < lnS L i) (hl : lnS L i - 1 < L.length) : L[lnS L i - 1].toNat = 10 := by
  have hi : i ≠ 0 := fun h2 => by rw [h2] at h; simp [lnS] at h
  obtain ⟨a, b, c⟩ := lnS_pos L i (by omega) h1
  have e : lnS L i - 1 = upL 3 L (i - 1) := by unfold lnS; rw [if_neg hi]; omega
  rw [List.take_succ_eq_append_getElem a, nBrk_snoc] at c
  simp only [e]
  by_cases h2 : L[upL 3 L (i - 1)].toNat = 10
  · exact h2
  · rw [if_neg h2] at c; omega
theorem end_brk (L : List UInt8) (i : Int) (h0 : 0 ≤ i) (h : lnE L i < L.length) : L[lnE L i].toNat = 10 := by
  rcases lnE_next L i h0 with h1 | ⟨c, r, h1, h2⟩
  · omega
  · have := List.drop_eq_getElem_cons h
    rw [h1] at this
    injection this with h3 h4
    rw [← h3]; exact h2
end
section
open Go.ChangeShapes Go.WideShapes Go.ChangeAt Go.RowKit
set_option maxRecDepth 100000
set_option linter.unusedVariables false
def uppZ (n : Int) : Bool := decide (65 ≤ n) && decide (n ≤ 90)
theorem upp_m (n : Int) (h0 : 0 ≤ n) (h1 : n < 256) (w : World) : Calls Tryz.prog 102 #[.int .u8 n] w fun e w' => e = .returned (.bool (uppZ n)) ∧ w = w' := by
  unfold uppZ
  rcases hb1 : decide (65 ≤ n) with _ | _ <;> rcases hb2 : decide (n ≤ 90) with _ | _
  all_goals
    go_enter Tryz.func102, Tryz.ntmps102
    go_wp2
    go_ret
    exact ⟨rfl, rfl⟩
def lowZ (n : Int) : Bool := decide (97 ≤ n) && decide (n ≤ 122)
theorem low_m (n : Int) (h0 : 0 ≤ n) (h1 : n < 256) (w : World) : Calls Tryz.prog 103 #[.int .u8 n] w fun e w' => e = .returned (.bool (lowZ n)) ∧ w = w' := by
  unfold lowZ
  rcases hb1 : decide (97 ≤ n) with _ | _ <;> rcases hb2 : decide (n ≤ 122) with _ | _
  all_goals
    go_enter Tryz.func103, Tryz.ntmps103
    go_wp2
    go_ret
    exact ⟨rfl, rfl⟩
def digZ (n : Int) : Bool := decide (48 ≤ n) && decide (n ≤ 57)
theorem dig_m (n : Int) (h0 : 0 ≤ n) (h1 : n < 256) (w : World) : Calls Tryz.prog 100 #[.int .u8 n] w fun e w' => e = .returned (.bool (digZ n)) ∧ w = w' := by
  unfold digZ
  rcases hb1 : decide (48 ≤ n) with _ | _ <;> rcases hb2 : decide (n ≤ 57) with _ | _
  all_goals
    go_enter Tryz.func100, Tryz.ntmps100
    go_wp2
    go_ret
    exact ⟨rfl, rfl⟩
def letZ (n : Int) : Bool := uppZ n || lowZ n
theorem let_m (n : Int) (h0 : 0 ≤ n) (h1 : n < 256) (w : World) : Calls Tryz.prog 99 #[.int .u8 n] w fun e w' => e = .returned (.bool (letZ n)) ∧ w = w' := by
  have HU := hide (fun W => upp_m n h0 h1 W)
  have HL := hide (fun W => low_m n h0 h1 W)
  unfold letZ
  generalize uppZ n = u at *
  generalize lowZ n = l at *
  cases u
  all_goals
    go_enter Tryz.func99, Tryz.ntmps99
    go_wp2_with (first | (go_at_call 102; refine (HU.out _).mono ?_; rintro e w1 ⟨rfl, rfl⟩) | (go_at_call 103; refine (HL.out _).mono ?_; rintro e w1 ⟨rfl, rfl⟩))
    go_ret
    exact ⟨rfl, rfl⟩
def namZ (n : Int) : Bool := letZ n || (digZ n || n == 95)
theorem nam_m (n : Int) (h0 : 0 ≤ n) (h1 : n < 256) (w : World) : Calls Tryz.prog 91 #[.int .u8 n] w fun e w' => e = .returned (.bool (namZ n)) ∧ w = w' := by
  have HU := hide (fun W => let_m n h0 h1 W)
  have HL := hide (fun W => dig_m n h0 h1 W)
  unfold namZ
  generalize letZ n = u at *
  generalize digZ n = l at *
  rcases hb : (n == 95) with _ | _
  all_goals
    cases u <;> cases l
  all_goals
    go_enter Tryz.func91, Tryz.ntmps91
    go_wp2_with (first | (go_at_call 99; refine (HU.out _).mono ?_; rintro e w1 ⟨rfl, rfl⟩) | (go_at_call 100; refine (HL.out _).mono ?_; rintro e w1 ⟨rfl, rfl⟩))
    go_ret
    exact ⟨rfl, rfl⟩
def worZ (n : Int) : Bool := namZ n || decide (128 ≤ n)
theorem wor_m (n : Int) (h0 : 0 ≤ n) (h1 : n < 256) (w : World) : Calls Tryz.prog 66 #[.int .u8 n] w fun e w' => e = .returned (.bool (worZ n)) ∧ w = w' := by
  have HU := hide (fun W => nam_m n h0 h1 W)
  unfold worZ
  generalize namZ n = u at *
  rcases hb : decide (128 ≤ n) with _ | _
  all_goals
    cases u
  all_goals
    go_enter Tryz.func66, Tryz.ntmps66
    go_wp2_with (first | (go_at_call 91; refine (HU.out _).mono ?_; rintro e w1 ⟨rfl, rfl⟩))
    go_ret
    exact ⟨rfl, rfl⟩
theorem worZ_c (c : UInt8) : worZ (c.toNat : Int) = wordC c := by
  unfold worZ namZ letZ uppZ lowZ digZ wordC
  rw [Bool.eq_iff_iff]
  simp
  omega
theorem word_m (c : UInt8) (b : Bool) (hb : wordC c = b) (w : World) : Calls Tryz.prog 66 #[.int .u8 (c.toNat : Int)] w fun e w' => e = .returned (.bool b) ∧ w = w' := by
  have := wor_m (c.toNat : Int) (by omega) (by have := c.toNat_lt; omega) w
  rw [worZ_c, hb] at this
  exact this
theorem rword_z (n : Int) (h0 : 0 ≤ n) (h1 : n < 256) (w : World) : Calls Tryz.prog 47 #[.int .u8 n] w fun e w' => e = .returned (.bool (worZ n)) ∧ w = w' := by
  have hz : worZ n = decide ((48 ≤ n ∧ n ≤ 57) ∨ (65 ≤ n ∧ n ≤ 90) ∨ (97 ≤ n ∧ n ≤ 122) ∨ n = 95 ∨ 128 ≤ n) := by
    unfold worZ namZ letZ uppZ lowZ digZ
    rw [Bool.eq_iff_iff]
    simp
    omega
  rw [hz]
  clear hz
  have hr : (0 ≤ n ∧ n ≤ 47) ∨ (48 ≤ n ∧ n ≤ 57) ∨ (58 ≤ n ∧ n ≤ 64) ∨ (65 ≤ n ∧ n ≤ 90) ∨ (91 ≤ n ∧ n ≤ 94) ∨ (95 ≤ n ∧ n ≤ 95) ∨ (96 ≤ n ∧ n ≤ 96) ∨ (97 ≤ n ∧ n ≤ 122) ∨ (123 ≤ n ∧ n ≤ 127) ∨ (128 ≤ n ∧ n ≤ 255) := by omega
  rcases hr with ⟨ha, hb⟩ | ⟨ha, hb⟩ | ⟨ha, hb⟩ | ⟨ha, hb⟩ | ⟨ha, hb⟩ | ⟨ha, hb⟩ | ⟨ha, hb⟩ | ⟨ha, hb⟩ | ⟨ha, hb⟩ | ⟨ha, hb⟩
  · rw [decide_eq_false (by omega)]
    have e95 : (n == 95) = false := by simp; omega
    have l48 : decide (48 ≤ n) = false := decide_eq_false (by omega)
    have l65 : decide (65 ≤ n) = false := decide_eq_false (by omega)
    have l97 : decide (97 ≤ n) = false := decide_eq_false (by omega)
    have l128 : decide (128 ≤ n) = false := decide_eq_false (by omega)
    have u57 : decide (n ≤ 57) = true := decide_eq_true (by omega)
    have u90 : decide (n ≤ 90) = true := decide_eq_true (by omega)
    have u122 : decide (n ≤ 122) = true := decide_eq_true (by omega)
    clear ha hb
    go_enter Tryz.func47, Tryz.ntmps47
    go_wp2
    go_ret
    exact ⟨rfl, rfl⟩
  · rw [decide_eq_true (by omega)]
    have e95 : (n == 95) = false := by simp; omega
    have l48 : decide (48 ≤ n) = true := decide_eq_true (by omega)
    have l65 : decide (65 ≤ n) = false := decide_eq_false (by omega)
    have l97 : decide (97 ≤ n) = false := decide_eq_false (by omega)
    have l128 : decide (128 ≤ n) = false := decide_eq_false (by omega)
    have u57 : decide (n ≤ 57) = true := decide_eq_true (by omega)
    have u90 : decide (n ≤ 90) = true := decide_eq_true (by omega)
    have u122 : decide (n ≤ 122) = true := decide_eq_true (by omega)
    clear ha hb
    go_enter Tryz.func47, Tryz.ntmps47
    go_wp2
    go_ret
    exact ⟨rfl, rfl⟩
  · rw [decide_eq_false (by omega)]
    have e95 : (n == 95) = false := by simp; omega
    have l48 : decide (48 ≤ n) = true := decide_eq_true (by omega)
    have l65 : decide (65 ≤ n) = false := decide_eq_false (by omega)
    have l97 : decide (97 ≤ n) = false := decide_eq_false (by omega)
    have l128 : decide (128 ≤ n) = false := decide_eq_false (by omega)
    have u57 : decide (n ≤ 57) = false := decide_eq_false (by omega)
    have u90 : decide (n ≤ 90) = true := decide_eq_true (by omega)
    have u122 : decide (n ≤ 122) = true := decide_eq_true (by omega)
    clear ha hb
    go_enter Tryz.func47, Tryz.ntmps47
    go_wp2
    go_ret
    exact ⟨rfl, rfl⟩
  · rw [decide_eq_true (by omega)]
    have e95 : (n == 95) = false := by simp; omega
    have l48 : decide (48 ≤ n) = true := decide_eq_true (by omega)
    have l65 : decide (65 ≤ n) = true := decide_eq_true (by omega)
    have l97 : decide (97 ≤ n) = false := decide_eq_false (by omega)
    have l128 : decide (128 ≤ n) = false := decide_eq_false (by omega)
    have u57 : decide (n ≤ 57) = false := decide_eq_false (by omega)
    have u90 : decide (n ≤ 90) = true := decide_eq_true (by omega)
    have u122 : decide (n ≤ 122) = true := decide_eq_true (by omega)
    clear ha hb
    go_enter Tryz.func47, Tryz.ntmps47
    go_wp2
    go_ret
    exact ⟨rfl, rfl⟩
  · rw [decide_eq_false (by omega)]
    have e95 : (n == 95) = false := by simp; omega
    have l48 : decide (48 ≤ n) = true := decide_eq_true (by omega)
    have l65 : decide (65 ≤ n) = true := decide_eq_true (by omega)
    have l97 : decide (97 ≤ n) = false := decide_eq_false (by omega)
    have l128 : decide (128 ≤ n) = false := decide_eq_false (by omega)
    have u57 : decide (n ≤ 57) = false := decide_eq_false (by omega)
    have u90 : decide (n ≤ 90) = false := decide_eq_false (by omega)
    have u122 : decide (n ≤ 122) = true := decide_eq_true (by omega)
    clear ha hb
    go_enter Tryz.func47, Tryz.ntmps47
    go_wp2
    go_ret
    exact ⟨rfl, rfl⟩
  · rw [decide_eq_true (by omega)]
    have e95 : (n == 95) = true := by simp; omega
    have l48 : decide (48 ≤ n) = true := decide_eq_true (by omega)
    have l65 : decide (65 ≤ n) = true := decide_eq_true (by omega)
    have l97 : decide (97 ≤ n) = false := decide_eq_false (by omega)
    have l128 : decide (128 ≤ n) = false := decide_eq_false (by omega)
    have u57 : decide (n ≤ 57) = false := decide_eq_false (by omega)
    have u90 : decide (n ≤ 90) = false := decide_eq_false (by omega)
    have u122 : decide (n ≤ 122) = true := decide_eq_true (by omega)
    clear ha hb
    go_enter Tryz.func47, Tryz.ntmps47
    go_wp2
    go_ret
    exact ⟨rfl, rfl⟩
  · rw [decide_eq_false (by omega)]
    have e95 : (n == 95) = false := by simp; omega
    have l48 : decide (48 ≤ n) = true := decide_eq_true (by omega)
    have l65 : decide (65 ≤ n) = true := decide_eq_true (by omega)
    have l97 : decide (97 ≤ n) = false := decide_eq_false (by omega)
    have l128 : decide (128 ≤ n) = false := decide_eq_false (by omega)
    have u57 : decide (n ≤ 57) = false := decide_eq_false (by omega)
    have u90 : decide (n ≤ 90) = false := decide_eq_false (by omega)
    have u122 : decide (n ≤ 122) = true := decide_eq_true (by omega)
    clear ha hb
    go_enter Tryz.func47, Tryz.ntmps47
    go_wp2
    go_ret
    exact ⟨rfl, rfl⟩
  · rw [decide_eq_true (by omega)]
    have e95 : (n == 95) = false := by simp; omega
    have l48 : decide (48 ≤ n) = true := decide_eq_true (by omega)
    have l65 : decide (65 ≤ n) = true := decide_eq_true (by omega)
    have l97 : decide (97 ≤ n) = true := decide_eq_true (by omega)
    have l128 : decide (128 ≤ n) = false := decide_eq_false (by omega)
    have u57 : decide (n ≤ 57) = false := decide_eq_false (by omega)
    have u90 : decide (n ≤ 90) = false := decide_eq_false (by omega)
    have u122 : decide (n ≤ 122) = true := decide_eq_true (by omega)
    clear ha hb
    go_enter Tryz.func47, Tryz.ntmps47
    go_wp2
    go_ret
    exact ⟨rfl, rfl⟩
  · rw [decide_eq_false (by omega)]
    have e95 : (n == 95) = false := by simp; omega
    have l48 : decide (48 ≤ n) = true := decide_eq_true (by omega)
    have l65 : decide (65 ≤ n) = true := decide_eq_true (by omega)
    have l97 : decide (97 ≤ n) = true := decide_eq_true (by omega)
    have l128 : decide (128 ≤ n) = false := decide_eq_false (by omega)
    have u57 : decide (n ≤ 57) = false := decide_eq_false (by omega)
    have u90 : decide (n ≤ 90) = false := decide_eq_false (by omega)
    have u122 : decide (n ≤ 122) = false := decide_eq_false (by omega)
    clear ha hb
    go_enter Tryz.func47, Tryz.ntmps47
    go_wp2
    go_ret
    exact ⟨rfl, rfl⟩
  · rw [decide_eq_true (by omega)]
    have e95 : (n == 95) = false := by simp; omega
    have l48 : decide (48 ≤ n) = true := decide_eq_true (by omega)
    have l65 : decide (65 ≤ n) = true := decide_eq_true (by omega)
    have l97 : decide (97 ≤ n) = true := decide_eq_true (by omega)
    have l128 : decide (128 ≤ n) = true := decide_eq_true (by omega)
    have u57 : decide (n ≤ 57) = false := decide_eq_false (by omega)
    have u90 : decide (n ≤ 90) = false := decide_eq_false (by omega)
    have u122 : decide (n ≤ 122) = false := decide_eq_false (by omega)
    clear ha hb
    go_enter Tryz.func47, Tryz.ntmps47
    go_wp2
    go_ret
    exact ⟨rfl, rfl⟩
theorem rword_m (c : UInt8) (b : Bool) (hb : wordC c = b) (w : World) : Calls Tryz.prog 47 #[.int .u8 (c.toNat : Int)] w fun e w' => e = .returned (.bool b) ∧ w = w' := by
  have := rword_z (c.toNat : Int) (by omega) (by have := c.toNat_lt; omega) w
  rw [worZ_c, hb] at this
  exact this
end
section
open Go.ChangeShapes Go.WideShapes Go.ChangeAt Go.RowKit
attribute [local go_sem ↓] Go.wp_at_zero Go.wp_at_succ
attribute [local go_sem] later_cell later_frozen
set_option maxRecDepth 100000
set_option linter.unusedVariables false
set_option maxHeartbeats 4000000 in
theorem left_m {w : World} {r : Nat} {x : ByteArray} (h : LnAt w r x) (hs : x.size ≤ 100000) (k : Nat) (hk : k ≤ x.size) :
    Calls Tryz.prog 30 #[.agg #[.pointer (some ⟨r, 0, none⟩)], .int .i64 k] w fun e w' => e = .returned (.int .i64 (dnP (ldP x.data.toList) k : Nat)) ∧ Below w.heap.size w w' := by
  have c0 := ln_c0 w r
  have hb0 := ln_b0 w r
  have hkl : k ≤ x.data.toList.length := hk
  have HC := hide (fun W (hb : Below w.heap.size w W) => ln_cnt (h.bl hb) hs k hk _ rfl)
  have hn := nRun_le (x.data.toList.take k)
  have hll : (x.data.toList.take k).length = k := by rw [List.length_take]; omega
  by_cases h0 : nRun (x.data.toList.take k) = 0
  · rw [left_zero _ k hkl h0]
    have g0 : (nRun (x.data.toList.take k) == 0) = true := by simp [h0]
    clear h0 hll hn
    generalize x.data.toList.take k = l1 at *
    clear hkl h
    go_enter Tryz.func30, Tryz.ntmps30
    go_wp2_with fail
    refine (HC.out _ hb0).mono ?_
    rintro e w1 ⟨rfl, hb1⟩
    have hb1' := bl_alloc hb1 (talO l1)
    obtain ⟨t0, t1, t2, t3⟩ := tal_box (heap_alloc_new w1 (talO l1))
    have hb2 := bl_trans hb0 hb1'
    unfold talO at t0 t1 t2 t3 hb2
    clear hb1'
    go_wp2
    go_ret
    exact ⟨rfl, hb2⟩
  · have hu := left_some _ k hkl h0
    have HU := hide (fun W (hb : Below w.heap.size w W) => ln_upto (h.bl hb) hs 1 (nRun (x.data.toList.take k) - 1) (by omega) (by omega) (by omega))
    rw [hu] at HU
    have g0 : (nRun (x.data.toList.take k) == 0) = false := by simp [h0]
    have hw : IntKind.i64.wrap (nRun (x.data.toList.take k) - 1) = nRun (x.data.toList.take k) - 1 := IntWalk.i64_in _ (by omega)
    clear hu h0
    have hn2 := hn.2
    rw [hll] at hn2
    clear hll hn
    generalize dnP (ldP x.data.toList) k = u at *
    generalize x.data.toList.take k = l1 at *
    clear hkl h
    go_enter Tryz.func30, Tryz.ntmps30
    go_wp2_with fail
    refine (HC.out _ hb0).mono ?_
    rintro e w1 ⟨rfl, hb1⟩
    have hb1' := bl_alloc hb1 (talO l1)
    obtain ⟨t0, t1, t2, t3⟩ := tal_box (heap_alloc_new w1 (talO l1))
    have hb2 := bl_trans hb0 hb1'
    have c1 := cell_later (bl_trans hb1 (bl_alloc (bl_refl w1) (talO l1))) c0
    have hn9 := World.block_lt_of_cell? _ _ c1
    have hn8 := (Array.getElem?_eq_some_iff.1 (heap_alloc_new w1 (talO l1))).1
    unfold talO at t0 t1 t2 t3 hb2 c1 hn9 hn8
    clear hb1' c0
    go_wp2_with fail
    refine (HU.out _ hb2).mono ?_
    rintro e w9 ⟨rfl, hb9⟩
    have hb3 := bl_trans hb2 hb9
    go_wp2
    go_ret
    exact ⟨rfl, hb3⟩
set_option maxHeartbeats 4000000 in
theorem right_m {w : World} {r : Nat} {x : ByteArray} (h : LnAt w r x) (hs : x.size ≤ 100000) (k : Nat) (hk : k ≤ x.size) :
    Calls Tryz.prog 31 #[.agg #[.pointer (some ⟨r, 0, none⟩)], .int .i64 k] w fun e w' => e = .returned (.int .i64 (rtM x.data.toList k : Nat)) ∧ Below w.heap.size w w' := by
  have c0 := ln_c0 w r
  have hb0 := ln_b0 w r
  have HL := hide (fun W (hb : Below w.heap.size w W) => ln_len (h.bl hb))
  rcases Nat.eq_or_lt_of_le hk with h1 | h1
  · have e : rtM x.data.toList k = x.size := by subst h1; exact rt_end x.data.toList
    rw [e]
    subst h1
    have g0 : ((x.size : Int) == (x.size : Int)) = true := by simp
    clear e h
    go_enter Tryz.func31, Tryz.ntmps31
    go_wp2_with fail
    refine (HL.out _ hb0).mono ?_
    rintro e w1 ⟨rfl, hw1⟩
    subst hw1
    go_wp2
    go_ret
    exact ⟨rfl, hb0⟩
  · have g0 : ((k : Int) == (x.size : Int)) = false := by simp; omega
    have HC := hide (fun W (hb : Below w.heap.size w W) => ln_cnt (h.bl hb) hs (k + 1) h1 _ rfl)
    have hw : IntKind.i64.wrap ((k : Int) + 1) = ((k + 1 : Nat) : Int) := by rw [IntWalk.i64_in _ (by omega)]; omega
    have hn := nRun_le (x.data.toList.take (k + 1))
    have hll : (x.data.toList.take (k + 1)).length = k + 1 := by rw [List.length_take]; have : x.data.toList.length = x.size := rfl; omega
    have hu := right_up x.data.toList k h1
    have hu2 : upL 1 x.data.toList (nRun (x.data.toList.take (k + 1))) = rtM x.data.toList k := hu
    have HU := hide (fun W (hb : Below w.heap.size w W) => ln_upto (h.bl hb) hs 1 (nRun (x.data.toList.take (k + 1))) (by omega) (by omega) (by omega))
    rw [hu2] at HU
    have hn2 := hn.2
    rw [hll] at hn2
    clear hu hu2 hn hll
    generalize rtM x.data.toList k = u at *
    generalize x.data.toList.take (k + 1) = l1 at *
    clear h
    go_enter Tryz.func31, Tryz.ntmps31
    go_wp2_with fail
    refine (HL.out _ hb0).mono ?_
    rintro e w1 ⟨rfl, hw1⟩
    subst hw1
    go_wp2_with fail
    first | refine (HC.out _ hb0).mono ?_ | (rw [hw]; refine (HC.out _ hb0).mono ?_)
    rintro e w1 ⟨rfl, hb1⟩
    have hb1' := bl_alloc hb1 (talO l1)
    obtain ⟨t0, t1, t2, t3⟩ := tal_box (heap_alloc_new w1 (talO l1))
    have hb2 := bl_trans hb0 hb1'
    have c1 := cell_later (bl_trans hb1 (bl_alloc (bl_refl w1) (talO l1))) c0
    have hn9 := World.block_lt_of_cell? _ _ c1
    have hn8 := (Array.getElem?_eq_some_iff.1 (heap_alloc_new w1 (talO l1))).1
    unfold talO at t0 t1 t2 t3 hb2 c1 hn9 hn8
    clear hb1' c0 hw
    go_wp2_with fail
    refine (HU.out _ hb2).mono ?_
    rintro e w9 ⟨rfl, hb9⟩
    have hb3 := bl_trans hb2 hb9
    go_wp2
    go_ret
    exact ⟨rfl, hb3⟩
end
section
open Go.ChangeShapes Go.WideShapes Go.ChangeAt Go.RowKit
attribute [local go_sem ↓] Go.wp_at_zero Go.wp_at_succ
attribute [local go_sem] later_cell later_frozen
set_option maxRecDepth 100000
set_option linter.unusedVariables false
theorem dnW_go (p : Nat → Bool) (k : Nat) (h : p k = true) : dnW p (k + 1) = dnW p k := by rw [dnW, if_pos h]
theorem dnW_stop (p : Nat → Bool) (k : Nat) (h : p k = false) : dnW p (k + 1) = k + 1 := by rw [dnW, h]; rfl
theorem wd_s (s : ByteArray) (k : Nat) (h : k < s.size) : wdP s.data.toList k = wordC s[k] := wdP_in s.data.toList k h
theorem nw_s (s : ByteArray) (k : Nat) (h : k < s.size) : nwP s.data.toList k = !wdP s.data.toList k := nwP_wd s.data.toList k h
theorem ext_zero (x : ByteArray) (k : Nat) (j : Nat) (h1 : j < (x.extract 0 k).size) (h2 : j < x.size) : (x.extract 0 k)[j] = x[j] := by
  have e : (x.extract 0 k).data.toList = x.data.toList.take k := ext_take x k
  have g1 : (x.extract 0 k)[j] = (x.extract 0 k).data.toList[j]'h1 := rfl
  have g2 : x[j] = x.data.toList[j]'h2 := rfl
  rw [g1, g2]
  simp only [e, List.getElem_take]
theorem ext_from (x : ByteArray) (k : Nat) (j : Nat) (h1 : j < (x.extract k x.size).size) (h2 : k + j < x.size) : (x.extract k x.size)[j] = x[k + j] := by
  have e : (x.extract k x.size).data.toList = x.data.toList.drop k := ext_drop x k
  have g1 : (x.extract k x.size)[j] = (x.extract k x.size).data.toList[j]'h1 := rfl
  have g2 : x[k + j] = x.data.toList[k + j]'h2 := rfl
  rw [g1, g2]
  simp only [e, List.getElem_drop]
set_option maxHeartbeats 4000000 in
theorem wordL_m {w : World} {r : Nat} {x : ByteArray} (h : LnAt w r x) (hs : x.size ≤ 100000) (k : Nat) (hk : k ≤ x.size) :
    Calls Tryz.prog 36 #[.agg #[.pointer (some ⟨r, 0, none⟩)], .int .i64 k] w fun e w' => e = .returned (.int .i64 (wlM x.data.toList k : Nat)) ∧ Below w.heap.size w w' := by
  have c0 := ln_c0 w r
  have hb0 := ln_b0 w r
  have HC := hide (fun W (hb : Below w.heap.size w W) => ln_slc (h.bl hb) hs 0 k (Nat.zero_le _) hk)
  have HY : Hid ((x.extract 0 k).size = k) := hide (by simp only [ByteArray.size_extract]; omega)
  have HG := hide (fun j h1 h2 => ext_zero x k j h1 h2)
  generalize x.extract 0 k = y at HC HY HG
  obtain ⟨u, hu⟩ : ∃ u, wlM x.data.toList k = u := ⟨_, rfl⟩
  rw [hu]
  have HU := hide hu
  clear hu h
  go_enter Tryz.func36, Tryz.ntmps36
  go_wp2_with fail
  refine (HC.out _ hb0).mono ?_
  rintro e w1 ⟨rfl, hb1⟩
  have hb2 := bl_trans hb0 hb1
  clear hb1 hb0 c0 HC
  go_wp2
  go_loopw [1] (fun v wr => ∃ j : Nat, v = .int .i64 j ∧ j ≤ k ∧ Hid (dnW (wdP x.data.toList) (dnW (nwP x.data.toList) j) = u) ∧ w1 = wr) (fun v _ => (intOf v).toNat)
  case atStart => exact ⟨k, rfl, Nat.le_refl _, HU, rfl⟩
  case round =>
    clear HU
    obtain ⟨j, rfl, hj, HJ, rfl⟩ := hrel
    rcases j with _ | m
    · have HJ0 : Hid (dnW (wdP x.data.toList) 0 = u) := HJ
      clear HJ
      rw [show ((0 : Nat) : Int) = 0 from rfl]
      go_wp2
      go_loopw [1] (fun v wr => ∃ j : Nat, v = .int .i64 j ∧ j ≤ k ∧ Hid (dnW (wdP x.data.toList) j = u) ∧ w1 = wr) (fun v _ => (intOf v).toNat)
      case atStart => exact ⟨0, rfl, by omega, HJ0, rfl⟩
      case round =>
        obtain ⟨j, rfl, hj, HJ, rfl⟩ := hrel
        rcases j with _ | m
        · have hu : u = 0 := HJ.out.symm
          subst hu
          clear HJ
          go_wp2
          go_ret
          exact ⟨rfl, hb2⟩
        · have hmy : m < y.size := by have := HY.out; omega
          have hmx : m < x.size := by omega
          have hq : wordC y[m] = wdP x.data.toList m := by rw [HG.out m hmy hmx, wd_s x m hmx]
          have gp : decide (0 < m + 1) = true := by simp
          have HW := hide (fun W => word_m y[m] _ hq W)
          clear hq
          rcases hb : wdP x.data.toList m with _ | _
          · have hu := HJ.out
            rw [dnW_stop _ m hb] at hu
            rw [hb] at HW
            subst hu
            clear HJ hb
            go_wp2_with (go_at_call 66; refine (HW.out _).mono ?_; rintro e w9 ⟨rfl, rfl⟩)
            go_ret
            exact ⟨ret_int (by omega), hb2⟩
          · have HJ2 : Hid (dnW (wdP x.data.toList) m = u) := hide (by rw [← HJ.out, dnW_go _ m hb])
            rw [hb] at HW
            clear HJ hb
            go_wp2_with (go_at_call 66; refine (HW.out _).mono ?_; rintro e w9 ⟨rfl, rfl⟩)
            refine ⟨?_, by first | (simp [intOf]; done) | (simp [intOf]; omega)⟩
            exact ⟨m, by go_num, by omega, HJ2, by first | rfl | trivial⟩
    · have hmy : m < y.size := by have := HY.out; omega
      have hmx : m < x.size := by omega
      have hq : wordC y[m] = wdP x.data.toList m := by rw [HG.out m hmy hmx, wd_s x m hmx]
      have hn := nw_s x m hmx
      have gp : decide (0 < m + 1) = true := by simp
      have HW := hide (fun W => word_m y[m] _ hq W)
      clear hq
      rcases hb : wdP x.data.toList m with _ | _
      · rw [hb] at HW hn
        have HJ2 : Hid (dnW (wdP x.data.toList) (dnW (nwP x.data.toList) m) = u) := hide (by rw [← HJ.out, dnW_go _ m hn])
        clear HJ hb hn
        go_wp2_with (go_at_call 66; refine (HW.out _).mono ?_; rintro e w9 ⟨rfl, rfl⟩)
        refine ⟨?_, by first | (simp [intOf]; done) | (simp [intOf]; omega)⟩
        exact ⟨m, by go_num, by omega, HJ2, by first | rfl | trivial⟩
      · rw [hb] at HW hn
        have HJ0 : Hid (dnW (wdP x.data.toList) (m + 1) = u) := hide (by rw [← HJ.out, dnW_stop _ m hn])
        clear HJ hb hn
        go_wp2_with (go_at_call 66; refine (HW.out _).mono ?_; rintro e w9 ⟨rfl, rfl⟩)
        clear HW
        go_loopw [1] (fun v wr => ∃ j : Nat, v = .int .i64 j ∧ j ≤ k ∧ Hid (dnW (wdP x.data.toList) j = u) ∧ w1 = wr) (fun v _ => (intOf v).toNat)
        case atStart => exact ⟨m + 1, by go_num, by omega, HJ0, by first | rfl | trivial⟩
        case round =>
          obtain ⟨j, rfl, hj, HJ, rfl⟩ := hrel
          rcases j with _ | m
          · have hu : u = 0 := HJ.out.symm
            subst hu
            clear HJ
            go_wp2
            go_ret
            exact ⟨rfl, hb2⟩
          · have hmy : m < y.size := by have := HY.out; omega
            have hmx : m < x.size := by omega
            have hq : wordC y[m] = wdP x.data.toList m := by rw [HG.out m hmy hmx, wd_s x m hmx]
            have gp : decide (0 < m + 1) = true := by simp
            have HW := hide (fun W => word_m y[m] _ hq W)
            clear hq
            rcases hb : wdP x.data.toList m with _ | _
            · have hu := HJ.out
              rw [dnW_stop _ m hb] at hu
              rw [hb] at HW
              subst hu
              clear HJ hb
              go_wp2_with (go_at_call 66; refine (HW.out _).mono ?_; rintro e w9 ⟨rfl, rfl⟩)
              go_ret
              exact ⟨ret_int (by omega), hb2⟩
            · have HJ2 : Hid (dnW (wdP x.data.toList) m = u) := hide (by rw [← HJ.out, dnW_go _ m hb])
              rw [hb] at HW
              clear HJ hb
              go_wp2_with (go_at_call 66; refine (HW.out _).mono ?_; rintro e w9 ⟨rfl, rfl⟩)
              refine ⟨?_, by first | (simp [intOf]; done) | (simp [intOf]; omega)⟩
              exact ⟨m, by go_num, by omega, HJ2, by first | rfl | trivial⟩
set_option maxHeartbeats 4000000 in
theorem wordR_m {w : World} {r : Nat} {x : ByteArray} (h : LnAt w r x) (hs : x.size ≤ 100000) (k : Nat) (hk : k ≤ x.size) :
    Calls Tryz.prog 37 #[.agg #[.pointer (some ⟨r, 0, none⟩)], .int .i64 k] w fun e w' => e = .returned (.int .i64 (wrM x.data.toList k : Nat)) ∧ Below w.heap.size w w' := by
  have c0 := ln_c0 w r
  have hb0 := ln_b0 w r
  have HL := hide (fun W (hb : Below w.heap.size w W) => ln_len (h.bl hb))
  have HC := hide (fun W (hb : Below w.heap.size w W) => ln_slc (h.bl hb) hs k x.size hk (Nat.le_refl _))
  have HY : Hid ((x.extract k x.size).size = x.size - k) := hide (by simp only [ByteArray.size_extract]; omega)
  have HG := hide (fun j h1 h2 => ext_from x k j h1 h2)
  generalize x.extract k x.size = y at HC HY HG
  obtain ⟨u, hu⟩ : ∃ u, wrM x.data.toList k = u := ⟨_, rfl⟩
  rw [hu]
  have HU := hide hu
  clear hu h
  have hnw := World.block_lt_of_cell? _ _ c0
  go_enter Tryz.func37, Tryz.ntmps37
  go_wp2
  refine wp_region_later (by kernel_rfl) (by kernel_rfl) ?_
  repeat (go_big_quiet_step (first
    | (go_at_call 16; exact later_call ((HL.out _ (bl_trans hb0 (Later.below _))).mono (by rintro e w' ⟨he, hw⟩; subst hw; exact ⟨he, bl_refl _⟩)))
    | (go_at_call 65; exact later_call (HC.out _ (bl_trans hb0 (Later.below _))))
    | exact rfl))
  refine wpQuiet_nil ?_
  rintro w1 ⟨⟨_, hb1⟩, rfl⟩
  have hb2 := bl_trans hb0 hb1
  clear hb1 hb0 c0 HC HL hnw
  go_wp2
  go_loopw [7] (fun v wr => ∃ j : Nat, v = .int .i64 j ∧ k + j ≤ x.size ∧ Hid (upW (wdP x.data.toList) x.size (upW (nwP x.data.toList) x.size (k + j)) = u) ∧ w1 = wr) (fun v _ => x.size - (intOf v).toNat)
  case atStart => exact ⟨0, rfl, by omega, HU, rfl⟩
  case round =>
    clear HU
    obtain ⟨j, rfl, hj, HJ, rfl⟩ := hrel
    by_cases hlt : k + j < x.size
    · have hjy : j < y.size := by have := HY.out; omega
      have hq : wordC y[j] = wdP x.data.toList (k + j) := by rw [HG.out j hjy hlt, wd_s x (k + j) hlt]
      have hn := nw_s x (k + j) hlt
      have gl : decide ((j : Int) < (y.size : Int)) = true := decide_eq_true (by omega)
      have gl2 : decide (j < y.size) = true := decide_eq_true hjy
      have HW := hide (fun W => word_m y[j] _ hq W)
      clear hq
      rcases hb : wdP x.data.toList (k + j) with _ | _
      · rw [hb] at HW hn
        have HJ2 : Hid (upW (wdP x.data.toList) x.size (upW (nwP x.data.toList) x.size (k + (j + 1))) = u) := hide (by rw [← HJ.out, upW_go (nwP x.data.toList) _ _ hlt hn]; rfl)
        clear HJ hb hn
        go_wp2_with (go_at_call 66; refine (HW.out _).mono ?_; rintro e w9 ⟨rfl, rfl⟩)
        refine ⟨?_, by first | (simp [intOf]; done) | (simp [intOf]; omega)⟩
        exact ⟨j + 1, by go_num, by omega, HJ2, by first | rfl | trivial⟩
      · rw [hb] at HW hn
        have HJ0 : Hid (upW (wdP x.data.toList) x.size (k + j) = u) := hide (by rw [← HJ.out, upW_stop (nwP x.data.toList) _ _ hn])
        clear HJ hb hn
        go_wp2_with (go_at_call 66; refine (HW.out _).mono ?_; rintro e w9 ⟨rfl, rfl⟩)
        clear HW gl gl2
        go_loopw [7] (fun v wr => ∃ j : Nat, v = .int .i64 j ∧ k + j ≤ x.size ∧ Hid (upW (wdP x.data.toList) x.size (k + j) = u) ∧ w1 = wr) (fun v _ => x.size - (intOf v).toNat)
        case atStart => exact ⟨j, rfl, hj, HJ0, by first | rfl | trivial⟩
        case round =>
          clear HJ0
          obtain ⟨j, rfl, hj, HJ, rfl⟩ := hrel
          by_cases hlt : k + j < x.size
          · have hjy : j < y.size := by have := HY.out; omega
            have hq : wordC y[j] = wdP x.data.toList (k + j) := by rw [HG.out j hjy hlt, wd_s x (k + j) hlt]
            have gl : decide ((j : Int) < (y.size : Int)) = true := decide_eq_true (by omega)
            have gl2 : decide (j < y.size) = true := decide_eq_true hjy
            have HW := hide (fun W => word_m y[j] _ hq W)
            clear hq
            rcases hb : wdP x.data.toList (k + j) with _ | _
            · have hu := HJ.out
              rw [upW_stop _ _ _ hb] at hu
              rw [hb] at HW
              have hwr : IntKind.i64.wrap ((k : Int) + (j : Int)) = (u : Nat) := by rw [IntWalk.i64_in _ (by omega)]; omega
              clear HJ hb hu
              go_wp2_with (go_at_call 66; refine (HW.out _).mono ?_; rintro e w9 ⟨rfl, rfl⟩)
              go_ret
              exact ⟨ret_int (by first | rfl | omega), hb2⟩
            · have HJ2 : Hid (upW (wdP x.data.toList) x.size (k + (j + 1)) = u) := hide (by rw [← HJ.out, upW_go _ _ _ hlt hb]; rfl)
              rw [hb] at HW
              clear HJ hb
              go_wp2_with (go_at_call 66; refine (HW.out _).mono ?_; rintro e w9 ⟨rfl, rfl⟩)
              refine ⟨?_, by first | (simp [intOf]; done) | (simp [intOf]; omega)⟩
              exact ⟨j + 1, by go_num, by omega, HJ2, by first | rfl | trivial⟩
          · have hu : u = x.size := by have := HJ.out; rw [upW_end _ _ _ (by omega)] at this; omega
            have hjy : ¬ j < y.size := by have := HY.out; omega
            have gl : decide ((j : Int) < (y.size : Int)) = false := decide_eq_false (by omega)
            have gl2 : decide (j < y.size) = false := decide_eq_false hjy
            have hwr : IntKind.i64.wrap ((k : Int) + (j : Int)) = (u : Nat) := by rw [IntWalk.i64_in _ (by omega)]; omega
            clear HJ hu
            go_wp2
            go_ret
            exact ⟨ret_int (by first | rfl | omega), hb2⟩
    · have HJ0 : Hid (upW (wdP x.data.toList) x.size (k + j) = u) := hide (by rw [← HJ.out, upW_end (nwP x.data.toList) _ _ (by omega)])
      have hjy : ¬ j < y.size := by have := HY.out; omega
      have gl : decide ((j : Int) < (y.size : Int)) = false := decide_eq_false (by omega)
      have gl2 : decide (j < y.size) = false := decide_eq_false hjy
      clear HJ
      go_wp2
      clear gl gl2
      go_loopw [7] (fun v wr => ∃ j : Nat, v = .int .i64 j ∧ k + j ≤ x.size ∧ Hid (upW (wdP x.data.toList) x.size (k + j) = u) ∧ w1 = wr) (fun v _ => x.size - (intOf v).toNat)
      case atStart => exact ⟨j, rfl, hj, HJ0, by first | rfl | trivial⟩
      case round =>
        clear HJ0
        obtain ⟨j, rfl, hj, HJ, rfl⟩ := hrel
        by_cases hlt : k + j < x.size
        · have hjy : j < y.size := by have := HY.out; omega
          have hq : wordC y[j] = wdP x.data.toList (k + j) := by rw [HG.out j hjy hlt, wd_s x (k + j) hlt]
          have gl : decide ((j : Int) < (y.size : Int)) = true := decide_eq_true (by omega)
          have gl2 : decide (j < y.size) = true := decide_eq_true hjy
          have HW := hide (fun W => word_m y[j] _ hq W)
          clear hq
          rcases hb : wdP x.data.toList (k + j) with _ | _
          · have hu := HJ.out
            rw [upW_stop _ _ _ hb] at hu
            rw [hb] at HW
            have hwr : IntKind.i64.wrap ((k : Int) + (j : Int)) = (u : Nat) := by rw [IntWalk.i64_in _ (by omega)]; omega
            clear HJ hb hu
            go_wp2_with (go_at_call 66; refine (HW.out _).mono ?_; rintro e w9 ⟨rfl, rfl⟩)
            go_ret
            exact ⟨ret_int (by first | rfl | omega), hb2⟩
          · have HJ2 : Hid (upW (wdP x.data.toList) x.size (k + (j + 1)) = u) := hide (by rw [← HJ.out, upW_go _ _ _ hlt hb]; rfl)
            rw [hb] at HW
            clear HJ hb
            go_wp2_with (go_at_call 66; refine (HW.out _).mono ?_; rintro e w9 ⟨rfl, rfl⟩)
            refine ⟨?_, by first | (simp [intOf]; done) | (simp [intOf]; omega)⟩
            exact ⟨j + 1, by go_num, by omega, HJ2, by first | rfl | trivial⟩
        · have hu : u = x.size := by have := HJ.out; rw [upW_end _ _ _ (by omega)] at this; omega
          have hjy : ¬ j < y.size := by have := HY.out; omega
          have gl : decide ((j : Int) < (y.size : Int)) = false := decide_eq_false (by omega)
          have gl2 : decide (j < y.size) = false := decide_eq_false hjy
          have hwr : IntKind.i64.wrap ((k : Int) + (j : Int)) = (u : Nat) := by rw [IntWalk.i64_in _ (by omega)]; omega
          clear HJ hu
          go_wp2
          go_ret
          exact ⟨ret_int (by first | rfl | omega), hb2⟩
end
section
open Go.ChangeShapes Go.WideShapes Go.ChangeAt Go.RowKit
attribute [local go_sem ↓] Go.wp_at_zero Go.wp_at_succ
attribute [local go_sem] later_cell later_frozen
set_option maxRecDepth 100000
set_option linter.unusedVariables false
theorem plIs_r {L : List UInt8} {p : Nat} {a b e : Int} (h : PlIs L p 1 a b e) (hp : p ≤ L.length) : a = nBrk (L.take p) ∧ b = colR L p ∧ e = 0 := h.2.2 (by decide) (by unfold mayR; rw [if_neg (by omega)])
theorem ofA_r (L : List UInt8) (i col : Int) (h0 : 0 ≤ i) (h1 : i ≤ nBrk L) (hc : 0 ≤ col) : ofA L i col 1 = (inLn L i col : Nat) ∧ ofE L i col 1 = 0 := by
  have e : ofE L i col 1 = 0 := by
    unfold ofE
    rw [if_pos (by decide), if_pos ⟨by unfold lnC; rw [if_pos ⟨h0, h1⟩], hc⟩]
  refine ⟨?_, e⟩
  unfold ofA inLn
  rw [if_pos e]
theorem colR_bd (L : List UInt8) (k : Nat) : 0 ≤ colR L k ∧ colR L k ≤ 2 * L.length := by
  unfold colR
  have h := cnt_bd 1 ((L.take k).drop (lnS L (nBrk (L.take k))))
  rw [List.length_drop, List.length_take] at h
  omega
def PlR (L : List UInt8) (k : Nat) (w : World) (e : Ending) (w' : World) : Prop := e = .returned (.tuple #[.int .i64 (nBrk (L.take k)), .int .i64 (colR L k), .int .i64 0]) ∧ Below w.heap.size w w'
theorem place_r {w : World} {r : Nat} {x : ByteArray} (h : LnAt w r x) (hs : x.size ≤ 100000) (k : Nat) (hk : k ≤ x.size) :
    Calls Tryz.prog 62 #[.agg #[.pointer (some ⟨r, 0, none⟩)], .int .i64 k, .int .i64 1] w (PlR x.data.toList k w) := by
  refine (place_l h hs k 1).mono ?_
  rintro e w' ⟨a, b, c, rfl, hp, hb⟩
  obtain ⟨rfl, rfl, rfl⟩ := plIs_r hp hk
  exact ⟨rfl, hb⟩
theorem rplace_r (x : ByteArray) (k : Nat) (w : World) (hs : x.size ≤ 100000) (hk : k ≤ x.size) :
    Calls Tryz.prog 40 #[.string x, .int .i64 k, .int .i64 1] w (PlR x.data.toList k w) := by
  refine (rplace_any x k 1 w hs).mono ?_
  rintro e w' ⟨a, b, c, rfl, hp, hb⟩
  obtain ⟨rfl, rfl, rfl⟩ := plIs_r hp hk
  exact ⟨rfl, hb⟩
set_option maxHeartbeats 4000000 in
theorem up_m {w : World} {r : Nat} {x : ByteArray} (h : LnAt w r x) (hs : x.size ≤ 100000) (k : Nat) (hk : k ≤ x.size) :
    Calls Tryz.prog 35 #[.agg #[.pointer (some ⟨r, 0, none⟩)], .int .i64 k, .int .i64 (-1)] w fun e w' => e = .returned (.int .i64 ((if nBrk (x.data.toList.take k) = 0 then 0 else inLn x.data.toList (nBrk (x.data.toList.take k) - 1) (colR x.data.toList k) : Nat) : Int)) ∧ Below w.heap.size w w' := by
  have c0 := ln_c0 w r
  have hb0 := ln_b0 w r
  have hxl : x.data.toList.length = x.size := rfl
  have hP := fun W (hb : Below w.heap.size w W) => place_r (h.bl hb) hs k hk
  have hM := fun W (hb : Below w.heap.size w W) => many_l (h.bl hb) hs
  have hbt := nBrk_take x.data.toList k
  have hbl := nBrk_le (x.data.toList.take k)
  have hbx := nBrk_le x.data.toList
  have hcol := colR_bd x.data.toList k
  obtain ⟨m, hm⟩ : ∃ m : Nat, nBrk (x.data.toList.take k) = m := ⟨(nBrk (x.data.toList.take k)).toNat, by omega⟩
  unfold PlR at hP
  rw [hm] at hP hbt ⊢
  rcases m with _ | q
  · rw [if_pos (by rfl)]
    rw [show ((0 : Nat) : Int) = 0 from rfl] at hP ⊢
    have HP := hide hP
    clear hP hM hm hbt hbl hbx hcol h hxl
    go_enter Tryz.func35, Tryz.ntmps35
    go_wp2_with fail
    refine (HP.out _ hb0).mono ?_
    rintro e w1 ⟨rfl, hb1⟩
    have hb2 := bl_trans hb0 hb1
    go_wp2
    go_ret
    exact ⟨rfl, hb2⟩
  · rw [if_neg (by omega)]
    rw [show ((q + 1 : Nat) : Int) = (q : Int) + 1 from by omega] at hP hbt ⊢
    have ho := ofA_r x.data.toList (q : Int) (colR x.data.toList k) (by omega) (by omega) (by omega)
    have hO := fun W (hb : Below w.heap.size w W) => offset_l (h.bl hb) hs q (colR x.data.toList k) 1 (by omega)
    rw [ho.1, ho.2] at hO
    rw [show (q : Int) + 1 - 1 = (q : Int) by omega]
    generalize inLn x.data.toList (q : Int) (colR x.data.toList k) = u at *
    have hql : q + 1 ≤ 100000 := by omega
    generalize nBrk x.data.toList = M at *
    have g1 : ((q : Int) == M + 1) = false := by simp; omega
    have g2 : decide ((q : Int) < 0) = false := decide_eq_false (by omega)
    have hw1 : (q : Int) + 1 + -1 = (q : Int) := by omega
    generalize colR x.data.toList k = col at *
    have HP := hide hP
    have HM := hide hM
    have HO := hide hO
    clear hP hM hO ho hm hbt hbl hbx hcol h hxl
    go_enter Tryz.func35, Tryz.ntmps35
    go_wp2_with fail
    refine (HP.out _ hb0).mono ?_
    rintro e w1 ⟨rfl, hb1⟩
    have c0 := cell_later hb1 c0
    have hb1 := bl_trans hb0 hb1
    go_wp2_with fail
    refine (HM.out _ hb1).mono ?_
    rintro e w2 ⟨rfl, hb2⟩
    have c0 := cell_later hb2 c0
    have hb2 := bl_trans hb1 hb2
    go_wp2_with fail
    (with_reducible refine (HO.out _ hb2).mono ?_)
    rintro e w3 ⟨rfl, hb3⟩
    have hb3 := bl_trans hb2 hb3
    go_wp2
    go_ret
    exact ⟨rfl, hb3⟩
set_option maxHeartbeats 4000000 in
theorem down_m {w : World} {r : Nat} {x : ByteArray} (h : LnAt w r x) (hs : x.size ≤ 100000) (k : Nat) (hk : k ≤ x.size) :
    Calls Tryz.prog 35 #[.agg #[.pointer (some ⟨r, 0, none⟩)], .int .i64 k, .int .i64 1] w fun e w' => e = .returned (.int .i64 ((if nBrk (x.data.toList.take k) = nBrk x.data.toList then x.data.toList.length else inLn x.data.toList (nBrk (x.data.toList.take k) + 1) (colR x.data.toList k) : Nat) : Int)) ∧ Below w.heap.size w w' := by
  have c0 := ln_c0 w r
  have hb0 := ln_b0 w r
  have hxl : x.data.toList.length = x.size := rfl
  have hP := fun W (hb : Below w.heap.size w W) => place_r (h.bl hb) hs k hk
  have hM := fun W (hb : Below w.heap.size w W) => many_l (h.bl hb) hs
  have hL := fun W (hb : Below w.heap.size w W) => ln_len (h.bl hb)
  have hbt := nBrk_take x.data.toList k
  have hbl := nBrk_le (x.data.toList.take k)
  have hbx := nBrk_le x.data.toList
  have hcol := colR_bd x.data.toList k
  obtain ⟨m, hm⟩ : ∃ m : Nat, nBrk (x.data.toList.take k) = m := ⟨(nBrk (x.data.toList.take k)).toNat, by omega⟩
  obtain ⟨n, hn⟩ : ∃ n : Nat, nBrk x.data.toList = n := ⟨(nBrk x.data.toList).toNat, by omega⟩
  unfold PlR at hP
  rw [hm] at hP hbt ⊢
  rw [hn] at hM hbt ⊢
  have g2 : decide ((m : Int) + 1 < 0) = false := decide_eq_false (by omega)
  have hnl : n ≤ 100000 := by omega
  have hmn : m ≤ n := by omega
  have hmb : m ≤ 100000 := by omega
  by_cases hmn2 : m = n
  · subst hmn2
    rw [if_pos rfl, hxl]
    have g1 : ((m : Int) + 1 == (m : Int) + 1) = true := by simp
    generalize colR x.data.toList k = col at *
    have HP := hide hP
    have HM := hide hM
    have HL := hide hL
    clear hP hM hL hm hn hbt hbl hbx hcol h hxl hmn
    go_enter Tryz.func35, Tryz.ntmps35
    go_wp2_with fail
    refine (HP.out _ hb0).mono ?_
    rintro e w1 ⟨rfl, hb1⟩
    have c0 := cell_later hb1 c0
    have hb1 := bl_trans hb0 hb1
    go_wp2_with fail
    refine (HM.out _ hb1).mono ?_
    rintro e w2 ⟨rfl, hb2⟩
    have c0 := cell_later hb2 c0
    have hb2 := bl_trans hb1 hb2
    go_wp2_with fail
    refine (HL.out _ hb2).mono ?_
    rintro e w3 ⟨rfl, hw3⟩
    subst hw3
    go_wp2
    go_ret
    exact ⟨rfl, hb2⟩
  · rw [if_neg (by omega)]
    have ho := ofA_r x.data.toList ((m : Int) + 1) (colR x.data.toList k) (by omega) (by omega) (by omega)
    have hO := fun W (hb : Below w.heap.size w W) => offset_l (h.bl hb) hs ((m : Int) + 1) (colR x.data.toList k) 1 (by omega)
    rw [ho.1, ho.2] at hO
    generalize inLn x.data.toList ((m : Int) + 1) (colR x.data.toList k) = u at *
    have g1 : ((m : Int) + 1 == (n : Int) + 1) = false := by simp; omega
    have g3 : ((m : Int) == (n : Int)) = false := by simp; omega
    have g4 : (m == n) = false := by simp; omega
    have g5 : ¬ m = n := hmn2
    generalize colR x.data.toList k = col at *
    have HP := hide hP
    have HM := hide hM
    have HO := hide hO
    clear hP hM hL hO ho hm hn hbt hbl hbx hcol h hxl hmn hmn2
    go_enter Tryz.func35, Tryz.ntmps35
    go_wp2_with fail
    refine (HP.out _ hb0).mono ?_
    rintro e w1 ⟨rfl, hb1⟩
    have c0 := cell_later hb1 c0
    have hb1 := bl_trans hb0 hb1
    go_wp2_with fail
    refine (HM.out _ hb1).mono ?_
    rintro e w2 ⟨rfl, hb2⟩
    have c0 := cell_later hb2 c0
    have hb2 := bl_trans hb1 hb2
    go_wp2_with fail
    (with_reducible refine (HO.out _ hb2).mono ?_)
    rintro e w3 ⟨rfl, hb3⟩
    have hb3 := bl_trans hb2 hb3
    go_wp2
    go_ret
    exact ⟨rfl, hb3⟩
theorem sel_m (L : List UInt8) (k : Nat) : stepM L k 1 = dnP (ldP L) k ∧ stepM L k 2 = rtM L k ∧ stepM L k 3 = lnS L (nBrk (L.take k)) ∧ stepM L k 4 = lnE L (nBrk (L.take k)) ∧ stepM L k 5 = (if nBrk (L.take k) = 0 then 0 else inLn L (nBrk (L.take k) - 1) (colR L k)) ∧ stepM L k 6 = (if nBrk (L.take k) = nBrk L then L.length else inLn L (nBrk (L.take k) + 1) (colR L k)) ∧ stepM L k 7 = 0 ∧ stepM L k 8 = L.length ∧ stepM L k 9 = wlM L k ∧ stepM L k 10 = wrM L k := by
  refine ⟨rfl, rfl, rfl, rfl, rfl, rfl, rfl, rfl, rfl, rfl⟩
set_option maxHeartbeats 8000000 in
theorem step_m {w : World} {r : Nat} {x : ByteArray} (h : LnAt w r x) (hs : x.size ≤ 100000) (k : Nat) (hk : k ≤ x.size) (way : Int) (h1 : 1 ≤ way) (h10 : way ≤ 10) :
    Calls Tryz.prog 17 #[.agg #[.pointer (some ⟨r, 0, none⟩)], .int .i64 k, .int .i64 way] w fun e w' => e = .returned (.int .i64 (stepM x.data.toList k way : Nat)) ∧ Below w.heap.size w w' := by
  have c0 := ln_c0 w r
  have hb0 := ln_b0 w r
  obtain ⟨e1, e2, e3, e4, e5, e6, e7, e8, e9, e10⟩ := sel_m x.data.toList k
  have hw : way = 1 ∨ way = 2 ∨ way = 3 ∨ way = 4 ∨ way = 5 ∨ way = 6 ∨ way = 7 ∨ way = 8 ∨ way = 9 ∨ way = 10 := by omega
  clear h1 h10
  rcases hw with rfl | rfl | rfl | rfl | rfl | rfl | rfl | rfl | rfl | rfl
  · rw [e1]
    clear e1 e2 e3 e4 e5 e6 e7 e8 e9 e10
    have HC := hide (fun W (hb : Below w.heap.size w W) => left_m (h.bl hb) hs k hk)
    generalize dnP (ldP x.data.toList) k = u at *
    clear h
    go_enter Tryz.func17, Tryz.ntmps17
    go_wp2_with fail
    refine (HC.out _ hb0).mono ?_
    rintro e w1 ⟨rfl, hb1⟩
    have hb2 := bl_trans hb0 hb1
    go_wp2
    go_ret
    exact ⟨rfl, hb2⟩
  · rw [e2]
    clear e1 e2 e3 e4 e5 e6 e7 e8 e9 e10
    have HC := hide (fun W (hb : Below w.heap.size w W) => right_m (h.bl hb) hs k hk)
    generalize rtM x.data.toList k = u at *
    clear h
    go_enter Tryz.func17, Tryz.ntmps17
    go_wp2_with fail
    refine (HC.out _ hb0).mono ?_
    rintro e w1 ⟨rfl, hb1⟩
    have hb2 := bl_trans hb0 hb1
    go_wp2
    go_ret
    exact ⟨rfl, hb2⟩
  · rw [e3]
    clear e1 e2 e3 e4 e5 e6 e7 e8 e9 e10
    have hxl : x.data.toList.length = x.size := rfl
    have hbt := nBrk_take x.data.toList k
    have hbl := nBrk_le (x.data.toList.take k)
    have hln : lnC x.data.toList (nBrk (x.data.toList.take k)) = 0 := by unfold lnC; rw [if_pos (by omega)]
    have hm0 : mayR 0 (k : Int) x.data.toList.length = 0 := by unfold mayR; rw [if_neg (by omega)]
    have hA := fun W (hb : Below w.heap.size w W) => at_l (h.bl hb) hs (k : Int)
    rw [atV_in hm0] at hA
    have hS := fun W (hb : Below w.heap.size w W) => start_l (h.bl hb) hs (nBrk (x.data.toList.take k))
    rw [lnSv_in hln, hln] at hS
    generalize lnS x.data.toList (nBrk (x.data.toList.take k)) = u at *
    generalize nBrk (x.data.toList.take k) = ln at *
    generalize mayR 0 (k : Int) x.size = er at *
    have HA := hide hA
    have HS := hide hS
    clear hA hS hxl hbt hbl hln hm0 h
    go_enter Tryz.func17, Tryz.ntmps17
    go_wp2_with fail
    refine (HA.out _ hb0).mono ?_
    rintro e w1 ⟨rfl, hb1⟩
    have c0 := cell_later hb1 c0
    have hb1 := bl_trans hb0 hb1
    go_wp2_with fail
    refine (HS.out _ hb1).mono ?_
    rintro e w2 ⟨rfl, hb2⟩
    have hb2 := bl_trans hb1 hb2
    go_wp2
    go_ret
    exact ⟨rfl, hb2⟩
  · rw [e4]
    clear e1 e2 e3 e4 e5 e6 e7 e8 e9 e10
    have hxl : x.data.toList.length = x.size := rfl
    have hbt := nBrk_take x.data.toList k
    have hbl := nBrk_le (x.data.toList.take k)
    have hln : lnC x.data.toList (nBrk (x.data.toList.take k)) = 0 := by unfold lnC; rw [if_pos (by omega)]
    have hm0 : mayR 0 (k : Int) x.data.toList.length = 0 := by unfold mayR; rw [if_neg (by omega)]
    have hA := fun W (hb : Below w.heap.size w W) => at_l (h.bl hb) hs (k : Int)
    rw [atV_in hm0] at hA
    have hS := fun W (hb : Below w.heap.size w W) => end_l (h.bl hb) hs (nBrk (x.data.toList.take k))
    rw [lnEv_in hln, hln] at hS
    generalize lnE x.data.toList (nBrk (x.data.toList.take k)) = u at *
    generalize nBrk (x.data.toList.take k) = ln at *
    generalize mayR 0 (k : Int) x.size = er at *
    have HA := hide hA
    have HS := hide hS
    clear hA hS hxl hbt hbl hln hm0 h
    go_enter Tryz.func17, Tryz.ntmps17
    go_wp2_with fail
    refine (HA.out _ hb0).mono ?_
    rintro e w1 ⟨rfl, hb1⟩
    have c0 := cell_later hb1 c0
    have hb1 := bl_trans hb0 hb1
    go_wp2_with fail
    refine (HS.out _ hb1).mono ?_
    rintro e w2 ⟨rfl, hb2⟩
    have hb2 := bl_trans hb1 hb2
    go_wp2
    go_ret
    exact ⟨rfl, hb2⟩
  · rw [e5]
    clear e1 e2 e3 e4 e5 e6 e7 e8 e9 e10
    have HC := hide (fun W (hb : Below w.heap.size w W) => up_m (h.bl hb) hs k hk)
    generalize (if nBrk (x.data.toList.take k) = 0 then 0 else inLn x.data.toList (nBrk (x.data.toList.take k) - 1) (colR x.data.toList k)) = u at *
    clear h
    go_enter Tryz.func17, Tryz.ntmps17
    go_wp2_with fail
    refine (HC.out _ hb0).mono ?_
    rintro e w1 ⟨rfl, hb1⟩
    have hb2 := bl_trans hb0 hb1
    go_wp2
    go_ret
    exact ⟨rfl, hb2⟩
  · rw [e6]
    clear e1 e2 e3 e4 e5 e6 e7 e8 e9 e10
    have HC := hide (fun W (hb : Below w.heap.size w W) => down_m (h.bl hb) hs k hk)
    generalize (if nBrk (x.data.toList.take k) = nBrk x.data.toList then x.data.toList.length else inLn x.data.toList (nBrk (x.data.toList.take k) + 1) (colR x.data.toList k)) = u at *
    clear h
    go_enter Tryz.func17, Tryz.ntmps17
    go_wp2_with fail
    refine (HC.out _ hb0).mono ?_
    rintro e w1 ⟨rfl, hb1⟩
    have hb2 := bl_trans hb0 hb1
    go_wp2
    go_ret
    exact ⟨rfl, hb2⟩
  · rw [e7]
    clear e1 e2 e3 e4 e5 e6 e7 e8 e9 e10
    clear h
    go_enter Tryz.func17, Tryz.ntmps17
    go_wp2
    go_ret
    exact ⟨rfl, hb0⟩
  · rw [e8]
    clear e1 e2 e3 e4 e5 e6 e7 e8 e9 e10
    have HC := hide (fun W (hb : Below w.heap.size w W) => ln_len (h.bl hb))
    rw [show x.data.toList.length = x.size from rfl]
    clear h
    go_enter Tryz.func17, Tryz.ntmps17
    go_wp2_with fail
    refine (HC.out _ hb0).mono ?_
    rintro e w1 ⟨rfl, hw1⟩
    subst hw1
    go_wp2
    go_ret
    exact ⟨rfl, hb0⟩
  · rw [e9]
    clear e1 e2 e3 e4 e5 e6 e7 e8 e9 e10
    have HC := hide (fun W (hb : Below w.heap.size w W) => wordL_m (h.bl hb) hs k hk)
    generalize wlM x.data.toList k = u at *
    clear h
    go_enter Tryz.func17, Tryz.ntmps17
    go_wp2_with fail
    refine (HC.out _ hb0).mono ?_
    rintro e w1 ⟨rfl, hb1⟩
    have hb2 := bl_trans hb0 hb1
    go_wp2
    go_ret
    exact ⟨rfl, hb2⟩
  · rw [e10]
    clear e1 e2 e3 e4 e5 e6 e7 e8 e9 e10
    have HC := hide (fun W (hb : Below w.heap.size w W) => wordR_m (h.bl hb) hs k hk)
    generalize wrM x.data.toList k = u at *
    clear h
    go_enter Tryz.func17, Tryz.ntmps17
    go_wp2_with fail
    refine (HC.out _ hb0).mono ?_
    rintro e w1 ⟨rfl, hb1⟩
    have hb2 := bl_trans hb0 hb1
    go_wp2
    go_ret
    exact ⟨rfl, hb2⟩
def wyC (way : Int) : Int := if 1 ≤ way ∧ way ≤ 10 then 0 else 2
theorem wyC_cases (way : Int) : (wyC way = 0 ∧ 1 ≤ way ∧ way ≤ 10) ∨ (wyC way = 2 ∧ (way < 1 ∨ 10 < way)) := by
  unfold wyC
  by_cases h : 1 ≤ way ∧ way ≤ 10
  · rw [if_pos h]; exact .inl ⟨rfl, h⟩
  · rw [if_neg h]; exact .inr ⟨rfl, by omega⟩
theorem may9_m (r : Nat) (way : Int) (w : World) :
    Calls Tryz.prog 14 #[.agg #[.pointer (some ⟨r, 0, none⟩)], .int .i64 way] w fun e w' => e = .returned (.int .i64 (wyC way)) ∧ Below w.heap.size w w' := by
  have c0 := ln_c0 w r
  have hb0 := ln_b0 w r
  rcases wyC_cases way with ⟨he, h1, h2⟩ | ⟨he, h1⟩
  · rw [he]
    have g1 : decide (way < 1) = false := decide_eq_false (by omega)
    have g2 : decide (10 < way) = false := decide_eq_false (by omega)
    clear he
    go_enter Tryz.func14, Tryz.ntmps14
    go_wp2
    go_ret
    exact ⟨rfl, hb0⟩
  · rw [he]
    clear he
    by_cases h : way < 1
    · have g1 : decide (way < 1) = true := decide_eq_true h
      clear h1
      go_enter Tryz.func14, Tryz.ntmps14
      go_wp2
      go_ret
      exact ⟨rfl, hb0⟩
    · have g1 : decide (way < 1) = false := decide_eq_false h
      have g2 : decide (10 < way) = true := decide_eq_true (by omega)
      clear h1
      go_enter Tryz.func14, Tryz.ntmps14
      go_wp2
      go_ret
      exact ⟨rfl, hb0⟩
/-- What a step answers. -/
def stE (L : List UInt8) (at_ way : Int) : Int := if wyC way = 0 then (if 0 ≤ at_ ∧ at_ ≤ L.length then 0 else 3) else 2
def stA (L : List UInt8) (at_ way : Int) : Int := if stE L at_ way = 0 then (stepM L at_.toNat way : Nat) else 0
theorem stE_cases (L : List UInt8) (at_ way : Int) : (stE L at_ way = 0 ∧ wyC way = 0 ∧ ∃ k : Nat, at_ = k ∧ k ≤ L.length ∧ stA L at_ way = (stepM L k way : Nat)) ∨ (stE L at_ way = 3 ∧ stA L at_ way = 0 ∧ wyC way = 0 ∧ (at_ < 0 ∨ L.length < at_)) ∨ (stE L at_ way = 2 ∧ stA L at_ way = 0 ∧ wyC way = 2) := by
  rcases wyC_cases way with ⟨hw, _⟩ | ⟨hw, _⟩
  · by_cases h : 0 ≤ at_ ∧ at_ ≤ L.length
    · left
      have e : stE L at_ way = 0 := by unfold stE; rw [if_pos hw, if_pos h]
      refine ⟨e, hw, at_.toNat, by omega, by omega, ?_⟩
      unfold stA; rw [if_pos e]
    · right; left
      have e : stE L at_ way = 3 := by unfold stE; rw [if_pos hw, if_neg h]
      refine ⟨e, ?_, hw, by omega⟩
      unfold stA; rw [if_neg (by rw [e]; decide)]
  · right; right
    have e : stE L at_ way = 2 := by unfold stE; rw [if_neg (by rw [hw]; decide)]
    refine ⟨e, ?_, hw⟩
    unfold stA; rw [if_neg (by rw [e]; decide)]
set_option maxHeartbeats 4000000 in
theorem Step_m {w : World} {r : Nat} {x : ByteArray} (h : LnAt w r x) (hs : x.size ≤ 100000) (at_ way : Int) :
    Calls Tryz.prog 10 #[.agg #[.pointer (some ⟨r, 0, none⟩)], .int .i64 at_, .int .i64 way] w fun e w' => e = .returned (.tuple #[.int .i64 (stA x.data.toList at_ way), .int .i64 (stE x.data.toList at_ way)]) ∧ Below w.heap.size w w' := by
  have c0 := ln_c0 w r
  have hb0 := ln_b0 w r
  have hxl : x.data.toList.length = x.size := rfl
  have hY := fun W => may9_m r way W
  have HL := hide (fun W (hb : Below w.heap.size w W) => ln_len (h.bl hb))
  rcases stE_cases x.data.toList at_ way with ⟨he, hw, k, rfl, hk, ha⟩ | ⟨he, ha, hw, hr⟩ | ⟨he, ha, hw⟩
  · rw [ha, he]
    rw [hw] at hY
    have hwy : 1 ≤ way ∧ way ≤ 10 := by
      rcases wyC_cases way with ⟨_, h1⟩ | ⟨h1, _⟩
      · exact h1
      · rw [h1] at hw; exact absurd hw (by decide)
    have HS := hide (fun W (hb : Below w.heap.size w W) => step_m (h.bl hb) hs k hk way hwy.1 hwy.2)
    generalize stepM x.data.toList k way = u at *
    have g1 : decide ((k : Int) < 0) = false := decide_eq_false (by omega)
    have g2 : decide ((x.size : Int) < (k : Int)) = false := decide_eq_false (by omega)
    have g3 : decide (x.size < k) = false := decide_eq_false (by omega)
    have HY := hide hY
    clear hY ha he hw hk hxl h hwy
    go_enter Tryz.func10, Tryz.ntmps10
    go_wp2_with fail
    refine (HY.out _).mono ?_
    rintro e w1 ⟨rfl, hb1⟩
    have c0 := cell_later hb1 c0
    have hb1 := bl_trans hb0 hb1
    go_wp2_with fail
    refine (HL.out _ hb1).mono ?_
    rintro e w2 ⟨rfl, hw2⟩
    subst hw2
    go_wp2_with fail
    refine (HS.out _ hb1).mono ?_
    rintro e w3 ⟨rfl, hb3⟩
    have hb3 := bl_trans hb1 hb3
    go_wp2
    go_ret2
    exact ⟨rfl, hb3⟩
  · rw [ha, he]
    rw [hw] at hY
    have HY := hide hY
    rw [hxl] at hr
    clear hY ha he hw hxl h
    by_cases h0 : at_ < 0
    · have g1 : decide (at_ < 0) = true := decide_eq_true h0
      clear hr
      go_enter Tryz.func10, Tryz.ntmps10
      go_wp2_with fail
      refine (HY.out _).mono ?_
      rintro e w1 ⟨rfl, hb1⟩
      have c0 := cell_later hb1 c0
      have hb1 := bl_trans hb0 hb1
      go_wp2
      go_ret2
      exact ⟨rfl, hb1⟩
    · have g1 : decide (at_ < 0) = false := decide_eq_false h0
      have g2 : decide ((x.size : Int) < at_) = true := decide_eq_true (by omega)
      clear hr
      go_enter Tryz.func10, Tryz.ntmps10
      go_wp2_with fail
      refine (HY.out _).mono ?_
      rintro e w1 ⟨rfl, hb1⟩
      have c0 := cell_later hb1 c0
      have hb1 := bl_trans hb0 hb1
      go_wp2_with fail
      refine (HL.out _ hb1).mono ?_
      rintro e w2 ⟨rfl, hw2⟩
      subst hw2
      go_wp2
      go_ret2
      exact ⟨rfl, hb1⟩
  · rw [ha, he]
    rw [hw] at hY
    have HY := hide hY
    clear hY ha he hw hxl h
    go_enter Tryz.func10, Tryz.ntmps10
    go_wp2_with fail
    refine (HY.out _).mono ?_
    rintro e w1 ⟨rfl, hb1⟩
    have hb1 := bl_trans hb0 hb1
    go_wp2
    go_ret2
    exact ⟨rfl, hb1⟩
end
section
open Go.ChangeShapes Go.WideShapes Go.ChangeAt Go.RowKit
attribute [local go_sem ↓] Go.wp_at_zero Go.wp_at_succ
set_option maxRecDepth 100000
set_option linter.unusedVariables false
theorem ld_s (s : ByteArray) (k : Nat) (h : k < s.size) : ldP s.data.toList k = decide (s[k].toNat < 128 ∨ 191 < s[k].toNat) := ldP_in s.data.toList k h
theorem nl_s (s : ByteArray) (k : Nat) (h : k < s.size) : nlP s.data.toList k = !ldP s.data.toList k := nlP_ld s.data.toList k h
theorem rlead_m (c : UInt8) (b : Bool) (hb : decide (c.toNat < 128 ∨ 191 < c.toNat) = b) (w : World) : Calls Tryz.prog 74 #[.int .u8 (c.toNat : Int)] w fun e w' => e = .returned (.bool b) ∧ w = w' := by
  have hc : (c.toNat : Int) < 256 := by have := c.toNat_lt; omega
  subst hb
  generalize c.toNat = n at *
  by_cases h1 : n < 128
  · rw [decide_eq_true (Or.inl h1)]
    have g1 : decide ((n : Int) < 128) = true := decide_eq_true (by omega)
    have g2 : decide ((128 : Int) ≤ (n : Int)) = false := decide_eq_false (by omega)
    go_enter Tryz.func74, Tryz.ntmps74
    go_wp2
    go_ret
    exact ⟨rfl, rfl⟩
  · have g1 : decide ((n : Int) < 128) = false := decide_eq_false (by omega)
    have g2 : decide ((128 : Int) ≤ (n : Int)) = true := decide_eq_true (by omega)
    by_cases h2 : 191 < n
    · rw [decide_eq_true (Or.inr h2)]
      have g3 : decide ((191 : Int) < (n : Int)) = true := decide_eq_true (by omega)
      have g4 : decide ((n : Int) ≤ 191) = false := decide_eq_false (by omega)
      have g5 : decide ((192 : Int) ≤ (n : Int)) = true := decide_eq_true (by omega)
      have g6 : decide ((n : Int) < 192) = false := decide_eq_false (by omega)
      go_enter Tryz.func74, Tryz.ntmps74
      go_wp2
      go_ret
      exact ⟨rfl, rfl⟩
    · rw [decide_eq_false (by omega)]
      have g3 : decide ((191 : Int) < (n : Int)) = false := decide_eq_false (by omega)
      have g4 : decide ((n : Int) ≤ 191) = true := decide_eq_true (by omega)
      have g5 : decide ((192 : Int) ≤ (n : Int)) = false := decide_eq_false (by omega)
      have g6 : decide ((n : Int) < 192) = true := decide_eq_true (by omega)
      go_enter Tryz.func74, Tryz.ntmps74
      go_wp2
      go_ret
      exact ⟨rfl, rfl⟩
set_option maxHeartbeats 4000000 in
theorem rleft_m (x : ByteArray) (k : Nat) (w : World) (hs : x.size ≤ 100000) (hk : k ≤ x.size) :
    Calls Tryz.prog 41 #[.string x, .int .i64 k] w fun e w' => e = .returned (.int .i64 (dnP (ldP x.data.toList) k : Nat)) ∧ w = w' := by
  obtain ⟨u, hu⟩ : ∃ u, dnP (ldP x.data.toList) k = u := ⟨_, rfl⟩
  rw [hu]
  rcases k with _ | k0
  · have hu0 : u = 0 := hu.symm
    subst hu0
    clear hu
    rw [show ((0 : Nat) : Int) = 0 from rfl]
    go_enter Tryz.func41, Tryz.ntmps41
    go_wp2
    refine wp_loop_rounds 1 ?_
    rw [rounds_succ]
    go_wp2
    go_ret
    exact ⟨rfl, rfl⟩
  · have HU := hide hu
    clear hu
    rw [show ((k0 + 1 : Nat) : Int) = (k0 : Int) + 1 from by omega]
    have hw1 : (k0 : Int) + 1 + -1 = (k0 : Int) := by omega
    have hw2 : (k0 : Int) + 1 - 1 = (k0 : Int) := by omega
    go_enter Tryz.func41, Tryz.ntmps41
    go_wp2
    clear hw1 hw2
    go_loopw [1] (fun v wr => ∃ j : Nat, v = .int .i64 j ∧ j ≤ k0 ∧ Hid (dnP (ldP x.data.toList) (j + 1) = u) ∧ w = wr) (fun v _ => (intOf v).toNat)
    case atStart => exact ⟨k0, rfl, Nat.le_refl _, HU, rfl⟩
    case round =>
      clear HU
      obtain ⟨j, rfl, hj, HJ, rfl⟩ := hrel
      rcases j with _ | m
      · have hu0 : u = 0 := by
          have := HJ.out
          simp only [dnP] at this
          split at this <;> omega
        subst hu0
        clear HJ
        rw [show ((0 : Nat) : Int) = 0 from rfl]
        go_wp2
        go_ret
        exact ⟨rfl, rfl⟩
      · have hmx : m + 1 < x.size := by omega
        have hq := ld_s x (m + 1) hmx
        have HW := hide (fun W => rlead_m x[m + 1] _ hq.symm W)
        have gp : decide (0 < m + 1) = true := by simp
        clear hq
        rcases hb : ldP x.data.toList (m + 1) with _ | _
        · rw [hb] at HW
          have HJ2 : Hid (dnP (ldP x.data.toList) (m + 1) = u) := hide (by
            have := HJ.out
            rw [show dnP (ldP x.data.toList) (m + 1 + 1) = if ldP x.data.toList (m + 1) then m + 1 else dnP (ldP x.data.toList) (m + 1) from rfl, hb] at this
            simpa using this)
          clear HJ hb
          go_wp2_with (go_at_call 74; refine (HW.out _).mono ?_; rintro e w9 ⟨rfl, rfl⟩)
          refine ⟨?_, by first | (simp [intOf]; done) | (simp [intOf]; omega)⟩
          exact ⟨m, by go_num, by omega, HJ2, by first | rfl | trivial⟩
        · rw [hb] at HW
          have hu1 : u = m + 1 := by
            have := HJ.out
            rw [show dnP (ldP x.data.toList) (m + 1 + 1) = if ldP x.data.toList (m + 1) then m + 1 else dnP (ldP x.data.toList) (m + 1) from rfl, hb] at this
            simpa using this.symm
          subst hu1
          clear HJ hb
          go_wp2_with (go_at_call 74; refine (HW.out _).mono ?_; rintro e w9 ⟨rfl, rfl⟩)
          go_ret
          exact ⟨ret_int (by omega), rfl⟩
set_option maxHeartbeats 4000000 in
theorem rright_m (x : ByteArray) (k : Nat) (w : World) (hs : x.size ≤ 100000) (hk : k ≤ x.size) :
    Calls Tryz.prog 42 #[.string x, .int .i64 k] w fun e w' => e = .returned (.int .i64 (rtM x.data.toList k : Nat)) ∧ w = w' := by
  obtain ⟨u, hu⟩ : ∃ u, rtM x.data.toList k = u := ⟨_, rfl⟩
  rw [hu]
  have HU : Hid (min (upW (nlP x.data.toList) x.size (k + 1)) x.size = u) := hide hu
  clear hu
  go_enter Tryz.func42, Tryz.ntmps42
  go_wp2
  go_loopw [1] (fun v wr => ∃ j : Nat, v = .int .i64 j ∧ j ≤ x.size + 1 ∧ Hid (min (upW (nlP x.data.toList) x.size j) x.size = u) ∧ w = wr) (fun v _ => x.size - (intOf v).toNat)
  case atStart => exact ⟨k + 1, by go_num, by omega, HU, rfl⟩
  case round =>
    clear HU
    obtain ⟨j, rfl, hj, HJ, rfl⟩ := hrel
    by_cases hlt : j < x.size
    · have hq := ld_s x j hlt
      have hn := nl_s x j hlt
      have HW := hide (fun W => rlead_m x[j] _ hq.symm W)
      have gl : decide ((j : Int) < (x.size : Int)) = true := decide_eq_true (by omega)
      have gl2 : decide (j < x.size) = true := decide_eq_true hlt
      clear hq
      rcases hb : ldP x.data.toList j with _ | _
      · rw [hb] at HW hn
        have HJ2 : Hid (min (upW (nlP x.data.toList) x.size (j + 1)) x.size = u) := hide (by rw [← HJ.out, upW_go _ _ _ hlt hn])
        clear HJ hb hn
        go_wp2_with (go_at_call 74; refine (HW.out _).mono ?_; rintro e w9 ⟨rfl, rfl⟩)
        refine ⟨?_, by first | (simp [intOf]; done) | (simp [intOf]; omega)⟩
        exact ⟨j + 1, by go_num, by omega, HJ2, by first | rfl | trivial⟩
      · rw [hb] at HW hn
        have hu1 : u = j := by have := HJ.out; rw [upW_stop _ _ _ hn] at this; omega
        subst hu1
        clear HJ hb hn
        go_wp2_with (go_at_call 74; refine (HW.out _).mono ?_; rintro e w9 ⟨rfl, rfl⟩)
        go_ret
        exact ⟨ret_int (by omega), rfl⟩
    · have hu1 : u = x.size := by have := HJ.out; rw [upW_end _ _ _ (by omega)] at this; omega
      subst hu1
      have gl : decide ((j : Int) < (x.size : Int)) = false := decide_eq_false (by omega)
      have gl2 : decide (j < x.size) = false := decide_eq_false hlt
      clear HJ
      go_wp2
      go_ret
      exact ⟨ret_int (by omega), rfl⟩
end
section
open Go.ChangeShapes Go.WideShapes Go.ChangeAt Go.RowKit
attribute [local go_sem ↓] Go.wp_at_zero Go.wp_at_succ
set_option maxRecDepth 100000
set_option linter.unusedVariables false
set_option maxHeartbeats 4000000 in
theorem rstep1 (x : ByteArray) (k : Nat) (w : World) (hs : x.size ≤ 100000) (hk : k ≤ x.size) :
    Calls Tryz.prog 21 #[.string x, .int .i64 k, .int .i64 1] w fun e w' => e = .returned (.tuple #[.int .i64 ((dnP (ldP x.data.toList) k : Nat) : Int), .int .i64 0]) ∧ Below w.heap.size w w' := by
  have hxl : x.data.toList.length = x.size := rfl
  have hP := fun W => rplace_r x k W hs hk
  unfold PlR at hP
  have hbt := nBrk_take x.data.toList k
  have hbl := nBrk_le (x.data.toList.take k)
  have hbx := nBrk_le x.data.toList
  have hcol := colR_bd x.data.toList k
  have gk1 : decide ((k : Int) < 0) = false := decide_eq_false (by omega)
  have gk2 : decide ((x.size : Int) < (k : Int)) = false := decide_eq_false (by omega)
  have gk3 : decide (x.size < k) = false := decide_eq_false (by omega)
  have HC := hide (fun W => rleft_m x k W hs hk)
  generalize dnP (ldP x.data.toList) k = u at *
  generalize nBrk (x.data.toList.take k) = ln at *
  generalize colR x.data.toList k = col at *
  have HP := hide hP
  clear hP hbt hbl hbx hcol hxl
  go_enter Tryz.func21, Tryz.ntmps21
  go_wp2_with fail
  refine (HP.out _).mono ?_
  rintro e w1 ⟨rfl, hb1⟩
  go_wp2_with fail
  refine (HC.out _).mono ?_
  rintro e w2 ⟨rfl, hw2⟩
  subst hw2
  go_wp2
  go_ret2
  exact ⟨rfl, hb1⟩
set_option maxHeartbeats 4000000 in
theorem rstep2 (x : ByteArray) (k : Nat) (w : World) (hs : x.size ≤ 100000) (hk : k ≤ x.size) :
    Calls Tryz.prog 21 #[.string x, .int .i64 k, .int .i64 2] w fun e w' => e = .returned (.tuple #[.int .i64 ((rtM x.data.toList k : Nat) : Int), .int .i64 0]) ∧ Below w.heap.size w w' := by
  have hxl : x.data.toList.length = x.size := rfl
  have hP := fun W => rplace_r x k W hs hk
  unfold PlR at hP
  have hbt := nBrk_take x.data.toList k
  have hbl := nBrk_le (x.data.toList.take k)
  have hbx := nBrk_le x.data.toList
  have hcol := colR_bd x.data.toList k
  have gk1 : decide ((k : Int) < 0) = false := decide_eq_false (by omega)
  have gk2 : decide ((x.size : Int) < (k : Int)) = false := decide_eq_false (by omega)
  have gk3 : decide (x.size < k) = false := decide_eq_false (by omega)
  have HC := hide (fun W => rright_m x k W hs hk)
  generalize rtM x.data.toList k = u at *
  generalize nBrk (x.data.toList.take k) = ln at *
  generalize colR x.data.toList k = col at *
  have HP := hide hP
  clear hP hbt hbl hbx hcol hxl
  go_enter Tryz.func21, Tryz.ntmps21
  go_wp2_with fail
  refine (HP.out _).mono ?_
  rintro e w1 ⟨rfl, hb1⟩
  go_wp2_with fail
  refine (HC.out _).mono ?_
  rintro e w2 ⟨rfl, hw2⟩
  subst hw2
  go_wp2
  go_ret2
  exact ⟨rfl, hb1⟩
set_option maxHeartbeats 4000000 in
theorem rstep3 (x : ByteArray) (k : Nat) (w : World) (hs : x.size ≤ 100000) (hk : k ≤ x.size) :
    Calls Tryz.prog 21 #[.string x, .int .i64 k, .int .i64 3] w fun e w' => e = .returned (.tuple #[.int .i64 ((lnS x.data.toList (nBrk (x.data.toList.take k)) : Nat) : Int), .int .i64 0]) ∧ Below w.heap.size w w' := by
  have hxl : x.data.toList.length = x.size := rfl
  have hP := fun W => rplace_r x k W hs hk
  unfold PlR at hP
  have hbt := nBrk_take x.data.toList k
  have hbl := nBrk_le (x.data.toList.take k)
  have hbx := nBrk_le x.data.toList
  have hcol := colR_bd x.data.toList k
  have gk1 : decide ((k : Int) < 0) = false := decide_eq_false (by omega)
  have gk2 : decide ((x.size : Int) < (k : Int)) = false := decide_eq_false (by omega)
  have gk3 : decide (x.size < k) = false := decide_eq_false (by omega)
  have hln : lnC x.data.toList (nBrk (x.data.toList.take k)) = 0 := by unfold lnC; rw [if_pos (by omega)]
  have hC := fun W => rstart_any x (nBrk (x.data.toList.take k)) W hs
  rw [lnSv_in hln, hln] at hC
  have HC := hide hC
  generalize lnS x.data.toList (nBrk (x.data.toList.take k)) = u at *
  clear hC hln
  generalize nBrk (x.data.toList.take k) = ln at *
  generalize colR x.data.toList k = col at *
  have HP := hide hP
  clear hP hbt hbl hbx hcol hxl
  go_enter Tryz.func21, Tryz.ntmps21
  go_wp2_with fail
  refine (HP.out _).mono ?_
  rintro e w1 ⟨rfl, hb1⟩
  go_wp2_with fail
  refine (HC.out _).mono ?_
  rintro e w2 ⟨rfl, hb2⟩
  have hb1 := bl_trans hb1 hb2
  go_wp2
  go_ret2
  exact ⟨rfl, hb1⟩
set_option maxHeartbeats 4000000 in
theorem rstep4 (x : ByteArray) (k : Nat) (w : World) (hs : x.size ≤ 100000) (hk : k ≤ x.size) :
    Calls Tryz.prog 21 #[.string x, .int .i64 k, .int .i64 4] w fun e w' => e = .returned (.tuple #[.int .i64 ((lnE x.data.toList (nBrk (x.data.toList.take k)) : Nat) : Int), .int .i64 0]) ∧ Below w.heap.size w w' := by
  have hxl : x.data.toList.length = x.size := rfl
  have hP := fun W => rplace_r x k W hs hk
  unfold PlR at hP
  have hbt := nBrk_take x.data.toList k
  have hbl := nBrk_le (x.data.toList.take k)
  have hbx := nBrk_le x.data.toList
  have hcol := colR_bd x.data.toList k
  have gk1 : decide ((k : Int) < 0) = false := decide_eq_false (by omega)
  have gk2 : decide ((x.size : Int) < (k : Int)) = false := decide_eq_false (by omega)
  have gk3 : decide (x.size < k) = false := decide_eq_false (by omega)
  have hln : lnC x.data.toList (nBrk (x.data.toList.take k)) = 0 := by unfold lnC; rw [if_pos (by omega)]
  have hC := fun W => rend_any x (nBrk (x.data.toList.take k)) W hs
  rw [lnEv_in hln, hln] at hC
  have HC := hide hC
  generalize lnE x.data.toList (nBrk (x.data.toList.take k)) = u at *
  clear hC hln
  generalize nBrk (x.data.toList.take k) = ln at *
  generalize colR x.data.toList k = col at *
  have HP := hide hP
  clear hP hbt hbl hbx hcol hxl
  go_enter Tryz.func21, Tryz.ntmps21
  go_wp2_with fail
  refine (HP.out _).mono ?_
  rintro e w1 ⟨rfl, hb1⟩
  go_wp2_with fail
  refine (HC.out _).mono ?_
  rintro e w2 ⟨rfl, hb2⟩
  have hb1 := bl_trans hb1 hb2
  go_wp2
  go_ret2
  exact ⟨rfl, hb1⟩
set_option maxHeartbeats 4000000 in
theorem rstep5 (x : ByteArray) (k : Nat) (w : World) (hs : x.size ≤ 100000) (hk : k ≤ x.size) :
    Calls Tryz.prog 21 #[.string x, .int .i64 k, .int .i64 5] w fun e w' => e = .returned (.tuple #[.int .i64 ((if nBrk (x.data.toList.take k) = 0 then 0 else inLn x.data.toList (nBrk (x.data.toList.take k) - 1) (colR x.data.toList k) : Nat) : Int), .int .i64 0]) ∧ Below w.heap.size w w' := by
  have hxl : x.data.toList.length = x.size := rfl
  have hP := fun W => rplace_r x k W hs hk
  unfold PlR at hP
  have hbt := nBrk_take x.data.toList k
  have hbl := nBrk_le (x.data.toList.take k)
  have hbx := nBrk_le x.data.toList
  have hcol := colR_bd x.data.toList k
  have gk1 : decide ((k : Int) < 0) = false := decide_eq_false (by omega)
  have gk2 : decide ((x.size : Int) < (k : Int)) = false := decide_eq_false (by omega)
  have gk3 : decide (x.size < k) = false := decide_eq_false (by omega)
  obtain ⟨m, hm⟩ : ∃ m : Nat, nBrk (x.data.toList.take k) = m := ⟨(nBrk (x.data.toList.take k)).toNat, by omega⟩
  rw [hm] at hP hbt ⊢
  rcases m with _ | q
  · rw [if_pos (by rfl)]
    rw [show ((0 : Nat) : Int) = 0 from rfl] at hP ⊢
    have HP := hide hP
    clear hP hm hbt hbl hbx hcol hxl
    go_enter Tryz.func21, Tryz.ntmps21
    go_wp2_with fail
    refine (HP.out _).mono ?_
    rintro e w1 ⟨rfl, hb1⟩
    go_wp2
    go_ret2
    exact ⟨rfl, hb1⟩
  · rw [if_neg (by omega)]
    rw [show ((q + 1 : Nat) : Int) = (q : Int) + 1 from by omega] at hP hbt ⊢
    have ho := ofA_r x.data.toList (q : Int) (colR x.data.toList k) (by omega) (by omega) (by omega)
    have hO := fun W => roffset_any x q (colR x.data.toList k) 1 W hs (by omega)
    rw [ho.1, ho.2] at hO
    rw [show (q : Int) + 1 - 1 = (q : Int) by omega]
    generalize inLn x.data.toList (q : Int) (colR x.data.toList k) = u at *
    have hql : q + 1 ≤ 100000 := by omega
    have g2 : decide (0 < (q : Int) + 1) = true := decide_eq_true (by omega)
    have hw1 : (q : Int) + 1 + -1 = (q : Int) := by omega
    have hw2 : (q : Int) + 1 - 1 = (q : Int) := by omega
    generalize colR x.data.toList k = col at *
    have HP := hide hP
    have HO := hide hO
    clear hP hO ho hm hbt hbl hbx hcol hxl
    go_enter Tryz.func21, Tryz.ntmps21
    go_wp2_with fail
    refine (HP.out _).mono ?_
    rintro e w1 ⟨rfl, hb1⟩
    go_wp2_with fail
    (with_reducible refine (HO.out _).mono ?_)
    rintro e w2 ⟨rfl, hb2⟩
    have hb1 := bl_trans hb1 hb2
    go_wp2
    go_ret2
    exact ⟨rfl, hb1⟩
set_option maxHeartbeats 4000000 in
theorem rstep6 (x : ByteArray) (k : Nat) (w : World) (hs : x.size ≤ 100000) (hk : k ≤ x.size) :
    Calls Tryz.prog 21 #[.string x, .int .i64 k, .int .i64 6] w fun e w' => e = .returned (.tuple #[.int .i64 ((if nBrk (x.data.toList.take k) = nBrk x.data.toList then x.data.toList.length else inLn x.data.toList (nBrk (x.data.toList.take k) + 1) (colR x.data.toList k) : Nat) : Int), .int .i64 0]) ∧ Below w.heap.size w w' := by
  have hxl : x.data.toList.length = x.size := rfl
  have hP := fun W => rplace_r x k W hs hk
  unfold PlR at hP
  have hbt := nBrk_take x.data.toList k
  have hbl := nBrk_le (x.data.toList.take k)
  have hbx := nBrk_le x.data.toList
  have hcol := colR_bd x.data.toList k
  have gk1 : decide ((k : Int) < 0) = false := decide_eq_false (by omega)
  have gk2 : decide ((x.size : Int) < (k : Int)) = false := decide_eq_false (by omega)
  have gk3 : decide (x.size < k) = false := decide_eq_false (by omega)
  have hM := fun W => rmany_any x W hs
  obtain ⟨m, hm⟩ : ∃ m : Nat, nBrk (x.data.toList.take k) = m := ⟨(nBrk (x.data.toList.take k)).toNat, by omega⟩
  obtain ⟨n, hn⟩ : ∃ n : Nat, nBrk x.data.toList = n := ⟨(nBrk x.data.toList).toNat, by omega⟩
  rw [hm] at hP hbt ⊢
  rw [hn] at hM hbt ⊢
  have hmn : m ≤ n := by omega
  have hmb : n ≤ 100000 := by omega
  have hmc : m ≤ 100000 := by omega
  by_cases hmn2 : m = n
  · subst hmn2
    rw [if_pos rfl, hxl]
    have g1 : decide ((m : Int) + 1 < (m : Int) + 1) = false := decide_eq_false (by omega)
    generalize colR x.data.toList k = col at *
    have HP := hide hP
    have HM := hide hM
    clear hP hM hm hn hbt hbl hbx hcol hxl hmn
    go_enter Tryz.func21, Tryz.ntmps21
    go_wp2_with fail
    refine (HP.out _).mono ?_
    rintro e w1 ⟨rfl, hb1⟩
    go_wp2_with fail
    refine (HM.out _).mono ?_
    rintro e w2 ⟨rfl, hb2⟩
    have hb1 := bl_trans hb1 hb2
    go_wp2
    go_ret2
    exact ⟨rfl, hb1⟩
  · rw [if_neg (by omega)]
    have ho := ofA_r x.data.toList ((m : Int) + 1) (colR x.data.toList k) (by omega) (by omega) (by omega)
    have hO := fun W => roffset_any x ((m : Int) + 1) (colR x.data.toList k) 1 W hs (by omega)
    rw [ho.1, ho.2] at hO
    generalize inLn x.data.toList ((m : Int) + 1) (colR x.data.toList k) = u at *
    have g1 : decide ((m : Int) + 1 < (n : Int) + 1) = true := decide_eq_true (by omega)
    have g2 : decide ((m : Int) < (n : Int)) = true := decide_eq_true (by omega)
    have g3 : decide (m < n) = true := decide_eq_true (by omega)
    generalize colR x.data.toList k = col at *
    have HP := hide hP
    have HM := hide hM
    have HO := hide hO
    clear hP hM hO ho hm hn hbt hbl hbx hcol hxl hmn hmn2
    go_enter Tryz.func21, Tryz.ntmps21
    go_wp2_with fail
    refine (HP.out _).mono ?_
    rintro e w1 ⟨rfl, hb1⟩
    go_wp2_with fail
    refine (HM.out _).mono ?_
    rintro e w2 ⟨rfl, hb2⟩
    have hb1 := bl_trans hb1 hb2
    go_wp2_with fail
    (with_reducible refine (HO.out _).mono ?_)
    rintro e w3 ⟨rfl, hb3⟩
    have hb1 := bl_trans hb1 hb3
    go_wp2
    go_ret2
    exact ⟨rfl, hb1⟩
set_option maxHeartbeats 4000000 in
theorem rstep7 (x : ByteArray) (k : Nat) (w : World) (hs : x.size ≤ 100000) (hk : k ≤ x.size) :
    Calls Tryz.prog 21 #[.string x, .int .i64 k, .int .i64 7] w fun e w' => e = .returned (.tuple #[.int .i64 ((0 : Nat) : Int), .int .i64 0]) ∧ Below w.heap.size w w' := by
  have hxl : x.data.toList.length = x.size := rfl
  have hP := fun W => rplace_r x k W hs hk
  unfold PlR at hP
  have hbt := nBrk_take x.data.toList k
  have hbl := nBrk_le (x.data.toList.take k)
  have hbx := nBrk_le x.data.toList
  have hcol := colR_bd x.data.toList k
  have gk1 : decide ((k : Int) < 0) = false := decide_eq_false (by omega)
  have gk2 : decide ((x.size : Int) < (k : Int)) = false := decide_eq_false (by omega)
  have gk3 : decide (x.size < k) = false := decide_eq_false (by omega)
  generalize nBrk (x.data.toList.take k) = ln at *
  generalize colR x.data.toList k = col at *
  have HP := hide hP
  clear hP hbt hbl hbx hcol hxl
  go_enter Tryz.func21, Tryz.ntmps21
  go_wp2_with fail
  refine (HP.out _).mono ?_
  rintro e w1 ⟨rfl, hb1⟩
  go_wp2
  go_ret2
  exact ⟨rfl, hb1⟩
set_option maxHeartbeats 4000000 in
theorem rstep8 (x : ByteArray) (k : Nat) (w : World) (hs : x.size ≤ 100000) (hk : k ≤ x.size) :
    Calls Tryz.prog 21 #[.string x, .int .i64 k, .int .i64 8] w fun e w' => e = .returned (.tuple #[.int .i64 ((x.data.toList.length : Nat) : Int), .int .i64 0]) ∧ Below w.heap.size w w' := by
  have hxl : x.data.toList.length = x.size := rfl
  have hP := fun W => rplace_r x k W hs hk
  unfold PlR at hP
  have hbt := nBrk_take x.data.toList k
  have hbl := nBrk_le (x.data.toList.take k)
  have hbx := nBrk_le x.data.toList
  have hcol := colR_bd x.data.toList k
  have gk1 : decide ((k : Int) < 0) = false := decide_eq_false (by omega)
  have gk2 : decide ((x.size : Int) < (k : Int)) = false := decide_eq_false (by omega)
  have gk3 : decide (x.size < k) = false := decide_eq_false (by omega)
  rw [hxl]
  generalize nBrk (x.data.toList.take k) = ln at *
  generalize colR x.data.toList k = col at *
  have HP := hide hP
  clear hP hbt hbl hbx hcol hxl
  go_enter Tryz.func21, Tryz.ntmps21
  go_wp2_with fail
  refine (HP.out _).mono ?_
  rintro e w1 ⟨rfl, hb1⟩
  go_wp2
  go_ret2
  exact ⟨rfl, hb1⟩
set_option maxHeartbeats 4000000 in
theorem rstep9 (x : ByteArray) (k : Nat) (w : World) (hs : x.size ≤ 100000) (hk : k ≤ x.size) :
    Calls Tryz.prog 21 #[.string x, .int .i64 k, .int .i64 9] w fun e w' => e = .returned (.tuple #[.int .i64 ((wlM x.data.toList k : Nat) : Int), .int .i64 0]) ∧ Below w.heap.size w w' := by
  have hxl : x.data.toList.length = x.size := rfl
  have hP := fun W => rplace_r x k W hs hk
  unfold PlR at hP
  have hbt := nBrk_take x.data.toList k
  have hbl := nBrk_le (x.data.toList.take k)
  have hbx := nBrk_le x.data.toList
  have hcol := colR_bd x.data.toList k
  have gk1 : decide ((k : Int) < 0) = false := decide_eq_false (by omega)
  have gk2 : decide ((x.size : Int) < (k : Int)) = false := decide_eq_false (by omega)
  have gk3 : decide (x.size < k) = false := decide_eq_false (by omega)
  obtain ⟨u, hu⟩ : ∃ u, wlM x.data.toList k = u := ⟨_, rfl⟩
  rw [hu]
  have HU := hide hu
  clear hu
  generalize nBrk (x.data.toList.take k) = ln at *
  generalize colR x.data.toList k = col at *
  have HP := hide hP
  clear hP hbt hbl hbx hcol hxl
  go_enter Tryz.func21, Tryz.ntmps21
  go_wp2_with fail
  refine (HP.out _).mono ?_
  rintro e w1 ⟨rfl, hb1⟩
  go_wp2
  go_loopw [1] (fun v wr => ∃ j : Nat, v = .int .i64 j ∧ j ≤ k ∧ Hid (dnW (wdP x.data.toList) (dnW (nwP x.data.toList) j) = u) ∧ w1 = wr) (fun v _ => (intOf v).toNat)
  case atStart => exact ⟨k, rfl, Nat.le_refl _, HU, rfl⟩
  case round =>
    clear HU
    obtain ⟨j, rfl, hj, HJ, rfl⟩ := hrel
    rcases j with _ | m
    · have HJ0 : Hid (dnW (wdP x.data.toList) 0 = u) := HJ
      clear HJ
      rw [show ((0 : Nat) : Int) = 0 from rfl]
      go_wp2
      go_loopw [1] (fun v wr => ∃ j : Nat, v = .int .i64 j ∧ j ≤ k ∧ Hid (dnW (wdP x.data.toList) j = u) ∧ w1 = wr) (fun v _ => (intOf v).toNat)
      case atStart => exact ⟨0, rfl, by omega, HJ0, rfl⟩
      case round =>
        clear HJ0
        obtain ⟨j, rfl, hj, HJ, rfl⟩ := hrel
        rcases j with _ | m
        · have hu : u = 0 := HJ.out.symm
          subst hu
          clear HJ
          rw [show ((0 : Nat) : Int) = 0 from rfl]
          go_wp2
          go_ret2
          exact ⟨rfl, hb1⟩
        · have hmx : m < x.size := by omega
          have hq : wordC x[m] = wdP x.data.toList m := by rw [wd_s x m hmx]
          have gp : decide (0 < m + 1) = true := by simp
          have HW := hide (fun W => rword_m x[m] _ hq W)
          clear hq
          rcases hb : wdP x.data.toList m with _ | _
          · have hu := HJ.out
            rw [dnW_stop _ m hb] at hu
            rw [hb] at HW
            subst hu
            clear HJ hb
            go_wp2_with (go_at_call 47; refine (HW.out _).mono ?_; rintro e w9 ⟨rfl, rfl⟩)
            go_ret2
            exact ⟨rfl, hb1⟩
          · have HJ2 : Hid (dnW (wdP x.data.toList) m = u) := hide (by rw [← HJ.out, dnW_go _ m hb])
            rw [hb] at HW
            clear HJ hb
            go_wp2_with (go_at_call 47; refine (HW.out _).mono ?_; rintro e w9 ⟨rfl, rfl⟩)
            refine ⟨?_, by first | (simp [intOf]; done) | (simp [intOf]; omega)⟩
            exact ⟨m, by go_num, by omega, HJ2, by first | rfl | trivial⟩
    · have hmx : m < x.size := by omega
      have hq : wordC x[m] = wdP x.data.toList m := by rw [wd_s x m hmx]
      have hn := nw_s x m hmx
      have gp : decide (0 < m + 1) = true := by simp
      have HW := hide (fun W => rword_m x[m] _ hq W)
      clear hq
      rcases hb : wdP x.data.toList m with _ | _
      · rw [hb] at HW hn
        have HJ2 : Hid (dnW (wdP x.data.toList) (dnW (nwP x.data.toList) m) = u) := hide (by rw [← HJ.out, dnW_go _ m hn])
        clear HJ hb hn
        go_wp2_with (go_at_call 47; refine (HW.out _).mono ?_; rintro e w9 ⟨rfl, rfl⟩)
        refine ⟨?_, by first | (simp [intOf]; done) | (simp [intOf]; omega)⟩
        exact ⟨m, by go_num, by omega, HJ2, by first | rfl | trivial⟩
      · rw [hb] at HW hn
        have HJ0 : Hid (dnW (wdP x.data.toList) (m + 1) = u) := hide (by rw [← HJ.out, dnW_stop _ m hn])
        clear HJ hb hn
        go_wp2_with (go_at_call 47; refine (HW.out _).mono ?_; rintro e w9 ⟨rfl, rfl⟩)
        clear HW
        go_loopw [1] (fun v wr => ∃ j : Nat, v = .int .i64 j ∧ j ≤ k ∧ Hid (dnW (wdP x.data.toList) j = u) ∧ w1 = wr) (fun v _ => (intOf v).toNat)
        case atStart => exact ⟨m + 1, by go_num, by omega, HJ0, by first | rfl | trivial⟩
        case round =>
          clear HJ0
          obtain ⟨j, rfl, hj, HJ, rfl⟩ := hrel
          rcases j with _ | m
          · have hu : u = 0 := HJ.out.symm
            subst hu
            clear HJ
            rw [show ((0 : Nat) : Int) = 0 from rfl]
            go_wp2
            go_ret2
            exact ⟨rfl, hb1⟩
          · have hmx : m < x.size := by omega
            have hq : wordC x[m] = wdP x.data.toList m := by rw [wd_s x m hmx]
            have gp : decide (0 < m + 1) = true := by simp
            have HW := hide (fun W => rword_m x[m] _ hq W)
            clear hq
            rcases hb : wdP x.data.toList m with _ | _
            · have hu := HJ.out
              rw [dnW_stop _ m hb] at hu
              rw [hb] at HW
              subst hu
              clear HJ hb
              go_wp2_with (go_at_call 47; refine (HW.out _).mono ?_; rintro e w9 ⟨rfl, rfl⟩)
              go_ret2
              exact ⟨rfl, hb1⟩
            · have HJ2 : Hid (dnW (wdP x.data.toList) m = u) := hide (by rw [← HJ.out, dnW_go _ m hb])
              rw [hb] at HW
              clear HJ hb
              go_wp2_with (go_at_call 47; refine (HW.out _).mono ?_; rintro e w9 ⟨rfl, rfl⟩)
              refine ⟨?_, by first | (simp [intOf]; done) | (simp [intOf]; omega)⟩
              exact ⟨m, by go_num, by omega, HJ2, by first | rfl | trivial⟩
set_option maxHeartbeats 4000000 in
theorem rstep10 (x : ByteArray) (k : Nat) (w : World) (hs : x.size ≤ 100000) (hk : k ≤ x.size) :
    Calls Tryz.prog 21 #[.string x, .int .i64 k, .int .i64 10] w fun e w' => e = .returned (.tuple #[.int .i64 ((wrM x.data.toList k : Nat) : Int), .int .i64 0]) ∧ Below w.heap.size w w' := by
  have hxl : x.data.toList.length = x.size := rfl
  have hP := fun W => rplace_r x k W hs hk
  unfold PlR at hP
  have hbt := nBrk_take x.data.toList k
  have hbl := nBrk_le (x.data.toList.take k)
  have hbx := nBrk_le x.data.toList
  have hcol := colR_bd x.data.toList k
  have gk1 : decide ((k : Int) < 0) = false := decide_eq_false (by omega)
  have gk2 : decide ((x.size : Int) < (k : Int)) = false := decide_eq_false (by omega)
  have gk3 : decide (x.size < k) = false := decide_eq_false (by omega)
  obtain ⟨u, hu⟩ : ∃ u, wrM x.data.toList k = u := ⟨_, rfl⟩
  rw [hu]
  have HU := hide hu
  clear hu
  generalize nBrk (x.data.toList.take k) = ln at *
  generalize colR x.data.toList k = col at *
  have HP := hide hP
  clear hP hbt hbl hbx hcol hxl
  go_enter Tryz.func21, Tryz.ntmps21
  go_wp2_with fail
  refine (HP.out _).mono ?_
  rintro e w1 ⟨rfl, hb1⟩
  go_wp2
  go_loopw [1] (fun v wr => ∃ j : Nat, v = .int .i64 j ∧ j ≤ x.size ∧ Hid (upW (wdP x.data.toList) x.size (upW (nwP x.data.toList) x.size j) = u) ∧ w1 = wr) (fun v _ => x.size - (intOf v).toNat)
  case atStart => exact ⟨k, rfl, hk, HU, rfl⟩
  case round =>
    clear HU
    obtain ⟨j, rfl, hj, HJ, rfl⟩ := hrel
    by_cases hlt : j < x.size
    · have hq : wordC x[j] = wdP x.data.toList j := by rw [wd_s x j hlt]
      have hn := nw_s x j hlt
      have gl : decide ((j : Int) < (x.size : Int)) = true := decide_eq_true (by omega)
      have gl2 : decide (j < x.size) = true := decide_eq_true hlt
      have HW := hide (fun W => rword_m x[j] _ hq W)
      clear hq
      rcases hb : wdP x.data.toList j with _ | _
      · rw [hb] at HW hn
        have HJ2 : Hid (upW (wdP x.data.toList) x.size (upW (nwP x.data.toList) x.size (j + 1)) = u) := hide (by rw [← HJ.out, upW_go (nwP x.data.toList) _ _ hlt hn])
        clear HJ hb hn
        go_wp2_with (go_at_call 47; refine (HW.out _).mono ?_; rintro e w9 ⟨rfl, rfl⟩)
        refine ⟨?_, by first | (simp [intOf]; done) | (simp [intOf]; omega)⟩
        exact ⟨j + 1, by go_num, by omega, HJ2, by first | rfl | trivial⟩
      · rw [hb] at HW hn
        have HJ0 : Hid (upW (wdP x.data.toList) x.size j = u) := hide (by rw [← HJ.out, upW_stop (nwP x.data.toList) _ _ hn])
        clear HJ hb hn
        go_wp2_with (go_at_call 47; refine (HW.out _).mono ?_; rintro e w9 ⟨rfl, rfl⟩)
        clear HW gl gl2
        go_loopw [1] (fun v wr => ∃ j : Nat, v = .int .i64 j ∧ j ≤ x.size ∧ Hid (upW (wdP x.data.toList) x.size j = u) ∧ w1 = wr) (fun v _ => x.size - (intOf v).toNat)
        case atStart => exact ⟨j, rfl, hj, HJ0, by first | rfl | trivial⟩
        case round =>
          clear HJ0
          obtain ⟨j, rfl, hj, HJ, rfl⟩ := hrel
          by_cases hlt : j < x.size
          · have hq : wordC x[j] = wdP x.data.toList j := by rw [wd_s x j hlt]
            have gl : decide ((j : Int) < (x.size : Int)) = true := decide_eq_true (by omega)
            have gl2 : decide (j < x.size) = true := decide_eq_true hlt
            have HW := hide (fun W => rword_m x[j] _ hq W)
            clear hq
            rcases hb : wdP x.data.toList j with _ | _
            · have hu := HJ.out
              rw [upW_stop _ _ _ hb] at hu
              rw [hb] at HW
              subst hu
              clear HJ hb
              go_wp2_with (go_at_call 47; refine (HW.out _).mono ?_; rintro e w9 ⟨rfl, rfl⟩)
              go_ret2
              exact ⟨rfl, hb1⟩
            · have HJ2 : Hid (upW (wdP x.data.toList) x.size (j + 1) = u) := hide (by rw [← HJ.out, upW_go _ _ _ hlt hb])
              rw [hb] at HW
              clear HJ hb
              go_wp2_with (go_at_call 47; refine (HW.out _).mono ?_; rintro e w9 ⟨rfl, rfl⟩)
              refine ⟨?_, by first | (simp [intOf]; done) | (simp [intOf]; omega)⟩
              exact ⟨j + 1, by go_num, by omega, HJ2, by first | rfl | trivial⟩
          · have hu : u = j := by have := HJ.out; rw [upW_end _ _ _ (by omega)] at this; omega
            subst hu
            have gl : decide ((u : Int) < (x.size : Int)) = false := decide_eq_false (by omega)
            have gl2 : decide (u < x.size) = false := decide_eq_false hlt
            clear HJ
            go_wp2
            go_ret2
            exact ⟨rfl, hb1⟩
    · have HJ0 : Hid (upW (wdP x.data.toList) x.size j = u) := hide (by rw [← HJ.out, upW_end (nwP x.data.toList) _ _ (by omega)])
      have gl : decide ((j : Int) < (x.size : Int)) = false := decide_eq_false (by omega)
      have gl2 : decide (j < x.size) = false := decide_eq_false hlt
      clear HJ
      go_wp2
      clear gl gl2
      go_loopw [1] (fun v wr => ∃ j : Nat, v = .int .i64 j ∧ j ≤ x.size ∧ Hid (upW (wdP x.data.toList) x.size j = u) ∧ w1 = wr) (fun v _ => x.size - (intOf v).toNat)
      case atStart => exact ⟨j, rfl, hj, HJ0, by first | rfl | trivial⟩
      case round =>
        clear HJ0
        obtain ⟨j, rfl, hj, HJ, rfl⟩ := hrel
        by_cases hlt : j < x.size
        · have hq : wordC x[j] = wdP x.data.toList j := by rw [wd_s x j hlt]
          have gl : decide ((j : Int) < (x.size : Int)) = true := decide_eq_true (by omega)
          have gl2 : decide (j < x.size) = true := decide_eq_true hlt
          have HW := hide (fun W => rword_m x[j] _ hq W)
          clear hq
          rcases hb : wdP x.data.toList j with _ | _
          · have hu := HJ.out
            rw [upW_stop _ _ _ hb] at hu
            rw [hb] at HW
            subst hu
            clear HJ hb
            go_wp2_with (go_at_call 47; refine (HW.out _).mono ?_; rintro e w9 ⟨rfl, rfl⟩)
            go_ret2
            exact ⟨rfl, hb1⟩
          · have HJ2 : Hid (upW (wdP x.data.toList) x.size (j + 1) = u) := hide (by rw [← HJ.out, upW_go _ _ _ hlt hb])
            rw [hb] at HW
            clear HJ hb
            go_wp2_with (go_at_call 47; refine (HW.out _).mono ?_; rintro e w9 ⟨rfl, rfl⟩)
            refine ⟨?_, by first | (simp [intOf]; done) | (simp [intOf]; omega)⟩
            exact ⟨j + 1, by go_num, by omega, HJ2, by first | rfl | trivial⟩
        · have hu : u = j := by have := HJ.out; rw [upW_end _ _ _ (by omega)] at this; omega
          subst hu
          have gl : decide ((u : Int) < (x.size : Int)) = false := decide_eq_false (by omega)
          have gl2 : decide (u < x.size) = false := decide_eq_false hlt
          clear HJ
          go_wp2
          go_ret2
          exact ⟨rfl, hb1⟩
set_option maxHeartbeats 4000000 in
theorem rStep_m (x : ByteArray) (at_ way : Int) (w : World) (hs : x.size ≤ 100000) :
    Calls Tryz.prog 21 #[.string x, .int .i64 at_, .int .i64 way] w fun e w' => e = .returned (.tuple #[.int .i64 (stA x.data.toList at_ way), .int .i64 (stE x.data.toList at_ way)]) ∧ Below w.heap.size w w' := by
  have hxl : x.data.toList.length = x.size := rfl
  rcases stE_cases x.data.toList at_ way with ⟨he, hw, k, rfl, hk, ha⟩ | ⟨he, ha, hw, hr⟩ | ⟨he, ha, hw⟩
  · rw [ha, he]
    have hwy : 1 ≤ way ∧ way ≤ 10 := by
      rcases wyC_cases way with ⟨_, h1⟩ | ⟨h1, _⟩
      · exact h1
      · rw [h1] at hw; exact absurd hw (by decide)
    obtain ⟨e1, e2, e3, e4, e5, e6, e7, e8, e9, e10⟩ := sel_m x.data.toList k
    have hw : way = 1 ∨ way = 2 ∨ way = 3 ∨ way = 4 ∨ way = 5 ∨ way = 6 ∨ way = 7 ∨ way = 8 ∨ way = 9 ∨ way = 10 := by omega
    rcases hw with rfl | rfl | rfl | rfl | rfl | rfl | rfl | rfl | rfl | rfl
    · rw [e1]; exact rstep1 x k w hs hk
    · rw [e2]; exact rstep2 x k w hs hk
    · rw [e3]; exact rstep3 x k w hs hk
    · rw [e4]; exact rstep4 x k w hs hk
    · rw [e5]; exact rstep5 x k w hs hk
    · rw [e6]; exact rstep6 x k w hs hk
    · rw [e7]; exact rstep7 x k w hs hk
    · rw [e8]; exact rstep8 x k w hs hk
    · rw [e9]; exact rstep9 x k w hs hk
    · rw [e10]; exact rstep10 x k w hs hk
  · rw [ha, he]
    rw [hxl] at hr
    have hwy : 1 ≤ way ∧ way ≤ 10 := by
      rcases wyC_cases way with ⟨_, h1⟩ | ⟨h1, _⟩
      · exact h1
      · rw [h1] at hw; exact absurd hw (by decide)
    have g1 : decide (way < 1) = false := decide_eq_false (by omega)
    have g2 : decide (10 < way) = false := decide_eq_false (by omega)
    clear ha he hw hxl hwy
    by_cases h0 : at_ < 0
    · have g3 : decide (at_ < 0) = true := decide_eq_true h0
      clear hr
      go_enter Tryz.func21, Tryz.ntmps21
      go_wp2
      go_ret2
      exact ⟨rfl, bl_refl _⟩
    · have g3 : decide (at_ < 0) = false := decide_eq_false h0
      have g4 : decide ((x.size : Int) < at_) = true := decide_eq_true (by omega)
      clear hr
      go_enter Tryz.func21, Tryz.ntmps21
      go_wp2
      go_ret2
      exact ⟨rfl, bl_refl _⟩
  · rw [ha, he]
    have hwy : way < 1 ∨ 10 < way := by
      rcases wyC_cases way with ⟨h1, _⟩ | ⟨_, h1⟩
      · rw [h1] at hw; exact absurd hw (by decide)
      · exact h1
    clear ha he hw hxl
    by_cases h : way < 1
    · have g1 : decide (way < 1) = true := decide_eq_true h
      clear hwy
      go_enter Tryz.func21, Tryz.ntmps21
      go_wp2
      go_ret2
      exact ⟨rfl, bl_refl _⟩
    · have g1 : decide (way < 1) = false := decide_eq_false h
      have g2 : decide (10 < way) = true := decide_eq_true (by omega)
      clear hwy
      go_enter Tryz.func21, Tryz.ntmps21
      go_wp2
      go_ret2
      exact ⟨rfl, bl_refl _⟩
end
section
open Go.ChangeShapes Go.WideShapes Go.ChangeAt Go.RowKit
attribute [local go_sem ↓] Go.wp_at_zero Go.wp_at_succ
attribute [local go_sem] later_cell later_frozen
set_option maxRecDepth 100000
set_option linter.unusedVariables false
set_option maxHeartbeats 4000000 in
theorem of9_b (x : ByteArray) (w : World) (hs : x.size ≤ 60000) : Calls Tryz.prog 5 #[.string x] w (OfPB w x) := by
  have hb0 : Below w.heap.size w (w.alloc (.cells #[.pointer none] 27)) := bl_alloc (bl_refl w) _
  have hD := rst_dnew (rst_start (w.alloc (.cells #[.pointer none] 27))) [4, 1] #[.int .u32 4, .int .u32 1] rfl (by decide) (by decide) 2 rfl
  rw [show (w.alloc (.cells #[.pointer none] 27)).heap.size = w.heap.size + 1 from by simp] at hD
  have HD := hide hD
  clear hD
  have hh0 := heap_alloc_new w (.cells #[.pointer none] 27)
  have hlt0 : w.heap.size < (w.alloc (.cells #[.pointer none] 27)).heap.size := by simp
  go_enter Tryz.func5, Tryz.ntmps5
  go_wp2_with fail
  refine HD.out.mono ?_
  rintro e w1 ⟨d, g, rfl, hR, _⟩
  have HN := hide (rst_new1 hR (d := d) (g := g) (by simp) x (by omega))
  clear hR HD
  go_wp2_with fail
  refine HN.out.mono ?_
  rintro e w2 ⟨r, t, rfl, _, htx, hR⟩
  have hne : w.heap.size ∉ RR [(d, g)] [(r, d, t)] := fun hm => by have := (hR.rsv _ hm).1; simp at this; omega
  have hoff : w.heap.size ∉ bks (trs [(r, d, t)]) := fun hm => by have := hR.src _ hm; simp at this; omega
  have hh2 : w2.heap[w.heap.size]? = some (.cells #[.pointer none] 27) := (hR.bel.block _ hlt0).trans hh0
  have HR := hide (hR.base hb0)
  have HT := hide htx
  have HNE := hide hne
  have HOF := hide hoff
  clear hR htx HN hne hoff hb0 hh0 hlt0
  go_wp2_with fail
  refine (lnOf_any _ ⟨_, rfl⟩ _).mono ?_
  rintro e w3 ⟨rfl, hb3⟩
  have hh3 := heap_later hb3 hh2
  have HR := hide (HR.out.bl hb3)
  have hc3 : w3.cell? ⟨w.heap.size, 0, none⟩ = some (.pointer none) := by rw [Lib.cell_of_heap hh3]; rfl
  have hf3 : w3.frozen? ⟨w.heap.size, 0, none⟩ = false := by simp [World.frozen?, hh3]
  clear hh2 hh3 hb3
  go_wp2
  have hR2 := HR.out.setO (Nat.le_refl _) HNE.out HOF.out 0 (.pointer (some ⟨r, 0, none⟩))
  refine bodyPost_ret (v := .tuple #[.agg #[.pointer (some ⟨r, 0, none⟩)], .bool true]) (by simp [results, Tryz.results5, go_sem, hc3]) rfl ⟨r, rfl, rst_ln hR2 (d := d) (t := t) (by simp) HT.out, hR2.bel, fun B o u hB => rst_ln (hR2.setOld hB o u) (d := d) (t := t) (by simp) HT.out⟩
end
section
open Go.ChangeShapes Go.WideShapes Go.ChangeAt Go.RowKit
open SpanM
attribute [local go_sem ↓] Go.wp_at_zero Go.wp_at_succ
set_option maxRecDepth 100000
set_option linter.unusedVariables false
/-- The stretch of a selection. -/
def ky (s : Sp) : Sp := (min s.1 s.2, max s.1 s.2)
theorem selres_cell1 {fn : Func} {p : Tmp} {ty : TypeId} (h : fn.results = #[.cell p ty]) (tmps : Array Value) (P : Program) (w : World) :
    (results fn tmps).run P w = ((asAddr (tmps.getD p undef)).run P w).andThen fun a w₁ => (loadVar ty a).run P w₁ := by
  simp only [results, h]
  simp [Sem.run_bind, Result.andThen]
def selO (a1 a2 : Int) : Obj := .cells #[.int .i64 a1, .int .i64 a2] 33
def spO (a1 a2 : Int) : Obj := .cells #[.int .i64 a1, .int .i64 a2] 56
set_option maxHeartbeats 2000000 in
theorem span_s (a1 a2 : Int) (k1 k2 : Int) (h1 : min a1 a2 = k1) (h2 : max a1 a2 = k2) (w : World) : Calls Tryz.prog 26 #[.agg #[.int .i64 a1, .int .i64 a2]] w fun e w' => e = .returned (.agg #[.int .i64 k1, .int .i64 k2]) ∧ w' = (w.alloc (.cells #[.int .i64 a1, .int .i64 a2] 33)).alloc (.cells #[.int .i64 k1, .int .i64 k2] 56) := by
  subst h1 h2
  rcases Int.lt_trichotomy a1 a2 with h | h | h
  · have e1 : min a1 a2 = a1 := by omega
    have e2 : max a1 a2 = a2 := by omega
    rw [e1, e2]
    have g1 : a1 ≤ a2 := by omega
    have g2 : ¬ a2 < a1 := by omega
    have g3 : ¬ a2 ≤ a1 := by omega
    go_enter Tryz.func26, Tryz.ntmps26
    go_wp2
    refine bodyPost_ret (v := .agg #[.int .i64 a1, .int .i64 a2]) ?_ rfl ⟨rfl, rfl⟩
    rw [selres_cell1 rfl]
    go_simp
  · subst h
    have e1 : min a1 a1 = a1 := by omega
    have e2 : max a1 a1 = a1 := by omega
    rw [e1, e2]
    have g2 : ¬ a1 < a1 := by omega
    go_enter Tryz.func26, Tryz.ntmps26
    go_wp2
    refine bodyPost_ret (v := .agg #[.int .i64 a1, .int .i64 a1]) ?_ rfl ⟨rfl, rfl⟩
    rw [selres_cell1 rfl]
    go_simp
  · have e1 : min a1 a2 = a2 := by omega
    have e2 : max a1 a2 = a1 := by omega
    rw [e1, e2]
    have g1 : a2 ≤ a1 := by omega
    have g2 : ¬ a1 < a2 := by omega
    have g3 : ¬ a1 ≤ a2 := by omega
    go_enter Tryz.func26, Tryz.ntmps26
    go_wp2
    refine bodyPost_ret (v := .agg #[.int .i64 a2, .int .i64 a1]) ?_ rfl ⟨rfl, rfl⟩
    rw [selres_cell1 rfl]
    go_simp
theorem grw_of {w w' : World} (hb : Below w.heap.size w w') (hd : w.drawn ≤ w'.drawn) : ∃ q os', w' = Go.Sort.grow (w.drewN q) os' := by
  refine ⟨w'.drawn - w.drawn, (w'.heap.toList.drop w.heap.size).toArray, ?_⟩
  obtain ⟨h1, h2, h3, h4, h5⟩ := hb
  obtain ⟨hp, tp, dr, os, ou⟩ := w
  obtain ⟨hp', tp', dr', os', ou'⟩ := w'
  simp only at h1 h2 h3 h4 h5 hd
  subst h1 h2 h3
  unfold Go.Sort.grow World.drewN
  simp only
  congr 1
  · apply Array.ext_getElem?
    intro k
    rw [Array.getElem?_append]
    by_cases hk : k < hp.size
    · rw [if_pos hk]; exact h5 k hk
    · rw [if_neg hk]
      simp [List.getElem?_drop, show hp.size + (k - hp.size) = k by omega]
  · omega
end
section
open Go.ChangeShapes Go.WideShapes Go.ChangeAt Go.RowKit
open SpanM
attribute [local go_sem ↓] Go.wp_at_zero Go.wp_at_succ
set_option maxRecDepth 100000
set_option linter.unusedVariables false
theorem info_sl : (Tryz.prog.info? 33).map (fun i => (i.zero, i.size, i.bytes)) = some (some (.agg #[.int .i64 0, .int .i64 0]), 2, 16) := by kernel_rfl
theorem own_spatL {w : World} {base : Nat} {v : Value} {l : List Sp} (h : w.ownsRow base 33 2 v l.length (flat l)) : SpAt w v l := by
  rcases own_form h with ⟨rfl, h1, h2⟩ | ⟨g, c, rfl, h1, h2, h3, h4, h5⟩
  · exact .inl ⟨rfl, List.eq_nil_of_length_eq_zero h1⟩
  · refine .inr ⟨_, c, rfl, h3, h4, fun i hi => ?_⟩
    rw [addr_add, addr_add]
    simp only [Nat.zero_add]
    exact ⟨h5 _ _ (flat_at l i hi).1, h5 _ _ (flat_at l i hi).2⟩
set_option maxRecDepth 100000 in
set_option maxHeartbeats 1000000 in
theorem cloneL_any (v : Value) (l : List Sp) (w : World) (h : SpAt w v l) (hl : l.length ≤ 1000) :
    Calls Tryz.prog 28 #[v] w fun e w' => ∃ v', e = .returned v' ∧ Below w.heap.size w w' ∧ w'.ownsRow w.heap.size 33 2 v' l.length (flat l) := by
  obtain ⟨i0, hi0, hz0', hz1, hz2⟩ := info_parts info_sl
  have hsn := fun (W : World) (a : Option Addr) (n c : Nat) => Lib.run_eql_slice_nil (P := Tryz.prog) W 22 33 a n c 0 0 Tryz.underlying22
  rcases h with ⟨rfl, rfl⟩ | ⟨x, c, rfl, h1, h2, h3⟩
  · go_enter Tryz.func28, Tryz.ntmps28
    go_wp2
    go_ret
    exact ⟨_, rfl, bl_refl w, ⟨rfl, .inl ⟨rfl, rfl⟩⟩⟩
  · have hm0 := World.ownsRow_made (base := w.heap.size) (e := 33) (size := 2) w #[] 0 (Nat.le_refl _) (by simp [maxLen]) (by simp)
    have hnews : ∀ j u, (flat l)[j]? = some u → (w.alloc (.cells #[] 33)).cell? (x.add j) = some u := by
      intro j u hu
      have hj : j < l.length * 2 := by
        have := (List.getElem?_eq_some_iff.1 hu).1
        rwa [flat_len] at this
      have hq : j / 2 < l.length := by omega
      have hf := flat_at l (j / 2) hq
      have hc := h3 (j / 2) hq
      rcases Nat.mod_two_eq_zero_or_one j with hh | hh
      · have ht : j / 2 * 2 = j := by omega
        rw [ht] at hf hc
        rw [hu] at hf
        rw [Option.some.inj hf.1]
        exact cell_later (bl_alloc (bl_refl w) _) hc.1
      · have ht : j / 2 * 2 + 1 = j := by omega
        rw [ht] at hf hc
        rw [hu] at hf
        rw [Option.some.inj hf.2]
        exact cell_later (bl_alloc (bl_refl w) _) hc.2
    have hbb : (l.length) * 16 ≤ 140737488355328 := by omega
    clear h3
    go_enter Tryz.func28, Tryz.ntmps28
    go_wp2_with (at_builtin; (refine wpList_append_own _ rfl _ _ 22 rfl w.heap.size 33 i0 (.agg #[.int .i64 0, .int .i64 0]) 2 16 Tryz.underlying22 hi0 hz0' hz1 hz2 rfl (by decide) _ 0 [] rfl hm0 x l.length c (flat l) rfl (flat_len l) hnews (flat_one l) (by unfold maxLen; omega) (by omega) (by simp) ?_); intro v' w4 hv4 hg4 hat)
    go_ret
    rw [Nat.zero_add, List.nil_append] at hv4
    exact ⟨_, rfl, bl_own (bl_alloc (bl_refl w) _) hm0 hg4 (Nat.le_refl _), hv4⟩
section
variable {P : Program}
/-- append(own[:k], one element of two cells), where there is room: in place. -/
theorem wpList_inplace {ops : Array Oper} {rest : List Oper} {o : Oper} {a : Act} {Q : Exit → Act → World → Prop} (w0 : World) (hgd : o.guard = none) (s x : Operand) (t : TypeId)
    (ho : o.op = .call { callee := .builtin .append, args := #[s, x], argTypes := #[t, t] })
    (base : Nat) (e : TypeId) (i : TypeInfo) (ht : P.underlying t = some (.slice e)) (hi : P.info? e = some i) (hsize : i.size = 2)
    (g n c k : Nat) (xs : List Value) (hs : a.eval s = .slice (some ⟨g, 0, none⟩) k c) (hown : w0.ownsRow base e 2 (.slice (some ⟨g, 0, none⟩) n c) n xs) (hk : k < n) (hnc : n ≤ c)
    (u1 u2 : Value) (h1 : u1.oneCell' = true) (h2 : u2.oneCell' = true) (hx : a.eval x = .slice (some ⟨w0.heap.size, 0, none⟩) 1 1)
    (h : ∀ w', w'.ownsRow base e 2 (.slice (some ⟨g, 0, none⟩) n c) n ((xs.set (k * 2) u1).set (k * 2 + 1) u2) → w0.grownBy w' (some g) → wpList P ops Q rest (a.put o.dst (.slice (some ⟨g, 0, none⟩) (k + 1) c)) w') :
    wpList P ops Q (o :: rest) a (w0.alloc (.cells #[u1, u2] e)) := by
  have hown2 := hown.alloc (.cells #[u1, u2] e)
  have hc : ∀ j, j < n * 2 → ((w0.alloc (.cells #[u1, u2] e)).cell? ⟨g, j, none⟩).isSome = true := fun j hj => by
    rw [World.ownsRow.cellAt hown2 j hj]
    have : j < xs.length := by rw [hown2.1]; exact hj
    simp [this]
  have hr := run_append_room_cells (P := P) (w0.alloc (.cells #[u1, u2] e)) t o.type e i ht hi g 0 k c ⟨w0.heap.size, 0, none⟩ 1 1 [u1, u2] (by rw [hsize]; rfl)
    (fun j u hu => cells_lit w0 #[u1, u2] e j u hu) (by simp [h1, h2]) (by omega)
    (fun j hj => by rw [hsize]; exact hc _ (by simp at hj; omega)) (fun j hj => World.ownsRow.frozenAt hown2 _)
  rw [hsize, Nat.zero_add] at hr
  have s1 := World.ownsRow.stored hown2 (k * 2) u1
  have s2 := World.ownsRow.stored s1.1 (k * 2 + 1) u2
  refine wpList_plain hgd fun K hK => ?_
  unfold Oper.wp execOp
  simp only [ho, resolve, invoke, builtin, Sem.run_bind, Sem.run_pure, Result.andThen_ok, List.map_toArray, List.map_cons, List.map_nil, hs, hx, hr]
  refine hK _ _ (h _ s2.1 ?_)
  have g1 := s1.2
  have g2 := s2.2
  exact ⟨g2.os.trans g1.os, g2.tape.trans g1.tape, g2.output.trans g1.output, Nat.le_trans (by simp) (Nat.le_trans g1.size g2.size), fun q hq hne =>
    ((g2.block q (Nat.lt_of_lt_of_le (by simp; omega) g1.size) hne).trans (g1.block q (by simp; omega) hne)).trans (Below.heap_alloc w0 _ q hq)⟩
end
/-- The front of an own slice is one. -/
theorem own_front {w : World} {base : Nat} {e : TypeId} {size g n c m : Nat} {xs ys : List Value} (h : w.ownsRow base e size (.slice (some ⟨g, 0, none⟩) n c) n xs) (hm : m ≤ n) (hy : xs.take (m * size) = ys) :
    w.ownsRow base e size (.slice (some ⟨g, 0, none⟩) m c) m ys := by
  rcases h.2 with ⟨h0, _⟩ | ⟨g', c', cur, hv, hb, hh, h1, h2, h3, h4⟩
  · cases h0
  cases hv
  have hms : m * size ≤ n * size := Nat.mul_le_mul_right _ hm
  refine ⟨by rw [← hy, List.length_take, h.1]; omega, .inr ⟨g, c, cur, rfl, hb, hh, by omega, h2, h3, ?_⟩⟩
  rw [← hy, ← h4, List.take_take, Nat.min_eq_left hms]
theorem ins1 (v : Value) (fv : Value) (w : World) (hv : ∃ a c, v = .slice a 1 c) : Calls Tryz.prog 96 #[v, .int .i64 0, .int .i64 1, fv] w fun e w' => e = .returned (.tuple #[]) ∧ w = w' := by
  obtain ⟨a, c, rfl⟩ := hv
  go_enter Tryz.func96, Tryz.ntmps96
  go_wp2
  refine wp_loop_rounds 1 ?_
  rw [rounds_succ]
  go_wp2
  go_end0
  exact ⟨rfl, rfl⟩
set_option maxHeartbeats 2000000 in
theorem stable1 (v : Value) (fv : Value) (w : World) (hv : ∃ a c, v = .slice a 1 c) : Calls Tryz.prog 82 #[v, .int .i64 1, fv] w fun e w' => e = .returned (.tuple #[]) ∧ w = w' := by
  obtain ⟨a, c, rfl⟩ := hv
  go_enter Tryz.func82, Tryz.ntmps82
  go_wp2
  refine wp_loop_rounds 1 ?_
  rw [rounds_succ]
  go_wp2_with (go_at_call 96; refine (ins1 _ _ _ ⟨_, _, rfl⟩).mono ?_; rintro e w' ⟨rfl, rfl⟩)
  refine wp_loop_rounds 1 ?_
  rw [rounds_succ]
  go_wp2
  go_end0
  exact ⟨rfl, rfl⟩
set_option maxHeartbeats 2000000 in
theorem sstable1 (v : Value) (fv : Value) (w : World) (hv : ∃ a c, v = .slice a 1 c) : Calls Tryz.prog 53 #[v, fv] w fun e w' => e = .returned (.tuple #[]) ∧ w = w' := by
  obtain ⟨a, c, rfl⟩ := hv
  go_enter Tryz.func53, Tryz.ntmps53
  go_wp2_with (go_at_call 82; refine (stable1 _ _ _ ⟨_, _, rfl⟩).mono ?_; rintro e w' ⟨rfl, rfl⟩)
  go_end0
  exact ⟨rfl, rfl⟩
theorem flat_set (l : List Sp) (i : Nat) (h : i < l.length) (s : Sp) : ((flat l).set (i * 2) (.int .i64 s.1)).set (i * 2 + 1) (.int .i64 s.2) = flat (l.set i s) := by
  induction l generalizing i with
  | nil => simp at h
  | cons a r ih =>
    cases i with
    | zero => rfl
    | succ i =>
      have e : ∀ (b : Sp) (q : List Sp), flat (b :: q) = .int .i64 b.1 :: .int .i64 b.2 :: flat q := fun _ _ => rfl
      have h1 : (i + 1) * 2 = i * 2 + 1 + 1 := by omega
      rw [e, h1, List.set_cons_succ, List.set_cons_succ, List.set_cons_succ, List.set_cons_succ, ih i (by simpa using h), List.set_cons_succ, e]
def OneSel (base : Nat) (s : Sp) (w : World) (e : Ending) (w' : World) : Prop := ∃ v', e = .returned v' ∧ Below base w w' ∧ w'.ownsRow base 33 2 v' 1 (flat [s])
set_option maxHeartbeats 4000000 in
theorem merge1 (v : Value) (base : Nat) (s : Sp) (w : World) (h : w.ownsRow base 33 2 v 1 (flat [s])) :
    Calls Tryz.prog 27 #[v] w (OneSel base s w) := by
  obtain ⟨s1, s2⟩ := s
  obtain ⟨i0, hi0, hz0', hz1, hz2⟩ := info_parts info_sl
  rcases own_form h with ⟨rfl, h1, h2⟩ | ⟨g, c, rfl, h1, h2, h3, h4, h5⟩
  · cases h1
  · have x1 : w.cell? ⟨g, 0, none⟩ = some (.int .i64 s1) := by rw [World.ownsRow.cellAt h 0 (by omega)]; rfl
    have x2 : w.cell? ⟨g, 1, none⟩ = some (.int .i64 s2) := by rw [World.ownsRow.cellAt h 1 (by omega)]; rfl
    have hd : decide ((0 : Int) ≤ -1) = false := by decide
    have HV2 := hide (h.alloc (.cells #[.int .i64 s1, .int .i64 s2] 33))
    have hset := flat_set [(s1, s2)] 0 (by simp) (s1, s2)
    rw [Nat.zero_mul, Nat.zero_add] at hset
    have HSET := hide hset
    clear hset
    go_enter Tryz.func27, Tryz.ntmps27
    go_wp2_with (go_at_call 53; refine (sstable1 _ _ _ ⟨_, _, rfl⟩).mono ?_; rintro e w' ⟨rfl, rfl⟩)
    refine wp_loop_rounds 2 ?_
    rw [rounds_succ]
    go_wp2
    go_quiet (fail)
    go_wp2_with (at_builtin; (refine wpList_inplace ((w.alloc (.cells #[.int .i64 s1, .int .i64 s2] 33)).drewN nq) rfl _ _ 22 rfl base 33 i0 Tryz.underlying22 hi0 hz1 g 1 c 0 (flat [(s1, s2)]) rfl HV2.out (by omega) h3 (.int .i64 s1) (.int .i64 s2) rfl rfl (by show Value.slice (some ⟨w.heap.size + 1, 0, none⟩) 1 1 = _; simp) ?_); intro w4 hv4 hg4)
    have hb4 : Below base w w4 := by
      have hb0 : Below base w ((w.alloc (.cells #[.int .i64 s1, .int .i64 s2] 33)).drewN nq) := ⟨rfl, rfl, rfl, by simp, fun k hk => Below.heap_alloc w _ k (by omega)⟩
      refine hb0.trans ⟨hg4.os, hg4.tape, hg4.output, hg4.size, fun k hk => hg4.block k (by simp; omega) (fun hc => by cases hc; omega)⟩
    rw [rounds_succ]
    go_wp2
    go_ret
    refine ⟨_, rfl, hb4, ?_⟩
    rw [Nat.zero_mul, Nat.zero_add] at hv4
    rw [HSET.out] at hv4
    exact hv4
theorem mayS (a : Sp) (n : Int) (r : Bool) (w : World) (hr : mayB a n = r) : Calls Tryz.prog 25 #[.agg #[.int .i64 a.1, .int .i64 a.2], .int .i64 n] w fun e w' => e = .returned (.bool r) ∧ Below w.heap.size w w' := by subst hr; exact may_any a n w
/-- One selection that lies in the text is itself. -/
def One8 (s : Sp) (w : World) (e : Ending) (w' : World) : Prop := ∃ v', e = .returned (.tuple #[v', .int .i64 0]) ∧ Below w.heap.size w w' ∧ w'.ownsRow w.heap.size 33 2 v' 1 (flat [s])
set_option maxHeartbeats 4000000 in
theorem norm1 (v : Value) (s : Sp) (n : Int) (w : World) (h : SpAt w v [s]) (hm : mayB (ky s) n = true) :
    Calls Tryz.prog 15 #[.int .i64 n, v] w (One8 s w) := by
  obtain ⟨s1, s2⟩ := s
  obtain ⟨k, hk⟩ : ∃ k, ky (s1, s2) = k := ⟨_, rfl⟩
  have HA := hide (fun W => span_s s1 s2 k.1 k.2 (by rw [← hk]; rfl) (by rw [← hk]; rfl) W)
  rw [hk] at hm
  have HM := hide hm
  clear hk hm
  have H := hide h
  obtain ⟨x, o, c, rfl, hc1, hm1, hlb1, hcell⟩ := spat_some h (by simp)
  have y := hcell 0 (by simp)
  rw [Nat.zero_mul, Nat.add_zero] at y
  obtain ⟨y1, y2⟩ := y
  simp only [List.getElem_cons_zero] at y1 y2
  clear hcell h
  simp only [List.length_cons, List.length_nil] at *
  go_enter Tryz.func15, Tryz.ntmps15
  go_wp2
  refine wp_loop_rounds 2 ?_
  rw [rounds_succ]
  go_wp2_with fail
  refine (HA.out _).mono ?_
  rintro e w1 ⟨rfl, rfl⟩
  go_wp2_with fail
  refine (mayS k n true _ HM.out).mono ?_
  rintro e w2 ⟨rfl, hb2⟩
  have hb3 : Below w.heap.size w w2 := bl_trans (bl_alloc (bl_alloc (bl_alloc (bl_refl w) _) _) _) hb2
  have H2 := hide (spat_below H.out hb3)
  clear hb2
  go_wp2_with fail
  rw [rounds_succ]
  go_wp2_with fail
  refine (cloneL_any _ [(s1, s2)] _ H2.out (by simp)).mono ?_
  rintro e w3 ⟨v3, rfl, hb4, ho3⟩
  have hsz := Nat.le_trans hb3.size (Nat.le_refl w2.heap.size)
  have ho4 := own_base ho3 hsz
  have hb5 := bl_trans hb3 hb4
  clear hb4 ho3
  go_wp2_with fail
  refine (merge1 _ w.heap.size (s1, s2) _ ho4).mono ?_
  rintro e w4 ⟨v4, rfl, hb6, ho5⟩
  have hb7 : Below w.heap.size w w4 := hb5.trans hb6
  go_wp2
  go_ret2
  exact ⟨_, rfl, hb7, ho5⟩
end
section
open Go.ChangeShapes Go.WideShapes Go.ChangeAt Go.RowKit
open SpanM
attribute [local go_sem ↓] Go.wp_at_zero Go.wp_at_succ
set_option maxRecDepth 100000
set_option linter.unusedVariables false
theorem cell_set_ne {w : World} {B g o : Nat} {u v : Value} (h : B ≠ g) (hc : w.cell? ⟨B, 0, none⟩ = some v) : (w.setCell ⟨g, o, none⟩ u).cell? ⟨B, 0, none⟩ = some v := by
  unfold World.cell? at hc ⊢
  rw [Below.heap_setCell _ _ _ _ h]; exact hc
set_option maxHeartbeats 4000000 in
theorem go1 {w : World} {r : Nat} {x : ByteArray} (h : LnAt w r x) (hs : x.size ≤ 100000) (v : Value) (a k : Nat) (ha : a ≤ x.size) (hk : k ≤ x.size) (way : Int) (h1 : 1 ≤ way) (h10 : way ≤ 10) (hv : SpAt w v [((a : Int), (k : Int))]) :
    Calls Tryz.prog 7 #[.agg #[.pointer (some ⟨r, 0, none⟩)], .int .i64 way, .bool true, v] w (One8 ((a : Int), ((stepM x.data.toList k way : Nat) : Int)) w) := by
  have c0 := ln_c0 w r
  have hb0 := ln_b0 w r
  have hwy : wyC way = 0 := by unfold wyC; rw [if_pos ⟨h1, h10⟩]
  have hY := fun W => may9_m r way W
  rw [hwy] at hY
  have HY := hide hY
  have HL := hide (fun W (hb : Below w.heap.size w W) => ln_len (h.bl hb))
  have HS := hide (fun W (hb : Below w.heap.size w W) => step_m (h.bl hb) hs k hk way h1 h10)
  have hle := stepM_le x.data.toList k way hk
  have hle2 : stepM x.data.toList k way ≤ x.size := hle
  generalize stepM x.data.toList k way = u at *
  have HN1 := hide (fun W v (hv : SpAt W v [((a : Int), (k : Int))]) => norm1 v ((a : Int), (k : Int)) x.size W hv (by unfold mayB ky; simp; omega))
  have HN2 := hide (fun W v (hv : SpAt W v [((a : Int), (u : Int))]) => norm1 v ((a : Int), (u : Int)) x.size W hv (by unfold mayB ky; simp; omega))
  have HV := hide hv
  obtain ⟨vA, vc, rfl⟩ := spat_len hv
  clear hv hY hwy h1 h10 hle h
  go_enter Tryz.func7, Tryz.ntmps7
  go_wp2_with fail
  refine (HY.out _).mono ?_
  rintro e w1 ⟨rfl, hb1⟩
  have c0 := cell_later hb1 c0
  have hb1 := bl_trans hb0 hb1
  go_wp2_with fail
  refine (HL.out _ hb1).mono ?_
  rintro e w2 ⟨rfl, hw2⟩
  subst hw2
  have HV1 := hide (spat_below HV.out hb1)
  have hltw := World.block_lt_of_cell? _ _ c0
  go_wp2_with fail
  refine (HN1.out _ _ HV1.out).mono ?_
  rintro e w3 ⟨v3, rfl, hb3, ho3⟩
  have c0 := cell_later hb3 c0
  have hb4 := bl_trans hb1 hb3
  rcases own_form ho3 with ⟨rfl, g1, g2⟩ | ⟨g, c, rfl, g1, g2, g3, g4, g5⟩
  · cases g1
  · have x1 : w3.cell? ⟨g, 0, none⟩ = some (.int .i64 a) := by rw [World.ownsRow.cellAt ho3 0 (by omega)]; rfl
    have x2 : w3.cell? ⟨g, 1, none⟩ = some (.int .i64 k) := by rw [World.ownsRow.cellAt ho3 1 (by omega)]; rfl
    have hne : w.heap.size ≠ g := by omega
    have hgw : w.heap.size ≤ g := by omega
    have HO := hide (own_base ho3 (Nat.le_trans hb1.size (Nat.le_refl _)))
    have hbx := bl_trans hb4 (bl_alloc (bl_refl w3) (.cells #[.int .i64 a, .int .i64 k] 33))
    have ho6 := HO.out.alloc (.cells #[.int .i64 a, .int .i64 k] 33)
    have c6 := cell_later (bl_alloc (bl_refl w3) (.cells #[.int .i64 a, .int .i64 k] 33)) c0
    clear ho3 hb3 g5 HN1 HV HV1 hltw
    go_wp2
    refine wp_loop_rounds 2 ?_
    rw [rounds_succ]
    go_wp2_with fail
    refine (HS.out _ hbx).mono ?_
    rintro e w5 ⟨rfl, hb5⟩
    have hb6 := bl_trans hbx hb5
    have ho7 := own_below ho6 hb5
    have c7 := cell_later hb5 c6
    have y2 : w5.cell? ⟨g, 1, none⟩ = some (.int .i64 k) := by rw [World.ownsRow.cellAt ho7 1 (by omega)]; rfl
    have yf := World.ownsRow.frozenAt ho7 1
    have c8 := cell_set_ne (o := 1) (u := .int .i64 (u : Int)) hne c7
    have ho8 := (World.ownsRow.stored ho7 1 (.int .i64 (u : Int))).1
    rw [show (flat [((a : Int), (k : Int))]).set 1 (.int .i64 (u : Int)) = flat [((a : Int), (u : Int))] from rfl] at ho8
    have hb8 := bl_set hb6 (p := ⟨g, 1, none⟩) hgw (.int .i64 (u : Int))
    have HO8 := hide (own_spatL ho8)
    clear ho6 ho7 ho8 x1 x2 c6 c0 hb5
    go_wp2_with fail
    rw [rounds_succ]
    go_wp2_with fail
    refine (HL.out _ hb8).mono ?_
    rintro e w9 ⟨rfl, hw9⟩
    subst hw9
    go_wp2_with fail
    refine (HN2.out _ _ HO8.out).mono ?_
    rintro e w10 ⟨v10, rfl, hb10, ho10⟩
    go_wp2
    go_ret2
    exact ⟨_, rfl, bl_trans hb8 hb10, own_base ho10 hb8.size⟩
end
section
open Go.ChangeShapes Go.WideShapes Go.ChangeAt Go.RowKit
open SpanM
attribute [local go_sem ↓] Go.wp_at_zero Go.wp_at_succ
set_option maxRecDepth 100000
set_option linter.unusedVariables false
theorem spat_one (w : World) (a b : Int) : SpAt (w.alloc (.cells #[.int .i64 a, .int .i64 b] 33)) (.slice (some ⟨w.heap.size, 0, none⟩) 1 1) [(a, b)] := by
  refine .inr ⟨⟨w.heap.size, 0, none⟩, 1, rfl, Nat.le_refl _, by decide, fun i hi => ?_⟩
  obtain rfl : i = 0 := by simpa using hi
  exact ⟨cells_lit w #[.int .i64 a, .int .i64 b] _ 0 _ rfl, cells_lit w #[.int .i64 a, .int .i64 b] _ 1 _ rfl⟩
theorem m_ex : stA (⟨#[97, 98, 32, 99, 100, 195, 169]⟩ : ByteArray).data.toList 5 9 = 3 ∧ stE (⟨#[97, 98, 32, 99, 100, 195, 169]⟩ : ByteArray).data.toList 5 9 = 0 ∧ stA (⟨#[97, 98, 32, 99, 100, 195, 169]⟩ : ByteArray).data.toList 7 1 = 5 ∧ stE (⟨#[97, 98, 32, 99, 100, 195, 169]⟩ : ByteArray).data.toList 7 1 = 0 ∧ stepM (⟨#[97, 98, 32, 99, 100, 195, 169]⟩ : ByteArray).data.toList 2 4 = 7 := by decide +kernel
set_option maxHeartbeats 4000000 in
theorem awake9_any (w : World) : Calls Tryz.prog 4 #[] w fun e w' => e = .returned (.bool true) ∧ Below w.heap.size w w' := by
  have HO := hide (of9_b ⟨#[97, 98, 32, 99, 100, 195, 169]⟩ w (by decide))
  have hA := fun (W : World) (r : Nat) (h : LnAt W r ⟨#[97, 98, 32, 99, 100, 195, 169]⟩) => Step_m h (by decide) 5 9
  have hB := fun (W : World) (r : Nat) (h : LnAt W r ⟨#[97, 98, 32, 99, 100, 195, 169]⟩) => Step_m h (by decide) 7 1
  have hG := fun (W : World) (r : Nat) (v : Value) (h : LnAt W r ⟨#[97, 98, 32, 99, 100, 195, 169]⟩) (hv : SpAt W v [((1 : Nat), (2 : Nat))]) => go1 h (by decide) v 1 2 (by decide) (by decide) 4 (by decide) (by decide) hv
  obtain ⟨e1, e2, e3, e4, e5⟩ := m_ex
  rw [e1, e2] at hA
  rw [e3, e4] at hB
  rw [e5] at hG
  have hG2 : ∀ (W : World) (r : Nat) (v : Value) (h : LnAt W r ⟨#[97, 98, 32, 99, 100, 195, 169]⟩) (hv : SpAt W v [(1, 2)]), Calls Tryz.prog 7 #[.agg #[.pointer (some ⟨r, 0, none⟩)], .int .i64 4, .bool true, v] W (One8 (1, 7) W) := hG
  have HA := hide hA
  have HB := hide hB
  have HG := hide hG2
  clear hA hB hG hG2 e1 e2 e3 e4 e5
  go_enter Tryz.func4, Tryz.ntmps4
  go_wp2_with fail
  refine HO.out.mono ?_
  rintro e w1 ⟨r, rfl, hL, hb1, _⟩
  have c0 := ln_c0 w1 r
  have hb1 := bl_trans hb1 (ln_b0 w1 r)
  have HL := hide (hL.bl (ln_b0 w1 r))
  clear hL HO
  go_wp2_with fail
  refine (HA.out _ _ HL.out).mono ?_
  rintro e w2 ⟨rfl, hb⟩
  have c0 := cell_later hb c0
  have hb2 := bl_trans hb1 hb
  have HL := hide (HL.out.bl hb)
  clear hb
  go_wp2_with fail
  refine (HB.out _ _ HL.out).mono ?_
  rintro e w3 ⟨rfl, hb⟩
  have c0 := cell_later hb c0
  have hb3 := bl_trans hb2 hb
  have HL := hide (HL.out.bl (bl_trans hb (bl_alloc (bl_refl w3) (.cells #[.int .i64 1, .int .i64 2] 33))))
  have hb4 := bl_trans hb3 (bl_alloc (bl_refl w3) (.cells #[.int .i64 1, .int .i64 2] 33))
  have HV := hide (spat_one w3 1 2)
  clear hb
  go_wp2_with fail
  refine (HG.out _ _ _ HL.out HV.out).mono ?_
  rintro e w4 ⟨v4, rfl, hb5, ho⟩
  have hb6 := bl_trans hb4 hb5
  rcases own_form ho with ⟨rfl, g1, g2⟩ | ⟨g, c, rfl, g1, g2, g3, g4, g5⟩
  · cases g1
  · have x1 : w4.cell? ⟨g, 0, none⟩ = some (.int .i64 1) := by rw [World.ownsRow.cellAt ho 0 (by omega)]; rfl
    have x2 : w4.cell? ⟨g, 1, none⟩ = some (.int .i64 7) := by rw [World.ownsRow.cellAt ho 1 (by omega)]; rfl
    clear ho g5 hb5
    go_wp2
    go_ret
    exact ⟨rfl, hb6⟩
end
section
open Go.ChangeShapes Go.WideShapes Go.ChangeAt Go.RowKit
theorem st_in (L : List UInt8) (k : Nat) (way : Int) (hk : k ≤ L.length) (h1 : 1 ≤ way) (h10 : way ≤ 10) : stA L k way = (stepM L k way : Nat) ∧ stE L k way = 0 := by
  have e : stE L k way = 0 := by
    unfold stE wyC
    rw [if_pos (if_pos ⟨h1, h10⟩), if_pos (by omega)]
  refine ⟨?_, e⟩
  unfold stA
  rw [if_pos e]
  rfl
theorem Step_k {w : World} {r : Nat} {x : ByteArray} (h : LnAt w r x) (hs : x.size ≤ 100000) (k : Nat) (hk : k ≤ x.size) (way : Int) (h1 : 1 ≤ way) (h10 : way ≤ 10) (u : Nat) (hu : stepM x.data.toList k way = u) :
    Calls Tryz.prog 10 #[.agg #[.pointer (some ⟨r, 0, none⟩)], .int .i64 k, .int .i64 way] w fun e w' => e = .returned (.tuple #[.int .i64 (u : Int), .int .i64 0]) ∧ Below w.heap.size w w' := by
  have := Step_m h hs k way
  rw [(st_in x.data.toList k way hk h1 h10).1, (st_in x.data.toList k way hk h1 h10).2, hu] at this
  exact this
end
end Go.Proofs.YtjcmbnmejkhcjaaGreat
