/- Lines of a text: where they begin and end (plain mathematics). -/
import Derived.Test.YtjcmbnmejkhcjaaGreatTreeL
namespace Go.Proofs.YtjcmbnmejkhcjaaGreat
theorem upL_cnt (way : Int) (l : List UInt8) : ∀ m : Int, 0 ≤ m → cnt way (l.take (upL way l m)) ≤ m := by
  induction l with
  | nil => intro m hm; simp [upL, cnt_nil]; exact hm
  | cons c r ih =>
    intro m hm
    rw [upL_cons]
    by_cases h1 : m - cnt way [c] < 0
    · rw [if_pos h1, List.take_zero, cnt_nil]; exact hm
    · rw [if_neg h1, Nat.add_comm, List.take_succ_cons, cnt_cons]
      have := ih (m - cnt way [c]) (by omega)
      omega
theorem upL_max (way : Int) (l : List UInt8) : ∀ (m : Int) (k : Nat), k ≤ l.length → cnt way (l.take k) ≤ m → k ≤ upL way l m := by
  induction l with
  | nil => intro m k hk _; simp at hk; omega
  | cons c r ih =>
    intro m k hk h
    cases k with
    | zero => omega
    | succ k =>
      rw [List.take_succ_cons, cnt_cons] at h
      have h0 := cnt_bd way (r.take k)
      rw [upL_cons, if_neg (by omega)]
      have := ih (m - cnt way [c]) k (by simpa using hk) (by omega)
      omega
theorem cnt3 (l : List UInt8) : cnt 3 l = nBrk l := by unfold cnt byW; simp
theorem nBrk_take (l : List UInt8) (k : Nat) : nBrk (l.take k) ≤ nBrk l := by
  have h := nBrk_app (l.take k) (l.drop k)
  rw [List.take_append_drop] at h
  have := nBrk_le (l.drop k)
  omega
theorem nBrk_mono (l : List UInt8) (j k : Nat) (h : j ≤ k) : nBrk (l.take j) ≤ nBrk (l.take k) := by
  have := nBrk_take (l.take k) j
  rw [List.take_take, Nat.min_eq_left h] at this
  exact this
theorem nBrk_succ (l : List UInt8) (k : Nat) : nBrk (l.take (k + 1)) ≤ nBrk (l.take k) + 1 := by
  by_cases h : k < l.length
  · rw [List.take_succ_eq_append_getElem h, nBrk_snoc]
    split <;> omega
  · rw [List.take_of_length_le (by omega), List.take_of_length_le (by omega)]
    omega
/-- Where a line begins and ends. -/
def lnS (L : List UInt8) (i : Int) : Nat := if i = 0 then 0 else upL 3 L (i - 1) + 1
def lnE (L : List UInt8) (i : Int) : Nat := upL 3 L i
def lnC (L : List UInt8) (i : Int) : Int := if 0 ≤ i ∧ i ≤ nBrk L then 0 else 3
theorem lnE_le (L : List UInt8) (i : Int) : lnE L i ≤ L.length := upL_le 3 L i
theorem lnS_pos (L : List UInt8) (i : Int) (h : 1 ≤ i) (h2 : i ≤ nBrk L) : upL 3 L (i - 1) < L.length ∧ nBrk (L.take (upL 3 L (i - 1))) = i - 1 ∧ nBrk (L.take (upL 3 L (i - 1) + 1)) = i := by
  have h1 := upL_cnt 3 L (i - 1) (by omega)
  have h3 := upL_le 3 L (i - 1)
  have h4 := upL_max 3 L (i - 1) (upL 3 L (i - 1) + 1)
  rw [cnt3] at h1 h4
  have h5 : upL 3 L (i - 1) < L.length := by
    rcases Nat.lt_or_ge (upL 3 L (i - 1)) L.length with h | h
    · exact h
    · rw [List.take_of_length_le (by omega)] at h1
      omega
  have h6 := nBrk_succ L (upL 3 L (i - 1))
  have h7 : ¬ nBrk (L.take (upL 3 L (i - 1) + 1)) ≤ i - 1 := fun hc => by have := h4 (by omega) hc; omega
  exact ⟨h5, by omega, by omega⟩
theorem lnS_le (L : List UInt8) (i : Int) (h : 0 ≤ i) (h2 : i ≤ nBrk L) : lnS L i ≤ lnE L i := by
  unfold lnS lnE
  by_cases h0 : i = 0
  · rw [if_pos h0]; omega
  · rw [if_neg h0]
    obtain ⟨h3, _, h5⟩ := lnS_pos L i (by omega) h2
    exact upL_max 3 L i _ (by omega) (by rw [cnt3]; omega)
theorem lnS_brk (L : List UInt8) (i : Int) (h : 0 ≤ i) (h2 : i ≤ nBrk L) : nBrk (L.take (lnS L i)) = i := by
  unfold lnS
  by_cases h0 : i = 0
  · rw [if_pos h0, h0]; simp [nBrk]
  · rw [if_neg h0]; exact (lnS_pos L i (by omega) h2).2.2
theorem lnS_len (L : List UInt8) (i : Int) (h : 0 ≤ i) (h2 : i ≤ nBrk L) : lnS L i ≤ L.length := Nat.le_trans (lnS_le L i h h2) (lnE_le L i)
/-- The line of an offset. -/
theorem off_in (L : List UInt8) (k : Nat) (h : k ≤ L.length) : lnS L (nBrk (L.take k)) ≤ k ∧ k ≤ lnE L (nBrk (L.take k)) := by
  refine ⟨?_, upL_max 3 L _ k h (by rw [cnt3]; omega)⟩
  unfold lnS
  have hb := nBrk_le (L.take k)
  by_cases h0 : nBrk (L.take k) = 0
  · rw [if_pos h0]; omega
  · rw [if_neg h0]
    obtain ⟨_, h4, _⟩ := lnS_pos L (nBrk (L.take k)) (by omega) (nBrk_take L k)
    rcases Nat.lt_or_ge (upL 3 L (nBrk (L.take k) - 1)) k with h | h
    · omega
    · have := nBrk_mono L k _ h
      omega
/-- What stands behind a line: nothing, or a break. -/
theorem lnE_next (L : List UInt8) (i : Int) (h : 0 ≤ i) : lnE L i = L.length ∨ ∃ c r, L.drop (lnE L i) = c :: r ∧ c.toNat = 10 := by
  rcases Nat.lt_or_ge (lnE L i) L.length with h1 | h1
  · right
    refine ⟨L[lnE L i], L.drop (lnE L i + 1), List.drop_eq_getElem_cons h1, ?_⟩
    have h2 := upL_cnt 3 L i h
    have h3 := upL_max 3 L i (lnE L i + 1) (by omega)
    rw [cnt3] at h2 h3
    rw [List.take_succ_eq_append_getElem h1, nBrk_snoc] at h3
    by_cases hc : L[lnE L i].toNat = 10
    · exact hc
    · rw [if_neg hc] at h3
      have := h3 (by unfold lnE; omega)
      unfold lnE at this
      omega
  · left
    have := lnE_le L i
    omega
/-- The breaks' positions. -/
def brkP : List UInt8 → Nat → List Nat
  | [], _ => []
  | c :: r, o => if c.toNat = 10 then (o + 1) :: brkP r (o + 1) else brkP r (o + 1)
def stL (L : List UInt8) : List Nat := 0 :: brkP L 0
theorem brkP_len (L : List UInt8) : ∀ o, ((brkP L o).length : Int) = nBrk L := by
  induction L with
  | nil => intro o; simp [brkP, nBrk]
  | cons c r ih =>
    intro o
    have h1 : nBrk (c :: r) = nBrk [c] + nBrk r := by rw [← nBrk_app]; rfl
    rw [h1, nBrk_one, brkP]
    by_cases hc : c.toNat = 10
    · rw [if_pos hc, if_pos hc, List.length_cons, ← ih (o + 1)]; omega
    · rw [if_neg hc, if_neg hc, ih (o + 1)]; omega
theorem brkP_snoc (L : List UInt8) (c : UInt8) : ∀ o, brkP (L ++ [c]) o = brkP L o ++ if c.toNat = 10 then [o + L.length + 1] else [] := by
  induction L with
  | nil => intro o; simp [brkP]
  | cons d r ih =>
    intro o
    rw [List.cons_append, brkP, brkP, ih (o + 1), List.length_cons, show o + 1 + r.length + 1 = o + (r.length + 1) + 1 by omega]
    by_cases hd : d.toNat = 10
    · rw [if_pos hd, if_pos hd]; rfl
    · rw [if_neg hd, if_neg hd]
theorem brkP_get (L : List UInt8) : ∀ (o j : Nat) (h : j < (brkP L o).length), (brkP L o)[j] = o + upL 3 L j + 1 := by
  induction L with
  | nil => intro o j h; simp [brkP] at h
  | cons c r ih =>
    intro o j h
    have hc1 : cnt 3 [c] = if c.toNat = 10 then 1 else 0 := by rw [cnt3, nBrk_one]
    by_cases hc : c.toNat = 10
    · rw [if_pos hc] at hc1
      have e : brkP (c :: r) o = (o + 1) :: brkP r (o + 1) := by rw [brkP, if_pos hc]
      rw [upL_cons, hc1]
      simp only [e] at h ⊢
      cases j with
      | zero => rw [if_pos (by simp)]; simp
      | succ j =>
        rw [if_neg (by omega)]
        simp only [List.getElem_cons_succ]
        rw [ih (o + 1) j (by simpa using h), show ((j + 1 : Nat) : Int) - 1 = (j : Int) by omega]
        omega
    · rw [if_neg hc] at hc1
      have e : brkP (c :: r) o = brkP r (o + 1) := by rw [brkP, if_neg hc]
      rw [upL_cons, hc1, if_neg (by omega)]
      simp only [e] at h ⊢
      rw [ih (o + 1) j h, show (j : Int) - 0 = (j : Int) by omega]
      omega
theorem stL_len (L : List UInt8) : ((stL L).length : Int) = nBrk L + 1 := by
  unfold stL; rw [List.length_cons]; have := brkP_len L 0; omega
theorem stL_get (L : List UInt8) (i : Nat) (h : i < (stL L).length) : (stL L)[i] = lnS L i := by
  unfold lnS
  cases i with
  | zero => rw [if_pos (by simp)]; rfl
  | succ j =>
    rw [if_neg (by omega)]
    unfold stL at h ⊢
    rw [List.getElem_cons_succ, brkP_get L 0 j (by simpa using h), show ((j + 1 : Nat) : Int) - 1 = (j : Int) by omega]
    omega
theorem stL_snoc (L : List UInt8) (c : UInt8) : stL (L ++ [c]) = stL L ++ if c.toNat = 10 then [L.length + 1] else [] := by
  unfold stL
  rw [brkP_snoc, Nat.zero_add]
  rfl
theorem lnS_next (L : List UInt8) (i : Int) (h : 0 ≤ i) : lnS L (i + 1) = lnE L i + 1 := by
  unfold lnS lnE; rw [if_neg (by omega), show i + 1 - 1 = i by omega]
theorem lnE_last (L : List UInt8) : lnE L (nBrk L) = L.length := upL_all 3 L _ (by rw [cnt3]; omega)
/-- The offset of a column. -/
theorem off_eq (way : Int) (L : List UInt8) (s e : Nat) (col : Int) (hs : s ≤ e) (he : e ≤ L.length) (hc : 0 ≤ col) :
    min (e : Int) (upL way L (cnt way (L.take s) + col) : Nat) = (s + upL way ((L.take e).drop s) col : Nat) ∧ (2 * ((e : Int) - s) ≤ col → (s + upL way ((L.take e).drop s) col : Nat) = e) := by
  have hL : L = L.take s ++ ((L.take e).drop s ++ L.drop e) := by
    have h1 : L.take s = (L.take e).take s := by rw [List.take_take, Nat.min_eq_left hs]
    rw [← List.append_assoc, h1, List.take_append_drop, List.take_append_drop]
  have hsub : ((L.take e).drop s).length = e - s := by rw [List.length_drop, List.length_take, Nat.min_eq_left he]
  have hts : (L.take s).length = s := by rw [List.length_take]; omega
  have hbd := cnt_bd way ((L.take e).drop s)
  have hle := upL_le way ((L.take e).drop s) col
  have hu : upL way L (cnt way (L.take s) + col) = s + upL way ((L.take e).drop s ++ L.drop e) col := by
    have h1 := upL_hi way (L.take s) ((L.take e).drop s ++ L.drop e) (cnt way (L.take s) + col) (by omega)
    rw [← hL, hts, show cnt way (L.take s) + col - cnt way (L.take s) = col by omega] at h1
    exact h1
  refine ⟨?_, fun h => ?_⟩
  · rw [hu, upL_app _ _ _ _ hc]
    by_cases h1 : col < cnt way ((L.take e).drop s)
    · rw [if_pos h1]; omega
    · rw [if_neg h1, upL_all way ((L.take e).drop s) col (by omega), hsub]; omega
  · rw [upL_all way ((L.take e).drop s) col (by omega), hsub]; omega
/-- Spaces and tabs at the beginning. -/
def sp : List UInt8 → Nat
  | [] => 0
  | c :: r => if c.toNat = 32 ∨ c.toNat = 9 then 1 + sp r else 0
theorem sp_le (l : List UInt8) : sp l ≤ l.length := by
  induction l with
  | nil => simp [sp]
  | cons c r ih => unfold sp; split <;> simp <;> omega
theorem sp_app (l m : List UInt8) (h : m = [] ∨ ∃ c r, m = c :: r ∧ c.toNat = 10) : sp (l ++ m) = sp l := by
  induction l with
  | nil =>
    rcases h with rfl | ⟨c, r, rfl, hc⟩
    · rfl
    · simp [sp, hc]
  | cons d r ih => rw [List.cons_append, sp, sp, ih]
theorem sp_line (L : List UInt8) (i : Int) (h : 0 ≤ i) (h2 : i ≤ nBrk L) : sp (L.drop (lnS L i)) = sp ((L.take (lnE L i)).drop (lnS L i)) := by
  have hs := lnS_le L i h h2
  have he := lnE_le L i
  have hL : L.drop (lnS L i) = (L.take (lnE L i)).drop (lnS L i) ++ L.drop (lnE L i) := by
    have h1 : (L.take (lnE L i) ++ L.drop (lnE L i)).drop (lnS L i) = (L.take (lnE L i)).drop (lnS L i) ++ L.drop (lnE L i) := List.drop_append_of_le_length (by rw [List.length_take]; omega)
    rw [List.take_append_drop] at h1
    exact h1
  rw [hL]
  refine sp_app _ _ ?_
  rcases lnE_next L i h with h3 | h3
  · left; rw [h3, List.drop_length]
  · exact .inr h3
end Go.Proofs.YtjcmbnmejkhcjaaGreat
