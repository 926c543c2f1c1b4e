/- Selections put in order (plain mathematics): apart, the same places, again the same, moved along, carets, bounds. -/
import Derived.Test.YtjkjgfgblfioeaaSelY
namespace Go.Proofs.Ytjkjgfgblfioeaa
open SpanM SelM
/-- Selections apart, in order. -/
def AptL (l : List Sp) : Prop := l.Pairwise fun a b => (ky a).2 < (ky b).1
/-- One of them has a place between its ends. -/
def InL (l : List Sp) (x : Int) : Prop := ∃ s ∈ l, (ky s).1 ≤ x ∧ x ≤ (ky s).2
theorem ky_le (s : Sp) : (ky s).1 ≤ (ky s).2 := by unfold ky; simp only; omega
theorem ky_cov (t s : Sp) : ky (covL t s) = ((ky t).1, max (ky t).2 (ky s).2) := by
  have h0 := ky_le t
  unfold covL
  generalize ky s = m at *
  generalize ky t = k at *
  split
  · show (min (max k.2 m.2) k.1, max (max k.2 m.2) k.1) = _
    refine Prod.ext ?_ ?_ <;> dsimp only <;> omega
  · show (min k.1 (max k.2 m.2), max k.1 (max k.2 m.2)) = _
    refine Prod.ext ?_ ?_ <;> dsimp only <;> omega
theorem touch_of (t s : Sp) (h : (ky t).1 ≤ (ky s).1) : touch (ky t) (ky s) = decide ((ky s).1 ≤ (ky t).2) := by
  have h1 := ky_le t
  have h2 := ky_le s
  unfold touch
  generalize ky t = k at *
  generalize ky s = m at *
  exact decide_eq_decide.2 (by omega)
theorem le_fst {a b : Sp} (h : SpanM.le a b) : a.1 ≤ b.1 := by unfold SpanM.le at h; omega
theorem mrg_inv (l acc : List Sp) (ha : AptL acc) (hs : l.Pairwise fun a b => (ky a).1 ≤ (ky b).1) (hb : ∀ t ∈ acc, ∀ s ∈ l, (ky t).1 ≤ (ky s).1) :
    AptL (l.foldl stepL acc) ∧ ∀ x, InL (l.foldl stepL acc) x ↔ InL (acc ++ l) x := by
  induction l generalizing acc with
  | nil => exact ⟨ha, fun x => by simp⟩
  | cons s r ih =>
    rw [List.foldl_cons]
    have hs1 := List.pairwise_cons.1 hs
    rcases List.eq_nil_or_concat acc with rfl | ⟨a, t, rfl⟩
    · rw [stL_nil]
      obtain ⟨h1, h2⟩ := ih ([] ++ [s]) (by unfold AptL; simp) hs1.2 (by intro p hp q hq; rw [show p = s by simpa using hp]; exact hs1.1 q hq)
      exact ⟨h1, fun x => by rw [h2]; simp⟩
    · rw [List.concat_eq_append] at *
      have hbt := hb t (by simp) s (by simp)
      have hto := touch_of t s hbt
      have ha' := List.pairwise_append.1 ha
      cases hd : touch (ky t) (ky s)
      · rw [stL_new a t s hd]
        rw [hd] at hto
        have hlt : (ky t).2 < (ky s).1 := by have := of_decide_eq_false hto.symm; omega
        obtain ⟨h1, h2⟩ := ih (a ++ [t] ++ [s]) (by
          refine List.pairwise_append.2 ⟨ha, List.pairwise_singleton _ _, ?_⟩
          intro p hp q hq
          obtain rfl : q = s := by simpa using hq
          rcases List.mem_append.1 hp with hp | hp
          · have := ha'.2.2 p hp t (by simp)
            have := ky_le t
            omega
          · obtain rfl : p = t := by simpa using hp
            exact hlt) hs1.2 (by
          intro p hp q hq
          rcases List.mem_append.1 hp with hp | hp
          · exact hb p hp q (List.mem_cons_of_mem _ hq)
          · obtain rfl : p = s := by simpa using hp
            exact hs1.1 q hq)
        exact ⟨h1, fun x => by rw [h2]; simp⟩
      · rw [stL_on a t s hd]
        rw [hd] at hto
        have hle : (ky s).1 ≤ (ky t).2 := of_decide_eq_true hto.symm
        have hkc := ky_cov t s
        obtain ⟨h1, h2⟩ := ih (a ++ [covL t s]) (by
          refine List.pairwise_append.2 ⟨ha'.1, List.pairwise_singleton _ _, ?_⟩
          intro p hp q hq
          obtain rfl : q = covL t s := by simpa using hq
          rw [hkc]
          exact ha'.2.2 p hp t (by simp)) hs1.2 (by
          intro p hp q hq
          rcases List.mem_append.1 hp with hp | hp
          · exact hb p (List.mem_append_left _ hp) q (List.mem_cons_of_mem _ hq)
          · obtain rfl : p = covL t s := by simpa using hp
            rw [hkc]
            exact hb t (by simp) q (List.mem_cons_of_mem _ hq))
        refine ⟨h1, fun x => ?_⟩
        rw [h2]
        constructor
        · rintro ⟨p, hp, hx⟩
          rcases List.mem_append.1 hp with hp | hp
          · rcases List.mem_append.1 hp with hp | hp
            · exact ⟨p, by simp [hp], hx⟩
            · obtain rfl : p = covL t s := by simpa using hp
              rw [hkc] at hx
              simp only at hx
              by_cases hq : x ≤ (ky t).2
              · exact ⟨t, by simp, hx.1, hq⟩
              · exact ⟨s, by simp, by omega, by omega⟩
          · exact ⟨p, by simp [hp], hx⟩
        · rintro ⟨p, hp, hx⟩
          have hcc : ((ky (covL t s)).1 ≤ x ∧ x ≤ (ky (covL t s)).2) → InL (a ++ [covL t s] ++ r) x := fun h => ⟨covL t s, by simp, h⟩
          rw [hkc] at hcc
          simp only at hcc
          rcases List.mem_append.1 hp with hp | hp
          · rcases List.mem_append.1 hp with hp | hp
            · exact ⟨p, by simp [hp], hx⟩
            · obtain rfl : p = t := by simpa using hp
              exact hcc ⟨hx.1, by omega⟩
          · rcases List.mem_cons.1 hp with rfl | hp
            · exact hcc ⟨by omega, by omega⟩
            · exact ⟨p, by simp [hp], hx⟩
theorem norm_inv (l : List Sp) : AptL (mrgF (sortL l)) ∧ ∀ x, InL (mrgF (sortL l)) x ↔ InL l x := by
  have h := sortL_sorted l
  obtain ⟨h1, h2⟩ := mrg_inv (sortL l) [] List.Pairwise.nil (h.imp fun h => le_fst h) (by simp)
  refine ⟨h1, fun x => (h2 x).trans ?_⟩
  have hp := sortL_perm l
  rw [List.nil_append]
  constructor
  · rintro ⟨s, hs, hx⟩; exact ⟨s, hp.mem_iff.1 hs, hx⟩
  · rintro ⟨s, hs, hx⟩; exact ⟨s, hp.mem_iff.2 hs, hx⟩
theorem norm_apt (l : List Sp) : AptL (mrgF (sortL l)) := (norm_inv l).1
theorem norm_in (l : List Sp) (x : Int) : InL (mrgF (sortL l)) x ↔ InL l x := (norm_inv l).2 x
theorem mrg_self (l acc : List Sp) (h : AptL (acc ++ l)) : l.foldl stepL acc = acc ++ l := by
  induction l generalizing acc with
  | nil => simp
  | cons s r ih =>
    rw [List.foldl_cons]
    have e : stepL acc s = acc ++ [s] := by
      rcases List.eq_nil_or_concat acc with rfl | ⟨a, t, rfl⟩
      · rfl
      · rw [List.concat_eq_append] at *
        refine stL_new a t s ?_
        have := (List.pairwise_append.1 h).2.2 t (by simp) s (by simp)
        unfold touch
        exact decide_eq_false (by omega)
    rw [e, ih (acc ++ [s]) (by simpa using h)]
    simp
/-- In order and apart already: they stay. -/
theorem norm_self (l : List Sp) (h : AptL l) : mrgF (sortL l) = l := by
  rw [sortL_self l (h.imp (S := fun a b => SpanM.le (kyS a) (kyS b)) (fun {a b} h => by
    have h1 : (kyS a).1 ≤ (kyS a).2 := ky_le a
    have h2 : (kyS a).2 < (kyS b).1 := h
    unfold SpanM.le
    omega))]
  exact mrg_self l [] (by simpa using h)
/-- All ends within bounds: they stay so. -/
def Wi (lo hi : Int) (s : Sp) : Prop := lo ≤ (ky s).1 ∧ (ky s).2 ≤ hi
theorem step_all (P : Sp → Prop) (hc : ∀ t s, P t → P s → touch (ky t) (ky s) = true → P (covL t s)) (acc : List Sp) (s : Sp) (h : ∀ x ∈ acc, P x) (hs : P s) : ∀ x ∈ stepL acc s, P x := by
  rcases List.eq_nil_or_concat acc with rfl | ⟨a, t, rfl⟩
  · intro x hx
    rw [stL_nil] at hx
    obtain rfl : x = s := by simpa using hx
    exact hs
  · rw [List.concat_eq_append] at *
    intro x hx
    cases ht : touch (ky t) (ky s)
    · rw [stL_new a t s ht] at hx
      rcases List.mem_append.1 hx with hx | hx
      · exact h x hx
      · obtain rfl : x = s := by simpa using hx
        exact hs
    · rw [stL_on a t s ht] at hx
      rcases List.mem_append.1 hx with hx | hx
      · exact h x (List.mem_append_left _ hx)
      · obtain rfl : x = covL t s := by simpa using hx
        exact hc t s (h t (by simp)) hs ht
theorem mrg_all (P : Sp → Prop) (hc : ∀ t s, P t → P s → touch (ky t) (ky s) = true → P (covL t s)) (l : List Sp) (h : ∀ x ∈ l, P x) : ∀ x ∈ mrgF (sortL l), P x := by
  have key : ∀ (l acc : List Sp), (∀ x ∈ acc, P x) → (∀ x ∈ l, P x) → ∀ x ∈ l.foldl stepL acc, P x := by
    intro l
    induction l with
    | nil => intro acc ha _; exact ha
    | cons s r ih => intro acc ha hl; exact ih _ (step_all P hc acc s ha (hl s (by simp))) (fun x hx => hl x (List.mem_cons_of_mem _ hx))
  exact key _ [] (by simp) (fun x hx => h x ((sortL_perm l).mem_iff.1 hx))
theorem norm_wi (lo hi : Int) (l : List Sp) (h : ∀ x ∈ l, Wi lo hi x) : ∀ x ∈ mrgF (sortL l), Wi lo hi x := by
  refine mrg_all _ ?_ l h
  intro t s h1 h2 _
  unfold Wi at *
  rw [ky_cov]
  dsimp only
  omega
/-- Carets stay carets. -/
theorem norm_car (l : List Sp) (h : ∀ x ∈ l, x.1 = x.2) : ∀ x ∈ mrgF (sortL l), x.1 = x.2 := by
  refine mrg_all _ ?_ l h
  rintro ⟨t1, t2⟩ ⟨s1, s2⟩ h1 h2 h3
  dsimp only at h1 h2
  subst h1 h2
  unfold touch ky at h3
  dsimp only at h3
  have h4 := of_decide_eq_true h3
  unfold covL ky
  dsimp only
  rw [if_neg (by omega)]
  dsimp only
  omega
theorem step_pos (acc : List Sp) (s : Sp) : 0 < (stepL acc s).length := by
  rcases List.eq_nil_or_concat acc with rfl | ⟨a, t, rfl⟩
  · simp [stepL]
  · rw [List.concat_eq_append]
    cases h : touch (ky t) (ky s)
    · rw [stL_new a t s h]; simp
    · rw [stL_on a t s h]; simp
theorem step_len (acc : List Sp) (s : Sp) : (stepL acc s).length ≤ acc.length + 1 := by
  rcases List.eq_nil_or_concat acc with rfl | ⟨a0, t, rfl⟩
  · simp [stepL]
  · rw [List.concat_eq_append]
    rcases h : touch (ky t) (ky s) with _ | _
    · rw [stL_new a0 t s h]; simp
    · rw [stL_on a0 t s h]; simp
theorem norm_len (l : List Sp) : (mrgF (sortL l)).length ≤ l.length := by
  have key : ∀ (l acc : List Sp), (l.foldl stepL acc).length ≤ acc.length + l.length := by
    intro l
    induction l with
    | nil => intro acc; simp
    | cons s r ih => intro acc; rw [List.foldl_cons]; have := ih (stepL acc s); have := step_len acc s; simp only [List.length_cons]; omega
  have := key (sortL l) []
  rw [sortL_len] at this
  exact Nat.le_trans this (by simp)
theorem norm_pos (l : List Sp) (h : 0 < l.length) : 0 < (mrgF (sortL l)).length := by
  have key : ∀ (l acc : List Sp), 0 < acc.length ∨ 0 < l.length → 0 < (l.foldl stepL acc).length := by
    intro l
    induction l with
    | nil => intro acc h; rcases h with h | h; exact h; simp at h
    | cons s r ih => intro acc _; rw [List.foldl_cons]; exact ih _ (.inl (step_pos acc s))
  exact key _ [] (.inr (by rw [sortL_len]; exact h))
-- moved along
theorem kyS_along (k : Int) (s : Sp) : kyS (alongS k s) = alongS k (kyS s) := ky_along k s
theorem less_along (k : Int) (a b : Sp) : lessL (alongS k a) (alongS k b) = lessL a b := by
  unfold lessL
  rw [kyS_along, kyS_along]
  unfold SpanM.less alongS
  rw [decide_eq_decide.2 (show (kyS a).1 + k < (kyS b).1 + k ↔ (kyS a).1 < (kyS b).1 by omega), decide_eq_decide.2 (show (kyS a).1 + k = (kyS b).1 + k ↔ (kyS a).1 = (kyS b).1 by omega), decide_eq_decide.2 (show (kyS a).2 + k < (kyS b).2 + k ↔ (kyS a).2 < (kyS b).2 by omega)]
theorem posB_along (k : Int) (s : Sp) (O : List Sp) (n : Nat) (hn : n ≤ O.length) : posB (alongS k s) (O.map (alongS k)) n = posB s O n := by
  induction n with
  | zero => rfl
  | succ n ih =>
    unfold posB
    rw [getElem!_pos (O.map (alongS k)) n (by simpa using (by omega)), getElem!_pos O n (by omega), List.getElem_map, less_along, ih (by omega)]
theorem insB_along (k : Int) (s : Sp) (O : List Sp) : insB (alongS k s) (O.map (alongS k)) = (insB s O).map (alongS k) := by
  unfold insB
  rw [List.length_map, posB_along k s O O.length (Nat.le_refl _)]
  simp
theorem sortL_along (k : Int) (l : List Sp) : sortL (l.map (alongS k)) = (sortL l).map (alongS k) := by
  have key : ∀ (l O : List Sp), (l.map (alongS k)).foldl (fun O s => insB s O) (O.map (alongS k)) = (l.foldl (fun O s => insB s O) O).map (alongS k) := by
    intro l
    induction l with
    | nil => intro O; rfl
    | cons s r ih => intro O; rw [List.map_cons, List.foldl_cons, List.foldl_cons, insB_along, ih]
  exact key l []
theorem touch_along (k : Int) (a b : Sp) : touch (alongS k a) (alongS k b) = touch a b := by
  unfold touch alongS
  exact decide_eq_decide.2 (by dsimp only; omega)
theorem step_along (k : Int) (acc : List Sp) (s : Sp) : stepL (acc.map (alongS k)) (alongS k s) = (stepL acc s).map (alongS k) := by
  rcases List.eq_nil_or_concat acc with rfl | ⟨a, t, rfl⟩
  · rfl
  · rw [List.concat_eq_append, List.map_append]
    show stepL (a.map (alongS k) ++ [alongS k t]) (alongS k s) = _
    have ht : touch (ky (alongS k t)) (ky (alongS k s)) = touch (ky t) (ky s) := by rw [ky_along, ky_along, touch_along]
    cases h : touch (ky t) (ky s)
    · rw [h] at ht
      rw [stL_new a t s h, stL_new _ _ _ ht]; simp
    · rw [h] at ht
      rw [stL_on a t s h, stL_on _ _ _ ht, cov_along]; simp
theorem mrg_along (k : Int) (l : List Sp) : mrgF (l.map (alongS k)) = (mrgF l).map (alongS k) := by
  have key : ∀ (l O : List Sp), (l.map (alongS k)).foldl stepL (O.map (alongS k)) = (l.foldl stepL O).map (alongS k) := by
    intro l
    induction l with
    | nil => intro O; rfl
    | cons s r ih => intro O; rw [List.map_cons, List.foldl_cons, List.foldl_cons, step_along, ih]
  exact key l []
theorem norm_along (k : Int) (l : List Sp) : mrgF (sortL (l.map (alongS k))) = (mrgF (sortL l)).map (alongS k) := by rw [sortL_along, mrg_along]
end Go.Proofs.Ytjkjgfgblfioeaa
