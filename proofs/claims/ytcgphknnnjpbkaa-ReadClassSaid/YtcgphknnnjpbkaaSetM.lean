/- Plain mathematics of rows of characters: order of texts, sorting, putting together. No condition. -/
import GoSem.Op.String
import Derived.Sort.Walk0
namespace Go.Proofs.Ytcgphknnnjpbkaa.SetM
abbrev Rw := ByteArray × ByteArray
/-- The order of texts. -/
def bl (a b : ByteArray) : Bool := Op.bytesLess a.toList b.toList
theorem bl_iff (a b : ByteArray) : bl a b = true ↔ a.data.toList < b.data.toList := by
  unfold bl; rw [bytesLess_eq, Go.ByteArray.toList_eq, Go.ByteArray.toList_eq]; simp
theorem bl_no (a b : ByteArray) : bl a b = false ↔ b.data.toList ≤ a.data.toList := by
  rw [← Bool.not_eq_true, bl_iff, List.not_lt]
theorem ext (a b : ByteArray) (h : a.data.toList = b.data.toList) : a = b := ByteArray.ext (Array.ext' h)
theorem bl_irr (a : ByteArray) : bl a a = false := by rw [bl_no]; exact List.le_refl _
theorem bl_tri (a b : ByteArray) (h : bl a b = false) (g : bl b a = false) : a = b := by
  rw [bl_no] at h g; exact ext _ _ (List.le_antisymm g h)
theorem bl_asym (a b : ByteArray) (h : bl a b = true) : bl b a = false := by
  rw [bl_iff] at h; rw [bl_no]; exact List.le_of_lt h
theorem bl_trans {a b c : ByteArray} (h : bl a b = true) (g : bl b c = true) : bl a c = true := by
  rw [bl_iff] at *; exact List.lt_trans h g
/-- not (c < b), not (b < a): not (c < a). -/
theorem bl_le_trans {a b c : ByteArray} (h : bl b a = false) (g : bl c b = false) : bl c a = false := by
  rw [bl_no] at *; exact List.le_trans h g
theorem bl_lt_le {a b c : ByteArray} (h : bl a b = true) (g : bl c b = false) : bl a c = true := by
  cases hh : bl a c
  · have := bl_le_trans (a := c) (b := a) (c := b)
    have h1 : bl b a = false := bl_asym _ _ h
    -- c ≤ a, a < b, b ≤ c
    have h2 := bl_le_trans g hh
    rw [h] at h2; cases h2
  · rfl
theorem bl_le_lt {a b c : ByteArray} (h : bl b a = false) (g : bl b c = true) : bl a c = true := by
  cases hh : bl a c
  · have h2 := bl_le_trans hh h
    rw [g] at h2; cases h2
  · rfl
def eqB (a b : ByteArray) : Bool := a.toList == b.toList
theorem eqB_iff (a b : ByteArray) : eqB a b = true ↔ a = b := by
  unfold eqB; rw [Go.ByteArray.toList_eq, Go.ByteArray.toList_eq, beq_iff_eq]
  exact ⟨ext a b, fun h => by rw [h]⟩
theorem eqB_d (a b : ByteArray) : eqB a b = decide (a = b) := by rw [Bool.eq_iff_iff, eqB_iff]; simp
/-- At most, as the walk spells it. -/
theorem le_or (a b : ByteArray) : (bl a b || eqB a b) = !bl b a := by
  cases h : bl a b
  · cases g : bl b a
    · have := bl_tri a b h g; subst this; simp [(eqB_iff a a).2 rfl]
    · have : eqB a b = false := by
        rw [eqB_d, decide_eq_false_iff_not]; rintro rfl; rw [h] at g; cases g
      rw [this]; rfl
  · rw [bl_asym a b h]; rfl
def mx (a b : ByteArray) : ByteArray := if bl a b = true then b else a
theorem mx_ge1 (a b : ByteArray) : bl (mx a b) a = false := by
  unfold mx; split
  · exact bl_asym _ _ ‹_›
  · exact bl_irr _
theorem mx_ge2 (a b : ByteArray) : bl (mx a b) b = false := by
  unfold mx; split
  · exact bl_irr _
  · exact Bool.eq_false_iff.2 ‹_›
theorem mx_cases (a b : ByteArray) : mx a b = a ∨ mx a b = b := by unfold mx; split <;> simp
theorem mx_self (a b : ByteArray) (h : bl a b = false) : mx a b = a := by unfold mx; rw [if_neg (by rw [h]; simp)]
/-- Rows, by From and then by To. -/
def less (a b : Rw) : Bool := bl a.1 b.1 || (eqB a.1 b.1 && bl a.2 b.2)
def le (a b : Rw) : Prop := less b a = false
theorem less_asym (a b : Rw) (h : less a b = true) : less b a = false := by
  unfold less at *
  simp only [Bool.or_eq_true, Bool.and_eq_true, eqB_iff] at h
  rcases h with h | ⟨h1, h2⟩
  · have e : eqB b.1 a.1 = false := by rw [eqB_d, decide_eq_false_iff_not]; intro e; rw [e, bl_irr] at h; cases h
    rw [bl_asym _ _ h, e]; rfl
  · rw [h1, bl_irr, bl_asym _ _ h2]; simp
theorem less_irr (a : Rw) : less a a = false := by unfold less; rw [bl_irr, bl_irr]; simp
theorem less_tot (a b : Rw) (h : less a b = false) (g : less b a = false) : a = b := by
  obtain ⟨a1, a2⟩ := a
  obtain ⟨b1, b2⟩ := b
  unfold less at *
  simp only [Bool.or_eq_false_iff] at h g
  have e := bl_tri _ _ h.1 g.1
  subst e
  have e1 : eqB a1 a1 = true := (eqB_iff _ _).2 rfl
  simp only [e1, Bool.true_and] at h g
  rw [bl_tri _ _ h.2 g.2]
theorem less_from {a b : Rw} (h : less a b = false) : bl a.1 b.1 = false := by
  unfold less at h; simp only [Bool.or_eq_false_iff] at h; exact h.1
theorem le_trans {a b c : Rw} (h : le a b) (g : le b c) : le a c := by
  unfold le at *
  have h1 := less_from h
  have g1 := less_from g
  have k := bl_le_trans h1 g1
  unfold less
  rw [k, Bool.false_or]
  cases e : eqB c.1 a.1
  · rfl
  · rw [eqB_iff] at e
    have e2 : b.1 = a.1 := by
      refine bl_tri _ _ h1 ?_
      rw [e] at g1; exact g1
    unfold less at h g
    rw [e2] at h g
    rw [e] at g
    have e1 : eqB a.1 a.1 = true := (eqB_iff _ _).2 rfl
    simp only [bl_irr, e1, Bool.true_and, Bool.false_or] at h g
    rw [Bool.true_and]
    exact bl_le_trans h g
theorem less_trans {a b c : Rw} (h : less a b = true) (g : less b c = true) : less a c = true := by
  cases hh : less a c
  · -- c ≤ a
    have h1 : le c a := hh
    have h2 : le a b := less_asym _ _ h
    have h3 : le c b := le_trans h1 h2
    unfold le at h3; rw [g] at h3; cases h3
  · rfl
theorem le_refl (a : Rw) : le a a := less_irr a
theorem le_antisymm {a b : Rw} (h : le a b) (g : le b a) : a = b := less_tot _ _ g h
def Sorted (l : List Rw) : Prop := l.Pairwise le
theorem sorted_perm {l k : List Rw} (h : l.Perm k) (hl : Sorted l) (hk : Sorted k) : l = k :=
  h.eq_of_pairwise (fun _ _ _ _ h1 h2 => le_antisymm h1 h2) hl hk
def sortS (l : List Rw) : List Rw := l.mergeSort fun a b => !less b a
theorem sortS_perm (l : List Rw) : (sortS l).Perm l := List.mergeSort_perm _ _
theorem sortS_len (l : List Rw) : (sortS l).length = l.length := (sortS_perm l).length_eq
theorem sortS_sorted (l : List Rw) : Sorted (sortS l) := by
  have h := List.pairwise_mergeSort (le := fun a b => !less b a) (fun a b c h1 h2 => by
      simp only [Bool.not_eq_true'] at *
      exact le_trans (a := a) (b := b) (c := c) h1 h2)
    (fun a b => by
      cases h : less b a
      · rfl
      · rw [less_asym _ _ h]; rfl) l
  exact h.imp (fun {a b} hab => by simpa [le] using hab)
theorem sortS_eq {l k : List Rw} (h : k.Perm l) (hs : Sorted k) : sortS l = k := sorted_perm ((sortS_perm l).trans h.symm) (sortS_sorted l) hs
/-- One row more, put together with what is there. -/
def stepU (acc : List Rw) (s : Rw) : List Rw :=
  match acc.getLast? with
  | none => [s]
  | some t => if bl t.2 s.1 = true then acc ++ [s] else acc.dropLast ++ [(t.1, mx t.2 s.2)]
def uniF (l : List Rw) : List Rw := l.foldl stepU []
theorem step_nil (s : Rw) : stepU [] s = [s] := rfl
theorem step_on (a0 : List Rw) (t s : Rw) (h : bl t.2 s.1 = false) : stepU (a0 ++ [t]) s = a0 ++ [(t.1, mx t.2 s.2)] := by
  unfold stepU; simp [h]
theorem step_new (a0 : List Rw) (t s : Rw) (h : bl t.2 s.1 = true) : stepU (a0 ++ [t]) s = a0 ++ [t] ++ [s] := by
  unfold stepU; simp [h]
theorem uniF_snoc (l : List Rw) (k : Nat) (h : k < l.length) : uniF (l.take (k + 1)) = stepU (uniF (l.take k)) l[k] := by
  unfold uniF
  rw [List.take_succ_eq_append_getElem h, List.foldl_append]
  rfl
theorem step_len (acc : List Rw) (s : Rw) : (stepU acc s).length ≤ acc.length + 1 := by
  rcases List.eq_nil_or_concat acc with rfl | ⟨a0, t, rfl⟩
  · rw [step_nil]; simp
  · rw [List.concat_eq_append]
    cases ht : bl t.2 s.1
    · rw [step_on _ _ _ ht]; simp
    · rw [step_new _ _ _ ht]; simp
theorem step_pos (acc : List Rw) (s : Rw) : 0 < (stepU acc s).length := by
  rcases List.eq_nil_or_concat acc with rfl | ⟨a0, t, rfl⟩
  · rw [step_nil]; simp
  · rw [List.concat_eq_append]
    cases ht : bl t.2 s.1
    · rw [step_on _ _ _ ht]; simp
    · rw [step_new _ _ _ ht]; simp
theorem uniF_len (l : List Rw) (k : Nat) : (uniF (l.take k)).length ≤ k := by
  induction k with
  | zero => simp [uniF]
  | succ k ih =>
    by_cases h : k < l.length
    · rw [uniF_snoc l k h]; have := step_len (uniF (l.take k)) l[k]; omega
    · rw [List.take_of_length_le (by omega)]
      rw [List.take_of_length_le (by omega)] at ih
      omega
theorem uniF_le (l : List Rw) : (uniF l).length ≤ l.length := by
  have := uniF_len l l.length
  rw [List.take_length] at this; exact this
/-- A row that may be, but for its ends' being characters. -/
def okR (s : Rw) : Prop := bl s.2 s.1 = false
/-- What is told by a list: is c in one of its rows? -/
def inB (l : List Rw) (c : ByteArray) : Bool := l.any fun s => !bl c s.1 && !bl s.2 c
theorem inB_iff (l : List Rw) (c : ByteArray) : inB l c = true ↔ ∃ s ∈ l, bl c s.1 = false ∧ bl s.2 c = false := by
  unfold inB; simp
theorem inB_app (l k : List Rw) (c : ByteArray) : inB (l ++ k) c = (inB l c || inB k c) := by unfold inB; simp
/-- Rows that rise, none touching another one. -/
structure Norm (l : List Rw) : Prop where
  valid : ∀ s ∈ l, okR s
  apart : l.Pairwise fun a b => bl a.2 b.1 = true
theorem uni_inv (l acc : List Rw) (hn : Norm acc) (hok : ∀ s ∈ l, okR s) (hs : Sorted l) (hb : ∀ t ∈ acc.getLast?, ∀ s ∈ l, bl s.1 t.1 = false) :
    Norm (l.foldl stepU acc) ∧ (∀ c, inB (l.foldl stepU acc) c = (inB acc c || inB l c)) ∧
    (∀ P : ByteArray → Prop, (∀ s ∈ acc, P s.1 ∧ P s.2) → (∀ s ∈ l, P s.1 ∧ P s.2) → ∀ s ∈ l.foldl stepU acc, P s.1 ∧ P s.2) := by
  induction l generalizing acc with
  | nil => exact ⟨hn, fun c => by simp [inB], fun P h1 _ => h1⟩
  | cons s r ih =>
    have hsr := List.pairwise_cons.1 hs
    rw [List.foldl_cons]
    have hsok := hok s (by simp)
    rcases List.eq_nil_or_concat acc with rfl | ⟨a0, t, rfl⟩
    · rw [step_nil]
      have h1 := ih [s] ⟨by simpa using hsok, List.pairwise_singleton _ _⟩ (fun x hx => hok x (List.mem_cons_of_mem _ hx)) hsr.2 (fun t ht x hx => by
        simp at ht; subst ht; exact less_from (hsr.1 x hx))
      refine ⟨h1.1, fun c => ?_, fun P h2 h3 => h1.2.2 P (by simpa using h3 s (by simp)) (fun x hx => h3 x (List.mem_cons_of_mem _ hx))⟩
      rw [h1.2.1 c]; simp [inB]
    · rw [List.concat_eq_append] at *
      have hp := List.pairwise_append.1 hn.apart
      have htok := hn.valid t (by simp)
      have htf : bl s.1 t.1 = false := hb t (by simp) s (by simp)
      cases ht : bl t.2 s.1
      · rw [step_on _ _ _ ht]
        have hm : okR (t.1, mx t.2 s.2) := bl_le_trans htok (mx_ge1 _ _)
        have h1 := ih (a0 ++ [(t.1, mx t.2 s.2)]) ⟨fun x hx => by
            rcases List.mem_append.1 hx with hx | hx
            · exact hn.valid x (by simp [hx])
            · simp at hx; subst hx; exact hm, List.pairwise_append.2 ⟨hp.1, List.pairwise_singleton _ _, fun a ha b hb' => by
            simp at hb'; subst hb'; exact hp.2.2 a ha t (by simp)⟩⟩ (fun x hx => hok x (List.mem_cons_of_mem _ hx)) hsr.2 (fun u hu x hx => by
            simp at hu; subst hu; exact hb t (by simp) x (List.mem_cons_of_mem _ hx))
        refine ⟨h1.1, fun c => ?_, fun P h2 h3 => h1.2.2 P (fun x hx => ?_) (fun x hx => h3 x (List.mem_cons_of_mem _ hx))⟩
        · rw [h1.2.1 c, inB_app, inB_app, Bool.eq_iff_iff]
          simp only [Bool.or_eq_true, inB_iff, List.mem_cons, exists_eq_or_imp]
          have key : (bl c t.1 = false ∧ bl (mx t.2 s.2) c = false) ↔ ((bl c t.1 = false ∧ bl t.2 c = false) ∨ (bl c s.1 = false ∧ bl s.2 c = false)) := by
            constructor
            · rintro ⟨k1, k2⟩
              cases hc : bl t.2 c
              · exact .inl ⟨k1, rfl⟩
              · refine .inr ⟨?_, ?_⟩
                · have : bl s.1 c = true := bl_le_lt ht hc
                  exact bl_asym _ _ this
                · rcases mx_cases t.2 s.2 with e | e
                  · rw [e, hc] at k2; cases k2
                  · rw [e] at k2; exact k2
            · rintro (⟨k1, k2⟩ | ⟨k1, k2⟩)
              · exact ⟨k1, bl_le_trans k2 (mx_ge1 _ _)⟩
              · exact ⟨bl_le_trans htf k1, bl_le_trans k2 (mx_ge2 _ _)⟩
          rw [key]
          simp only [List.not_mem_nil, false_and, exists_false, or_false, or_assoc]
        · rcases List.mem_append.1 hx with hx | hx
          · exact h2 x (by simp [hx])
          · simp at hx; subst hx
            have h4 := h2 t (by simp)
            have h5 := h3 s (by simp)
            refine ⟨h4.1, ?_⟩
            rcases mx_cases t.2 s.2 with e | e
            · show P (mx t.2 s.2); rw [e]; exact h4.2
            · show P (mx t.2 s.2); rw [e]; exact h5.2
      · rw [step_new _ _ _ ht]
        have h1 := ih (a0 ++ [t] ++ [s]) ⟨fun x hx => by
            rcases List.mem_append.1 hx with hx | hx
            · exact hn.valid x hx
            · simp at hx; subst hx; exact hsok, List.pairwise_append.2 ⟨hn.apart, List.pairwise_singleton _ _, fun a ha b hb' => by
            simp at hb'; subst hb'
            rcases List.mem_append.1 ha with ha | ha
            · have h2 := hp.2.2 a ha t (by simp)
              exact bl_trans (bl_lt_le h2 htok) ht
            · simp at ha; subst ha; exact ht⟩⟩ (fun x hx => hok x (List.mem_cons_of_mem _ hx)) hsr.2 (fun u hu x hx => by
            simp at hu; subst hu; exact less_from (hsr.1 x hx))
        refine ⟨h1.1, fun c => ?_, fun P h2 h3 => h1.2.2 P (fun x hx => ?_) (fun x hx => h3 x (List.mem_cons_of_mem _ hx))⟩
        · rw [h1.2.1 c, inB_app (a0 ++ [t])]
          have : inB (s :: r) c = (inB [s] c || inB r c) := by simp [inB]
          rw [this, Bool.or_assoc]
        · rcases List.mem_append.1 hx with hx | hx
          · exact h2 x hx
          · simp at hx; subst hx; exact h3 x (by simp)
theorem uni_norm (l : List Rw) (hok : ∀ s ∈ l, okR s) (h : Sorted l) : Norm (uniF l) := (uni_inv l [] ⟨by simp, .nil⟩ hok h (by simp)).1
theorem uni_in (l : List Rw) (hok : ∀ s ∈ l, okR s) (h : Sorted l) (c : ByteArray) : inB (uniF l) c = inB l c := by
  have := (uni_inv l [] ⟨by simp, .nil⟩ hok h (by simp)).2.1 c
  rw [show uniF l = l.foldl stepU [] from rfl, this]; simp [inB]
theorem uni_all (l : List Rw) (hok : ∀ s ∈ l, okR s) (h : Sorted l) (P : ByteArray → Prop) (hP : ∀ s ∈ l, P s.1 ∧ P s.2) : ∀ s ∈ uniF l, P s.1 ∧ P s.2 :=
  (uni_inv l [] ⟨by simp, .nil⟩ hok h (by simp)).2.2 P (by simp) hP
theorem norm_sorted (l : List Rw) (h : Norm l) : Sorted l := by
  refine List.Pairwise.imp_of_mem (fun {a b} ha hb hab => ?_) h.apart
  have h1 := bl_le_lt (h.valid a ha) hab
  exact less_asym _ _ (by unfold less; rw [h1]; rfl)
theorem uni_self_aux (l acc : List Rw) (h : Norm (acc ++ l)) : l.foldl stepU acc = acc ++ l := by
  induction l generalizing acc with
  | nil => simp
  | cons s r ih =>
    rw [List.foldl_cons]
    have e : stepU acc s = acc ++ [s] := by
      rcases List.eq_nil_or_concat acc with rfl | ⟨a0, t, rfl⟩
      · rfl
      · rw [List.concat_eq_append] at *
        exact step_new _ _ _ ((List.pairwise_append.1 h.apart).2.2 t (by simp) s (by simp))
    rw [e, ih (acc ++ [s]) (by simpa using h)]; simp
theorem uni_self (l : List Rw) (h : Norm l) : uniF l = l := by
  have := uni_self_aux l [] (by simpa using h)
  simpa [uniF] using this
/-- The same row twice is as once. -/
theorem step_twice (acc : List Rw) (s : Rw) (hs : okR s) : stepU (stepU acc s) s = stepU acc s := by
  rcases List.eq_nil_or_concat acc with rfl | ⟨a0, t, rfl⟩
  · rw [step_nil]
    have := step_on [] s s hs
    rw [List.nil_append] at this
    rw [this, mx_self _ _ (bl_irr _)]; rfl
  · rw [List.concat_eq_append]
    cases ht : bl t.2 s.1
    · rw [step_on _ _ _ ht, step_on _ _ _ (by exact bl_le_trans hs (mx_ge2 _ _))]
      show a0 ++ [(t.1, mx (mx t.2 s.2) s.2)] = _
      rw [mx_self _ _ (mx_ge2 _ _)]
    · rw [step_new _ _ _ ht, step_on _ _ _ hs, mx_self _ _ (bl_irr _)]
/-- A sorted list, each row once. -/
def dd : List Rw → List Rw
  | [] => []
  | [a] => [a]
  | a :: b :: r => if a = b then dd (b :: r) else a :: dd (b :: r)
theorem dd_mem (l : List Rw) (s : Rw) : s ∈ dd l ↔ s ∈ l := by
  induction l with
  | nil => simp [dd]
  | cons a r ih =>
    cases r with
    | nil => simp [dd]
    | cons b r =>
      rw [dd]
      by_cases e : a = b
      · rw [if_pos e, ih]; subst e; simp
      · rw [if_neg e, List.mem_cons, ih]; simp
theorem dd_strict (l : List Rw) (h : Sorted l) : (dd l).Pairwise fun a b => less a b = true := by
  induction l with
  | nil => simp [dd]
  | cons a r ih =>
    cases r with
    | nil => simp [dd]
    | cons b r =>
      have hp := List.pairwise_cons.1 h
      rw [dd]
      by_cases e : a = b
      · rw [if_pos e]; exact ih hp.2
      · rw [if_neg e]
        refine List.pairwise_cons.2 ⟨fun x hx => ?_, ih hp.2⟩
        rw [dd_mem] at hx
        have h1 : le a b := hp.1 b (by simp)
        have h2 : le b x := by
          rcases List.mem_cons.1 hx with rfl | hx
          · exact le_refl _
          · exact (List.pairwise_cons.1 hp.2).1 x hx
        cases hl : less a x
        · exfalso
          have h3 : le x a := hl
          exact e (le_antisymm h1 (le_trans h2 h3))
        · rfl
theorem dd_uni (l acc : List Rw) (hok : ∀ s ∈ l, okR s) : (dd l).foldl stepU acc = l.foldl stepU acc := by
  induction l generalizing acc with
  | nil => rfl
  | cons a r ih =>
    cases r with
    | nil => rfl
    | cons b r =>
      rw [dd]
      have hok2 : ∀ s ∈ b :: r, okR s := fun s hs => hok s (List.mem_cons_of_mem _ hs)
      by_cases e : a = b
      · rw [if_pos e, ih acc hok2]
        subst e
        rw [List.foldl_cons, List.foldl_cons, List.foldl_cons, step_twice _ _ (hok a (by simp))]
      · rw [if_neg e, List.foldl_cons, List.foldl_cons, ih _ hok2]
theorem strict_eq {l k : List Rw} (hl : l.Pairwise fun a b => less a b = true) (hk : k.Pairwise fun a b => less a b = true) (h : ∀ s, s ∈ l ↔ s ∈ k) : l = k := by
  have nl : l.Nodup := hl.imp (fun {a b} hab e => by subst e; rw [less_irr] at hab; cases hab)
  have nk : k.Nodup := hk.imp (fun {a b} hab e => by subst e; rw [less_irr] at hab; cases hab)
  exact sorted_perm ((List.perm_ext_iff_of_nodup nl nk).2 h) (hl.imp (fun {a b} hab => less_asym _ _ hab)) (hk.imp (fun {a b} hab => less_asym _ _ hab))
theorem uni_same (l k : List Rw) (hok : ∀ s ∈ l, okR s) (h : ∀ s, s ∈ l ↔ s ∈ k) : uniF (sortS l) = uniF (sortS k) := by
  have hok1 : ∀ s ∈ sortS l, okR s := fun s hs => hok s ((sortS_perm l).mem_iff.1 hs)
  have hok2 : ∀ s ∈ sortS k, okR s := fun s hs => hok s ((h s).2 ((sortS_perm k).mem_iff.1 hs))
  have e : dd (sortS l) = dd (sortS k) := strict_eq (dd_strict _ (sortS_sorted l)) (dd_strict _ (sortS_sorted k)) fun s => by
    rw [dd_mem, dd_mem, (sortS_perm l).mem_iff, (sortS_perm k).mem_iff, h s]
  unfold uniF
  rw [← dd_uni _ _ hok1, ← dd_uni _ _ hok2, e]
end Go.Proofs.Ytcgphknnnjpbkaa.SetM
