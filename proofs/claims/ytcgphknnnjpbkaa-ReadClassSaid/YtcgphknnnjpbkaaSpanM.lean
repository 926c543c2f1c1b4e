/- Plain facts on stretches: lists of pairs of integers, sorted, put together. No program; no condition. -/
namespace Go.Proofs.Ytcgphknnnjpbkaa.SpanM
abbrev Sp := Int × Int
def less (a b : Sp) : Bool := decide (a.1 < b.1) || (decide (a.1 = b.1) && decide (a.2 < b.2))
def le (a b : Sp) : Prop := a.1 < b.1 ∨ (a.1 = b.1 ∧ a.2 ≤ b.2)
def touch (a b : Sp) : Bool := decide (max a.1 b.1 ≤ min a.2 b.2)
def stepU (acc : List Sp) (s : Sp) : List Sp :=
  if s.1 > s.2 then acc else
  match acc.getLast? with
  | none => [s]
  | some t => if touch t s then acc.dropLast ++ [(t.1, max t.2 s.2)] else acc ++ [s]
def uniF (l : List Sp) : List Sp := l.foldl stepU []
def Sorted (l : List Sp) : Prop := l.Pairwise le
/-- covered, between the places too: x runs over halves. -/
def cov (l : List Sp) (x : Int) : Prop := ∃ s ∈ l, 2 * s.1 ≤ x ∧ x ≤ 2 * s.2
structure Norm (l : List Sp) : Prop where
  valid : ∀ s ∈ l, s.1 ≤ s.2
  apart : l.Pairwise fun a b => a.2 < b.1
theorem le_refl (a : Sp) : le a a := .inr ⟨rfl, Int.le_refl _⟩
theorem le_antisymm {a b : Sp} (h : le a b) (k : le b a) : a = b := by
  obtain ⟨a1, a2⟩ := a; obtain ⟨b1, b2⟩ := b
  unfold le at h k; simp only at h k
  have : a1 = b1 := by omega
  have : a2 = b2 := by omega
  simp_all
theorem sorted_perm {l k : List Sp} (h : l.Perm k) (hl : Sorted l) (hk : Sorted k) : l = k :=
  List.Perm.eq_of_pairwise (fun _ _ _ _ h1 h2 => le_antisymm h1 h2) hl hk h
/-- The last one of what is put together so far, and what is sorted behind. -/
theorem uni_inv (l acc : List Sp) (hn : Norm acc) (hs : Sorted l) (hb : ∀ t ∈ acc.getLast?, ∀ s ∈ l, t.1 ≤ s.1) :
    Norm (l.foldl stepU acc) ∧ ∀ x, cov (l.foldl stepU acc) x ↔ (cov acc x ∨ cov l x) := by
  induction l generalizing acc with
  | nil => exact ⟨hn, fun x => by simp [cov]⟩
  | cons s r ih =>
    rw [List.foldl_cons]
    have hsr := List.pairwise_cons.1 hs
    by_cases hv : s.1 > s.2
    · have e : stepU acc s = acc := by unfold stepU; rw [if_pos hv]
      rw [e]
      obtain ⟨h1, h2⟩ := ih acc hn hsr.2 (fun t ht u hu => hb t ht u (List.mem_cons_of_mem _ hu))
      refine ⟨h1, fun x => (h2 x).trans ?_⟩
      constructor
      · rintro (h | ⟨u, hu, h⟩)
        · exact .inl h
        · exact .inr ⟨u, List.mem_cons_of_mem _ hu, h⟩
      · rintro (h | ⟨u, hu, h⟩)
        · exact .inl h
        · rcases List.mem_cons.1 hu with rfl | hu
          · omega
          · exact .inr ⟨u, hu, h⟩
    · have hfrom : ∀ u ∈ r, s.1 ≤ u.1 := fun u hu => by
        rcases hsr.1 u hu with h | h
        · omega
        · omega
      rcases List.eq_nil_or_concat acc with rfl | ⟨a0, t, rfl⟩
      · have e : stepU [] s = [s] := by unfold stepU; rw [if_neg hv]; rfl
        rw [e]
        obtain ⟨h1, h2⟩ := ih [s] ⟨by intro u hu; rw [List.mem_singleton] at hu; subst hu; omega, List.pairwise_singleton _ _⟩ hsr.2 (fun t ht u hu => by simp at ht; subst ht; exact hfrom u hu)
        refine ⟨h1, fun x => (h2 x).trans ?_⟩
        simp [cov]
      · rw [List.concat_eq_append] at *
        have hlast : (a0 ++ [t]).getLast? = some t := by simp
        have hts : t.1 ≤ s.1 := hb t (by rw [hlast]; rfl) s (by simp)
        have htv : t.1 ≤ t.2 := hn.valid t (by simp)
        have hpw := List.pairwise_append.1 hn.apart
        by_cases ht : touch t s = true
        · have e : stepU (a0 ++ [t]) s = a0 ++ [(t.1, max t.2 s.2)] := by unfold stepU; rw [if_neg hv, hlast]; simp [ht]
          rw [e]
          have ht' : max t.1 s.1 ≤ min t.2 s.2 := by simpa [touch] using ht
          obtain ⟨h1, h2⟩ := ih (a0 ++ [(t.1, max t.2 s.2)]) ⟨by
              intro u hu
              rcases List.mem_append.1 hu with hu | hu
              · exact hn.valid u (by simp [hu])
              · rw [List.mem_singleton] at hu; subst hu; show t.1 ≤ max t.2 s.2; omega, by
              refine List.pairwise_append.2 ⟨hpw.1, List.pairwise_singleton _ _, fun a ha b hb' => ?_⟩
              rw [List.mem_singleton] at hb'; subst hb'
              exact hpw.2.2 a ha t (by simp)⟩ hsr.2 (fun u hu v hv' => by simp at hu; subst hu; have := hfrom v hv'; show t.1 ≤ v.1; omega)
          refine ⟨h1, fun x => (h2 x).trans ?_⟩
          constructor
          · rintro (⟨u, hu, h⟩ | ⟨u, hu, h⟩)
            · rcases List.mem_append.1 hu with hu | hu
              · exact .inl ⟨u, by simp [hu], h⟩
              · rw [List.mem_singleton] at hu; subst hu
                simp only at h
                by_cases hx : x ≤ 2 * t.2
                · exact .inl ⟨t, by simp, by omega⟩
                · exact .inr ⟨s, by simp, by omega⟩
            · exact .inr ⟨u, List.mem_cons_of_mem _ hu, h⟩
          · rintro (⟨u, hu, h⟩ | ⟨u, hu, h⟩)
            · rcases List.mem_append.1 hu with hu | hu
              · exact .inl ⟨u, by simp [hu], h⟩
              · rw [List.mem_singleton] at hu; subst hu
                exact .inl ⟨(u.1, max u.2 s.2), by simp, by simp only; omega⟩
            · rcases List.mem_cons.1 hu with rfl | hu
              · exact .inl ⟨(t.1, max t.2 u.2), by simp, by simp only; omega⟩
              · exact .inr ⟨u, hu, h⟩
        · have e : stepU (a0 ++ [t]) s = a0 ++ [t] ++ [s] := by unfold stepU; rw [if_neg hv, hlast]; simp [ht]
          rw [e]
          have ht' : ¬ (max t.1 s.1 ≤ min t.2 s.2) := by simpa [touch] using ht
          have hlt : t.2 < s.1 := by omega
          obtain ⟨h1, h2⟩ := ih (a0 ++ [t] ++ [s]) ⟨by
              intro u hu
              rcases List.mem_append.1 hu with hu | hu
              · exact hn.valid u hu
              · rw [List.mem_singleton] at hu; subst hu; omega, by
              refine List.pairwise_append.2 ⟨hn.apart, List.pairwise_singleton _ _, fun a ha b hb' => ?_⟩
              rw [List.mem_singleton] at hb'; subst hb'
              rcases List.mem_append.1 ha with ha | ha
              · have := hpw.2.2 a ha t (by simp); omega
              · rw [List.mem_singleton] at ha; subst ha; exact hlt⟩ hsr.2 (fun u hu v hv' => by simp at hu; subst hu; exact hfrom v hv')
          refine ⟨h1, fun x => (h2 x).trans ?_⟩
          constructor
          · rintro (⟨u, hu, h⟩ | ⟨u, hu, h⟩)
            · rcases List.mem_append.1 hu with hu | hu
              · exact .inl ⟨u, hu, h⟩
              · rw [List.mem_singleton] at hu; subst hu
                exact .inr ⟨u, by simp, h⟩
            · exact .inr ⟨u, List.mem_cons_of_mem _ hu, h⟩
          · rintro (⟨u, hu, h⟩ | ⟨u, hu, h⟩)
            · exact .inl ⟨u, List.mem_append_left _ hu, h⟩
            · rcases List.mem_cons.1 hu with rfl | hu
              · exact .inl ⟨u, by simp, h⟩
              · exact .inr ⟨u, hu, h⟩
theorem uni_norm (l : List Sp) (h : Sorted l) : Norm (uniF l) := (uni_inv l [] ⟨by simp, .nil⟩ h (by simp)).1
theorem uni_cov (l : List Sp) (h : Sorted l) (x : Int) : cov (uniF l) x ↔ cov l x := by
  have := (uni_inv l [] ⟨by simp, .nil⟩ h (by simp)).2 x
  exact this.trans (by simp [cov])
theorem norm_tail {a : Sp} {l : List Sp} (h : Norm (a :: l)) : Norm l := ⟨fun s hs => h.valid s (List.mem_cons_of_mem _ hs), (List.pairwise_cons.1 h.apart).2⟩
theorem norm_eq (l k : List Sp) (hl : Norm l) (hk : Norm k) (h : ∀ x, cov l x ↔ cov k x) : l = k := by
  induction l generalizing k with
  | nil =>
    cases k with
    | nil => rfl
    | cons b r =>
      have hv := hk.valid b (by simp)
      have : cov (b :: r) (2 * b.1) := ⟨b, by simp, by omega⟩
      obtain ⟨u, hu, _⟩ := (h _).2 this
      simp at hu
  | cons a l ih =>
    cases k with
    | nil =>
      have hv := hl.valid a (by simp)
      have : cov (a :: l) (2 * a.1) := ⟨a, by simp, by omega⟩
      obtain ⟨u, hu, _⟩ := (h _).1 this
      simp at hu
    | cons b r =>
      have hla := (List.pairwise_cons.1 hl.apart).1
      have hkb := (List.pairwise_cons.1 hk.apart).1
      have hva := hl.valid a (by simp)
      have hvb := hk.valid b (by simp)
      have e1 : a.1 = b.1 := by
        have h1 : cov (b :: r) (2 * a.1) := (h _).1 ⟨a, by simp, by omega⟩
        have h2 : cov (a :: l) (2 * b.1) := (h _).2 ⟨b, by simp, by omega⟩
        obtain ⟨u, hu, h1⟩ := h1
        obtain ⟨v, hv, h2⟩ := h2
        have hu' : b.1 ≤ u.1 := by
          rcases List.mem_cons.1 hu with rfl | hu
          · omega
          · have := hkb u hu; omega
        have hv' : a.1 ≤ v.1 := by
          rcases List.mem_cons.1 hv with rfl | hv
          · omega
          · have := hla v hv; omega
        omega
      have e2 : a.2 = b.2 := by
        rcases Int.lt_trichotomy a.2 b.2 with hlt | heq | hgt
        · exfalso
          obtain ⟨u, hu, h1⟩ := (h (2 * a.2 + 1)).2 ⟨b, by simp, by omega⟩
          rcases List.mem_cons.1 hu with rfl | hu
          · omega
          · have := hla u hu; omega
        · exact heq
        · exfalso
          obtain ⟨u, hu, h1⟩ := (h (2 * b.2 + 1)).1 ⟨a, by simp, by omega⟩
          rcases List.mem_cons.1 hu with rfl | hu
          · omega
          · have := hkb u hu; omega
      have hab : a = b := Prod.ext e1 e2
      subst hab
      rw [ih r (norm_tail hl) (norm_tail hk) fun x => ?_]
      have hx := h x
      constructor
      · rintro ⟨u, hu, h1⟩
        have hq : cov (a :: r) x := hx.1 ⟨u, List.mem_cons_of_mem _ hu, h1⟩
        obtain ⟨v, hv, h2⟩ := hq
        rcases List.mem_cons.1 hv with rfl | hv
        · have := hla u hu; omega
        · exact ⟨v, hv, h2⟩
      · rintro ⟨u, hu, h1⟩
        have hq : cov (a :: l) x := hx.2 ⟨u, List.mem_cons_of_mem _ hu, h1⟩
        obtain ⟨v, hv, h2⟩ := hq
        rcases List.mem_cons.1 hv with rfl | hv
        · have := hkb u hu; omega
        · exact ⟨v, hv, h2⟩
theorem norm_sorted (l : List Sp) (h : Norm l) : Sorted l := by
  refine h.apart.imp_of_mem fun {a b} ha hb hab => .inl ?_
  have := h.valid a ha
  omega
theorem uni_self (l : List Sp) (h : Norm l) : uniF l = l := norm_eq _ _ (uni_norm l (norm_sorted l h)) h (uni_cov l (norm_sorted l h))
/-- Two sorted lists that cover the same. -/
theorem uni_eq (l k : List Sp) (hl : Sorted l) (hk : Sorted k) (h : ∀ x, cov l x ↔ cov k x) : uniF l = uniF k :=
  norm_eq _ _ (uni_norm l hl) (uni_norm k hk) fun x => (uni_cov l hl x).trans ((h x).trans (uni_cov k hk x).symm)
theorem cov_mem {l k : List Sp} (h : ∀ s, s ∈ l ↔ s ∈ k) (x : Int) : cov l x ↔ cov k x :=
  ⟨fun ⟨s, hs, hx⟩ => ⟨s, (h s).1 hs, hx⟩, fun ⟨s, hs, hx⟩ => ⟨s, (h s).2 hs, hx⟩⟩
theorem cov_append (l k : List Sp) (x : Int) : cov (l ++ k) x ↔ cov l x ∨ cov k x := by
  simp only [cov, List.mem_append]
  constructor
  · rintro ⟨s, hs | hs, h⟩
    · exact .inl ⟨s, hs, h⟩
    · exact .inr ⟨s, hs, h⟩
  · rintro (⟨s, hs, h⟩ | ⟨s, hs, h⟩)
    · exact ⟨s, .inl hs, h⟩
    · exact ⟨s, .inr hs, h⟩
-- apart
def R (a b : Sp) : Prop := a.1 < b.1 ∧ a.2 ≤ b.1
instance (a b : Sp) : Decidable (R a b) := inferInstanceAs (Decidable (_ ∧ _))
def apF : List Sp → Bool
  | [] => true
  | [a] => decide (a.1 ≤ a.2)
  | a :: b :: r => decide (a.1 ≤ a.2) && decide (R a b) && apF (b :: r)
theorem apF_iff (l : List Sp) : apF l = true ↔ (∀ s ∈ l, s.1 ≤ s.2) ∧ l.Pairwise R := by
  induction l with
  | nil => simp [apF]
  | cons a l ih =>
    cases l with
    | nil => simp [apF]
    | cons b r =>
      rw [apF, Bool.and_eq_true, Bool.and_eq_true, ih, decide_eq_true_iff, decide_eq_true_iff]
      constructor
      · rintro ⟨⟨h1, h2⟩, h3, h4⟩
        refine ⟨fun s hs => ?_, List.pairwise_cons.2 ⟨fun u hu => ?_, h4⟩⟩
        · rcases List.mem_cons.1 hs with rfl | hs
          · exact h1
          · exact h3 s hs
        · rcases List.mem_cons.1 hu with rfl | hu
          · exact h2
          · have h5 := (List.pairwise_cons.1 h4).1 u hu
            unfold R at *; omega
      · rintro ⟨h1, h2⟩
        exact ⟨⟨h1 a (by simp), (List.pairwise_cons.1 h2).1 b (by simp)⟩, fun s hs => h1 s (List.mem_cons_of_mem _ hs), (List.pairwise_cons.1 h2).2⟩
end Go.Proofs.Ytcgphknnnjpbkaa.SpanM
