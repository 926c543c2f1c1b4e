/- Plain facts: what turns edits back; where a byte that no edit takes away goes. No program; no condition. -/
import Derived.Test.YtjmoeahlbgdkbaaEdF
namespace Go.Proofs.Ytjmoeahlbgdkbaa
open SpanM EdM
def inv (s : Bs) : Int → List Ed → List Ed
  | _, [] => []
  | d, e :: r => ((e.1.1 + d, e.1.1 + d + len e), mkT ((s.take e.1.2.toNat).drop e.1.1.toNat)) :: inv s (d + dl e) r
theorem inv_cons (s : Bs) (d : Int) (e : Ed) (r : List Ed) : inv s d (e :: r) = ((e.1.1 + d, e.1.1 + d + len e), mkT ((s.take e.1.2.toNat).drop e.1.1.toNat)) :: inv s (d + dl e) r := rfl
theorem inv_app (s : Bs) (a b : List Ed) : ∀ d, inv s d (a ++ b) = inv s d a ++ inv s (d + tot a) b := by
  induction a with
  | nil => intro d; simp [inv, tot]
  | cons e r ih =>
    intro d
    rw [List.cons_append, inv_cons, inv_cons, ih, tot_cons, List.cons_append, show d + (dl e + tot r) = d + dl e + tot r by omega]
theorem inv_len (s : Bs) (l : List Ed) : ∀ d, (inv s d l).length = l.length := by
  induction l with
  | nil => intro d; rfl
  | cons e r ih => intro d; unfold inv; simp [ih]
def joinE (g e : Ed) : Ed := ((g.1.1, e.1.2), mkT (bts g.2 ++ bts e.2))
def stepG (acc : List Ed) (e : Ed) : List Ed :=
  match acc.getLast? with
  | none => [e]
  | some g => if g.1.2 = e.1.1 then acc.dropLast ++ [joinE g e] else acc ++ [e]
def grp (l : List Ed) : List Ed := l.foldl stepG []
theorem grp_snoc (l : List Ed) (e : Ed) : grp (l ++ [e]) = stepG (grp l) e := by unfold grp; rw [List.foldl_append]; rfl
theorem stepG_nil (e : Ed) : stepG [] e = [e] := rfl
theorem stepG_on (a : List Ed) (g e : Ed) (h : g.1.2 = e.1.1) : stepG (a ++ [g]) e = a ++ [joinE g e] := by unfold stepG; simp [h]
theorem stepG_new (a : List Ed) (g e : Ed) (h : g.1.2 ≠ e.1.1) : stepG (a ++ [g]) e = a ++ [g] ++ [e] := by unfold stepG; simp [h]
theorem len_join (g e : Ed) : len (joinE g e) = len g + len e := by
  unfold len joinE
  simp only [mk_size, List.length_append, bts_len]; omega
theorem dl_join (g e : Ed) (h : g.1.2 = e.1.1) : dl (joinE g e) = dl g + dl e := by
  unfold dl
  rw [len_join]
  show _ - (e.1.2 - g.1.1) = _
  omega
theorem snoc_ind {P : List Ed → Prop} (h0 : P []) (h1 : ∀ l e, P l → P (l ++ [e])) (l : List Ed) : P l := by
  have : ∀ n (l : List Ed), l.length = n → P l := by
    intro n
    induction n with
    | zero => intro l hl; have := List.eq_nil_of_length_eq_zero hl; subst this; exact h0
    | succ n ih =>
      intro l hl
      rcases List.eq_nil_or_concat l with rfl | ⟨a, x, rfl⟩
      · exact h0
      · rw [List.concat_eq_append] at *
        exact h1 a x (ih a (by simpa using hl))
  exact this _ l rfl
theorem tot_one (e : Ed) : tot [e] = dl e := by rw [tot_cons]; simp [tot]
theorem grp_tot (l : List Ed) : tot (grp l) = tot l := by
  refine snoc_ind (P := fun l => tot (grp l) = tot l) rfl (fun l e ih => ?_) l
  rw [grp_snoc, tot_app, tot_one, ← ih]
  rcases List.eq_nil_or_concat (grp l) with h | ⟨a, g, h⟩
  · rw [h, stepG_nil, tot_one]; simp [tot]
  · rw [h, List.concat_eq_append]
    by_cases hg : g.1.2 = e.1.1
    · rw [stepG_on _ _ _ hg, tot_app, tot_app, tot_one, tot_one, dl_join _ _ hg]; omega
    · rw [stepG_new _ _ _ hg, tot_app, tot_app, tot_one]; simp only [tot_one]
theorem grp_le (l : List Ed) : (grp l).length ≤ l.length := by
  refine snoc_ind (P := fun l => (grp l).length ≤ l.length) (Nat.le_refl _) (fun l e ih => ?_) l
  rw [grp_snoc]
  rcases List.eq_nil_or_concat (grp l) with h | ⟨a, g, h⟩
  · rw [h, stepG_nil]; simp
  · rw [h, List.concat_eq_append] at ih ⊢
    by_cases hg : g.1.2 = e.1.1
    · rw [stepG_on _ _ _ hg]; simp at ih ⊢; omega
    · rw [stepG_new _ _ _ hg]; simp at ih ⊢; omega
theorem chain_snoc {n : Int} {l : List Ed} {e : Ed} : ∀ {a : Int}, Chain n a (l ++ [e]) ↔ Chain e.1.1 a l ∧ e.1.1 ≤ e.1.2 ∧ e.1.2 ≤ n := by
  induction l with
  | nil => intro a; exact ⟨fun ⟨h1, h2, h3⟩ => ⟨h1, h2, h3⟩, fun ⟨h1, h2, h3⟩ => ⟨h1, h2, h3⟩⟩
  | cons x r ih => intro a; exact ⟨fun ⟨h1, h2, h3⟩ => ⟨⟨h1, h2, (ih.1 h3).1⟩, (ih.1 h3).2⟩, fun ⟨⟨h1, h2, h3⟩, h4⟩ => ⟨h1, h2, ih.2 ⟨h3, h4⟩⟩⟩
theorem grp_chain (l : List Ed) : ∀ {n a : Int}, Chain n a l → Chain n a (grp l) := by
  refine snoc_ind (P := fun l => ∀ {n a : Int}, Chain n a l → Chain n a (grp l)) (fun h => h) (fun l e ih => ?_) l
  intro n a h
  rw [chain_snoc] at h
  have h1 := ih h.1
  rw [grp_snoc]
  rcases List.eq_nil_or_concat (grp l) with hg | ⟨b, g, hg⟩
  · rw [hg] at h1 ⊢
    rw [stepG_nil]
    exact ⟨h1, h.2.1, h.2.2⟩
  · rw [hg, List.concat_eq_append] at h1 ⊢
    by_cases he : g.1.2 = e.1.1
    · rw [stepG_on _ _ _ he, chain_snoc]
      rw [chain_snoc] at h1
      exact ⟨h1.1, by show g.1.1 ≤ e.1.2; omega, h.2.2⟩
    · rw [stepG_new _ _ _ he, chain_snoc]
      exact ⟨h1, h.2⟩
def Sep (l : List Ed) : Prop := l.Pairwise fun a b => a.1.2 < b.1.1
theorem grp_sep (l : List Ed) : ∀ {n a : Int}, Chain n a l → Sep (grp l) := by
  refine snoc_ind (P := fun l => ∀ {n a : Int}, Chain n a l → Sep (grp l)) (fun _ => .nil) (fun l e ih => ?_) l
  intro n a h
  rw [chain_snoc] at h
  have h1 := ih h.1
  have h2 := grp_chain l h.1
  rw [grp_snoc]
  rcases List.eq_nil_or_concat (grp l) with hg | ⟨b, g, hg⟩
  · rw [hg, stepG_nil]; exact List.pairwise_singleton _ _
  · rw [hg, List.concat_eq_append] at h1 h2 ⊢
    obtain ⟨p1, p2, p3⟩ := List.pairwise_append.1 h1
    by_cases he : g.1.2 = e.1.1
    · rw [stepG_on _ _ _ he]
      exact List.pairwise_append.2 ⟨p1, List.pairwise_singleton _ _, fun x hx y hy => by
        rw [List.mem_singleton] at hy; subst hy; exact p3 x hx g (by simp)⟩
    · rw [stepG_new _ _ _ he]
      refine List.pairwise_append.2 ⟨h1, List.pairwise_singleton _ _, fun x hx y hy => ?_⟩
      rw [List.mem_singleton] at hy; subst hy
      rw [chain_snoc] at h2
      rcases List.mem_append.1 hx with hx | hx
      · have := p3 x hx g (by simp); omega
      · rw [List.mem_singleton] at hx; subst hx; omega
theorem grp_self (l : List Ed) : Sep l → grp l = l := by
  refine snoc_ind (P := fun l => Sep l → grp l = l) (fun _ => rfl) (fun l e ih => ?_) l
  intro h
  obtain ⟨p1, _, p3⟩ := List.pairwise_append.1 h
  rw [grp_snoc, ih p1]
  rcases List.eq_nil_or_concat l with rfl | ⟨b, g, rfl⟩
  · rfl
  · rw [List.concat_eq_append] at *
    have := p3 g (by simp) e (by simp)
    rw [stepG_new _ _ _ (by omega)]
theorem one_two (u : Bs) (g e : Ed) (h : g.1.2 = e.1.1) (h1 : g.1.1 ≤ g.1.2) (h2 : e.1.1 ≤ e.1.2) (h3 : e.1.2 ≤ u.length) : EdM.one (EdM.one u e) g = EdM.one u (joinE g e) := by
  have e1 : (EdM.one u e).take g.1.1.toNat = u.take g.1.1.toNat := by
    unfold EdM.one
    rw [List.append_assoc, List.take_append_of_le_length (by rw [List.length_take]; omega), List.take_take]
    congr 1; omega
  have e2 : (EdM.one u e).drop g.1.2.toNat = tx e ++ u.drop e.1.2.toNat := by
    unfold EdM.one
    have hl : (u.take e.1.1.toNat).length = g.1.2.toNat := by rw [List.length_take]; omega
    rw [List.append_assoc, List.drop_append_of_le_length (by omega), List.drop_of_length_le (by omega)]; rfl
  have e3 : tx (joinE g e) = tx g ++ tx e := by
    show bts (mkT _) = _
    rw [bts_mk]; rfl
  have e4 : EdM.one (EdM.one u e) g = (EdM.one u e).take g.1.1.toNat ++ tx g ++ (EdM.one u e).drop g.1.2.toNat := rfl
  rw [e4, e1, e2]
  unfold EdM.one
  rw [e3]
  show _ = u.take g.1.1.toNat ++ (tx g ++ tx e) ++ u.drop e.1.2.toNat
  simp [List.append_assoc]
theorem appR_one (s : Bs) (e : Ed) : appR s [e] = EdM.one s e := rfl
theorem grp_app (l : List Ed) : ∀ (s : Bs), Chain s.length 0 l → appR s (grp l) = appR s l := by
  refine snoc_ind (P := fun l => ∀ (s : Bs), Chain s.length 0 l → appR s (grp l) = appR s l) (fun _ _ => rfl) (fun l e ih => ?_) l
  intro s h
  rw [chain_snoc] at h
  have hc := grp_chain l h.1
  have hf : 0 ≤ e.1.1 := chain_le h.1
  have hlen := one_len s e hf h.2.1 h.2.2
  have hnn := len_nn e
  have hih := ih (EdM.one s e) (by
    have : Chain e.1.1 0 l := h.1
    have mono : ∀ {l : List Ed} {a m n : Int}, Chain m a l → m ≤ n → Chain n a l := by
      intro l
      induction l with
      | nil => intro a m n h1 h2; unfold Chain at *; omega
      | cons x r ih => intro a m n h1 h2; exact ⟨h1.1, h1.2.1, ih h1.2.2 h2⟩
    exact mono this (by rw [hlen]; unfold dl; omega))
  rw [appR_app, appR_one, grp_snoc, ← hih]
  rcases List.eq_nil_or_concat (grp l) with hg | ⟨b, g, hg⟩
  · rw [hg]; rfl
  · rw [hg, List.concat_eq_append] at hc ⊢
    rw [chain_snoc] at hc
    by_cases he : g.1.2 = e.1.1
    · rw [stepG_on _ _ _ he, appR_app, appR_app, appR_one, appR_one, one_two s g e he hc.2.1 h.2.1 h.2.2]
    · rw [stepG_new _ _ _ he, appR_app _ (b ++ [g]) [e], appR_one]
-- what turns back
theorem inv_chain (s : Bs) (l : List Ed) : ∀ {n a d : Int}, Chain n a l → Chain (n + d + tot l) (a + d) (inv s d l) := by
  induction l with
  | nil => intro n a d h; unfold inv Chain at *; simp [tot]; omega
  | cons e r ih =>
    intro n a d h
    obtain ⟨h1, h2, h3⟩ := h
    have h4 := ih (d := d + dl e) h3
    have := len_nn e
    unfold inv
    refine ⟨by show a + d ≤ e.1.1 + d; omega, by show e.1.1 + d ≤ e.1.1 + d + len e; omega, ?_⟩
    show Chain _ (e.1.1 + d + len e) _
    rw [tot_cons]
    have e1 : e.1.2 + (d + dl e) = e.1.1 + d + len e := by unfold dl; omega
    have e2 : n + (d + dl e) + tot r = n + d + (dl e + tot r) := by omega
    rw [e1, e2] at h4
    exact h4
theorem inv_sep (s : Bs) (l : List Ed) : ∀ {n a d : Int}, Chain n a l → Sep l → Sep (inv s d l) ∧ ∀ c, (∀ x ∈ l, c < x.1.1) → ∀ y ∈ inv s d l, c + d < y.1.1 := by
  induction l with
  | nil => intro n a d _ _; exact ⟨.nil, fun c _ y hy => by simp [inv] at hy⟩
  | cons e r ih =>
    intro n a d h hs
    obtain ⟨h1, h2, h3⟩ := h
    obtain ⟨p1, p2⟩ := List.pairwise_cons.1 hs
    obtain ⟨h4, h5⟩ := ih (d := d + dl e) h3 p2
    have hn := len_nn e
    have h6 := h5 e.1.2 p1
    unfold inv
    refine ⟨List.pairwise_cons.2 ⟨fun y hy => ?_, h4⟩, fun c hc y hy => ?_⟩
    · have := h6 y hy
      show e.1.1 + d + len e < y.1.1
      unfold dl at this; omega
    · have hce := hc e (by simp)
      rcases List.mem_cons.1 hy with rfl | hy
      · show c + d < e.1.1 + d; omega
      · have := h6 y hy
        unfold dl at this; omega
theorem undo (s : Bs) (l : List Ed) : ∀ (a d : Int) (P : Bs), 0 ≤ a → Chain s.length a l → (P.length : Int) = a + d → appL (P ++ appL s a l) (a + d) (inv s d l) = s.drop a.toNat := by
  induction l with
  | nil =>
    intro a d P h0 h hP
    show (P ++ s.drop a.toNat).drop (a + d).toNat = _
    rw [List.drop_append_of_le_length (by omega), List.drop_of_length_le (by omega)]; rfl
  | cons e r ih =>
    intro a d P h0 h hP
    obtain ⟨h1, h2, h3⟩ := h
    have hn := chain_le h3
    have hl := tx_len e
    have hlen := len_nn e
    have e0 : appL s a (e :: r) = (s.take e.1.1.toNat).drop a.toNat ++ tx e ++ appL s e.1.2 r := rfl
    have hmid : ((s.take e.1.1.toNat).drop a.toNat).length = (e.1.1 - a).toNat := by rw [List.length_drop, List.length_take]; omega
    have hih := ih e.1.2 (d + dl e) (P ++ (s.take e.1.1.toNat).drop a.toNat ++ tx e) (by omega) h3 (by
      rw [List.length_append, List.length_append, hmid]; unfold dl; omega)
    have eT : P ++ appL s a (e :: r) = P ++ (s.take e.1.1.toNat).drop a.toNat ++ tx e ++ appL s e.1.2 r := by rw [e0]; simp [List.append_assoc]
    rw [eT]
    generalize hT : P ++ (s.take e.1.1.toNat).drop a.toNat ++ tx e ++ appL s e.1.2 r = T at *
    have e1 : inv s d (e :: r) = ((e.1.1 + d, e.1.1 + d + len e), mkT ((s.take e.1.2.toNat).drop e.1.1.toNat)) :: inv s (d + dl e) r := rfl
    rw [e1]
    show (T.take (e.1.1 + d).toNat).drop (a + d).toNat ++ bts (mkT ((s.take e.1.2.toNat).drop e.1.1.toNat)) ++ appL T (e.1.1 + d + len e) (inv s (d + dl e) r) = _
    have e2 : e.1.2 + (d + dl e) = e.1.1 + d + len e := by unfold dl; omega
    rw [e2] at hih
    rw [hih, bts_mk]
    have e3 : (T.take (e.1.1 + d).toNat).drop (a + d).toNat = (s.take e.1.1.toNat).drop a.toNat := by
      rw [← hT, List.append_assoc (P ++ _), List.take_append_of_le_length (by rw [List.length_append, hmid]; omega), List.take_of_length_le (by rw [List.length_append, hmid]; omega), List.drop_append_of_le_length (by omega), List.drop_of_length_le (by omega)]; rfl
    rw [e3]
    have e4 : (s.take e.1.2.toNat).drop e.1.1.toNat ++ s.drop e.1.2.toNat = s.drop e.1.1.toNat := by
      have : s.drop e.1.1.toNat = (s.take e.1.2.toNat ++ s.drop e.1.2.toNat).drop e.1.1.toNat := by rw [List.take_append_drop]
      rw [this, List.drop_append_of_le_length (by rw [List.length_take]; omega)]
    rw [List.append_assoc, e4]
    have : s.drop a.toNat = (s.take e.1.1.toNat ++ s.drop e.1.1.toNat).drop a.toNat := by rw [List.take_append_drop]
    rw [this, List.drop_append_of_le_length (by rw [List.length_take]; omega)]
theorem inv_inv (s : Bs) (l : List Ed) : ∀ (a d : Int) (P : Bs), 0 ≤ a → Chain s.length a l → (P.length : Int) = a + d → inv (P ++ appL s a l) (-d) (inv s d l) = l := by
  induction l with
  | nil => intro a d P _ _ _; rfl
  | cons e r ih =>
    intro a d P h0 h hP
    obtain ⟨h1, h2, h3⟩ := h
    have hn := chain_le h3
    have hl := tx_len e
    have hlen := len_nn e
    have e0 : appL s a (e :: r) = (s.take e.1.1.toNat).drop a.toNat ++ tx e ++ appL s e.1.2 r := rfl
    have hmid : ((s.take e.1.1.toNat).drop a.toNat).length = (e.1.1 - a).toNat := by rw [List.length_drop, List.length_take]; omega
    have hih := ih e.1.2 (d + dl e) (P ++ (s.take e.1.1.toNat).drop a.toNat ++ tx e) (by omega) h3 (by
      rw [List.length_append, List.length_append, hmid]; unfold dl; omega)
    have eT : P ++ appL s a (e :: r) = P ++ (s.take e.1.1.toNat).drop a.toNat ++ tx e ++ appL s e.1.2 r := by rw [e0]; simp [List.append_assoc]
    rw [eT]
    have hT2 : (P ++ (s.take e.1.1.toNat).drop a.toNat).length = (e.1.1 + d).toNat := by rw [List.length_append, hmid]; omega
    have e3 : ((P ++ (s.take e.1.1.toNat).drop a.toNat ++ tx e ++ appL s e.1.2 r).take (e.1.1 + d + len e).toNat).drop (e.1.1 + d).toNat = tx e := by
      rw [List.take_append_of_le_length (by rw [List.length_append, hT2]; omega), List.take_of_length_le (by rw [List.length_append, hT2]; omega), List.drop_append_of_le_length (by omega), List.drop_of_length_le (by omega)]; rfl
    generalize P ++ (s.take e.1.1.toNat).drop a.toNat ++ tx e ++ appL s e.1.2 r = T at *
    have e1 : inv s d (e :: r) = ((e.1.1 + d, e.1.1 + d + len e), mkT ((s.take e.1.2.toNat).drop e.1.1.toNat)) :: inv s (d + dl e) r := rfl
    have hx : len ((e.1.1 + d, e.1.1 + d + len e), mkT ((s.take e.1.2.toNat).drop e.1.1.toNat)) = e.1.2 - e.1.1 := by
      unfold len
      simp only [mk_size, List.length_drop, List.length_take]
      omega
    have hd : dl ((e.1.1 + d, e.1.1 + d + len e), mkT ((s.take e.1.2.toNat).drop e.1.1.toNat)) = - dl e := by
      unfold dl
      rw [hx]
      show _ - (e.1.1 + d + len e - (e.1.1 + d)) = _
      omega
    rw [e1]
    show ((e.1.1 + d + -d, e.1.1 + d + -d + len ((e.1.1 + d, e.1.1 + d + len e), mkT ((s.take e.1.2.toNat).drop e.1.1.toNat))), mkT ((T.take (e.1.1 + d + len e).toNat).drop (e.1.1 + d).toNat)) :: inv T (-d + dl ((e.1.1 + d, e.1.1 + d + len e), mkT ((s.take e.1.2.toNat).drop e.1.1.toNat))) (inv s (d + dl e) r) = _
    rw [hd, hx, e3, show -d + - dl e = -(d + dl e) by omega, hih]
    have e5 : mkT (tx e) = e.2 := mk_bts e.2
    rw [e5]
    have e6 : e.1.1 + d + -d = e.1.1 := by omega
    have e7 : e.1.1 + (e.1.2 - e.1.1) = e.1.2 := by omega
    rw [e6, e7]
-- offsets that no edit takes away
def Clear (k : Int) (l : List Ed) : Prop := ∀ e ∈ l, k < e.1.1 ∨ e.1.2 ≤ k
theorem mv_lo (l : List Ed) : ∀ {n a k : Int}, Chain n a l → a ≤ k → a ≤ mvR true l k := by
  induction l with
  | nil => intro n a k _ h; exact h
  | cons e r ih =>
    intro n a k h hk
    obtain ⟨h1, h2, h3⟩ := h
    rw [mvR_cons]
    have hn := len_nn e
    by_cases hke : e.1.2 ≤ k
    · have := ih h3 hke
      unfold mv1 dl
      simp only [if_true]
      repeat' split
      all_goals omega
    · have hm := mvR_mono true r (fun x hx => (chain_mem h3 x hx).2.1) (show k ≤ e.1.2 by omega)
      have hlow : k ≤ mvR true r k := by
        have key : ∀ (r : List Ed) {m a : Int}, Chain m a r → k ≤ a → k ≤ mvR true r k := by
          intro r
          induction r with
          | nil => intro m a _ _; exact Int.le_refl _
          | cons x q ihq =>
            intro m a hc hka
            obtain ⟨c1, c2, c3⟩ := hc
            have := ihq c3 (by omega)
            have hn := len_nn x
            rw [mvR_cons]
            unfold mv1 dl
            simp only [if_true]
            repeat' split
            all_goals omega
        exact key r h3 (by omega)
      unfold mv1 dl
      simp only [if_true]
      repeat' split
      all_goals omega
theorem mv_back (s : Bs) (l : List Ed) : ∀ {a d k : Int}, 0 ≤ a → Chain s.length a l → Clear k l → mvR true (inv s d l) (mvR true l k + d) = k + d := by
  induction l with
  | nil => intro a d k _ _ _; rfl
  | cons e r ih =>
    intro a d k h0 h hc
    obtain ⟨h1, h2, h3⟩ := h
    have hn := len_nn e
    have hle := chain_le h3
    rcases hc e (by simp) with hlt | hge
    · have hall : ∀ x ∈ e :: r, k < x.1.1 := fun x hx => by
        rcases List.mem_cons.1 hx with rfl | hx
        · exact hlt
        · have := chain_mem h3 x hx; omega
      rw [mvR_ahead _ k hall, mvR_ahead]
      intro y hy
      have hch : Chain s.length e.1.1 (e :: r) := ⟨Int.le_refl _, h2, h3⟩
      have := chain_mem (inv_chain s (e :: r) (d := d) hch) y hy
      omega
    · have hp := mv_lo r h3 hge
      have h5 := ih (d := d + dl e) (by omega) h3 (fun x hx => hc x (by simp [hx]))
      rw [mvR_cons]
      generalize mvR true r k = p at *
      have e2 : mv1 true p e = p + dl e := by
        unfold mv1 dl
        simp only [if_true]
        repeat' split
        all_goals omega
      rw [e2, inv_cons, mvR_cons, show p + dl e + d = p + (d + dl e) by omega, h5]
      have hx : len ((e.1.1 + d, e.1.1 + d + len e), mkT ((s.take e.1.2.toNat).drop e.1.1.toNat)) = e.1.2 - e.1.1 := by
        unfold len
        simp only [mk_size, List.length_drop, List.length_take]
        omega
      have hd : dl ((e.1.1 + d, e.1.1 + d + len e), mkT ((s.take e.1.2.toNat).drop e.1.1.toNat)) = - dl e := by
        unfold dl
        rw [hx]
        show _ - (e.1.1 + d + len e - (e.1.1 + d)) = _
        omega
      unfold mv1
      rw [hx, hd]
      show (if k + (d + dl e) < e.1.1 + d then _ else if k + (d + dl e) > e.1.1 + d + len e then k + (d + dl e) + -dl e else if true = true then e.1.1 + d + (e.1.2 - e.1.1) else _) = _
      unfold dl
      simp only [if_true]
      repeat' split
      all_goals omega
theorem clear_grp (l : List Ed) : ∀ {n a k : Int}, Chain n a l → Clear k l → Clear k (grp l) := by
  refine snoc_ind (P := fun l => ∀ {n a k : Int}, Chain n a l → Clear k l → Clear k (grp l)) (fun _ h => h) (fun l e ih => ?_) l
  intro n a k h hc
  rw [chain_snoc] at h
  have h1 := ih h.1 (fun x hx => hc x (by simp [hx]))
  have he := hc e (by simp)
  have hch := grp_chain l h.1
  rw [grp_snoc]
  rcases List.eq_nil_or_concat (grp l) with hg | ⟨b, g, hg⟩
  · rw [hg, stepG_nil]
    intro x hx
    rw [List.mem_singleton] at hx; subst hx; exact he
  · rw [hg, List.concat_eq_append] at h1 hch ⊢
    have hgg := h1 g (by simp)
    rw [chain_snoc] at hch
    by_cases hx : g.1.2 = e.1.1
    · rw [stepG_on _ _ _ hx]
      intro y hy
      rcases List.mem_append.1 hy with hy | hy
      · exact h1 y (by simp [hy])
      · rw [List.mem_singleton] at hy; subst hy
        show k < g.1.1 ∨ e.1.2 ≤ k
        omega
    · rw [stepG_new _ _ _ hx]
      intro y hy
      rcases List.mem_append.1 hy with hy | hy
      · exact h1 y hy
      · rw [List.mem_singleton] at hy; subst hy; exact he
theorem mv_join (g e : Ed) (k : Int) (h : g.1.2 = e.1.1) (h1 : g.1.1 ≤ g.1.2) (h2 : e.1.1 ≤ e.1.2) (hc : k < g.1.1 ∨ e.1.2 ≤ k) : mv1 true k (joinE g e) = mv1 true (mv1 true k e) g := by
  have hg := len_nn g
  have he := len_nn e
  have hd := dl_join g e h
  have hl := len_join g e
  unfold mv1
  rw [hd, hl, show (joinE g e).1.1 = g.1.1 from rfl, show (joinE g e).1.2 = e.1.2 from rfl]
  simp only [if_true]
  unfold dl
  repeat' split
  all_goals omega
theorem mv_grp (l : List Ed) : ∀ {n a k : Int}, Chain n a l → Clear k l → mvR true (grp l) k = mvR true l k := by
  refine snoc_ind (P := fun l => ∀ {n a k : Int}, Chain n a l → Clear k l → mvR true (grp l) k = mvR true l k) (fun _ _ => rfl) (fun l e ih => ?_) l
  intro n a k h hc
  have hcg := clear_grp _ h hc
  rw [chain_snoc] at h
  have he := hc e (by simp)
  have hn := len_nn e
  have e1 : mvR true [e] k = mv1 true k e := rfl
  have hcl : Clear (mv1 true k e) l := by
    intro x hx
    have hm := chain_mem h.1 x hx
    rcases he with he | he
    · have e2 : mv1 true k e = k := by unfold mv1; rw [if_pos he]
      rw [e2]; exact hc x (by simp [hx])
    · right
      unfold mv1 dl
      simp only [if_true]
      repeat' split
      all_goals omega
  have hih := ih h.1 hcl
  have hch := grp_chain l h.1
  rw [mvR_app, e1, ← hih]
  rw [grp_snoc] at hcg ⊢
  rcases List.eq_nil_or_concat (grp l) with hg | ⟨b, g, hg⟩
  · rw [hg]; rfl
  · rw [hg, List.concat_eq_append] at hch hcg ⊢
    rw [chain_snoc] at hch
    by_cases hx : g.1.2 = e.1.1
    · rw [stepG_on _ _ _ hx] at hcg ⊢
      have hj := hcg (joinE g e) (by simp)
      rw [mvR_app, mvR_app]
      show mvR true b (mv1 true k (joinE g e)) = mvR true b (mv1 true (mv1 true k e) g)
      rw [mv_join g e k hx hch.2.1 h.2.1 hj]
    · rw [stepG_new _ _ _ hx, mvR_app _ (b ++ [g]) [e]]; rfl
/-- The byte at an offset that no edit takes away. -/
theorem byte_moves (s : Bs) (l : List Ed) : ∀ {a k : Int}, 0 ≤ a → 0 ≤ k → Chain s.length a l → Clear k l → (appR s l)[(mvR true l k).toNat]? = s[k.toNat]? ∧ 0 ≤ mvR true l k ∧ mvR false l (k + 1) = mvR true l k + 1 := by
  induction l with
  | nil => intro a k _ h _ _; exact ⟨rfl, h, rfl⟩
  | cons e r ih =>
    intro a k h0 hk h hc
    obtain ⟨h1, h2, h3⟩ := h
    have hn := len_nn e
    have hx := tx_len e
    have hle := chain_le h3
    obtain ⟨g1, g2, g3⟩ := ih (by omega) hk h3 (fun x hx => hc x (by simp [hx]))
    obtain ⟨l1, l2⟩ := appR_len s r e.1.2 (by omega) h3
    have hlen : e.1.2 ≤ (appR s r).length := by
      have := congrArg List.length (l2 e.1.2 (Int.le_refl _))
      simp only [List.length_take] at this
      omega
    rw [mvR_cons, mvR_cons, appR_cons]
    rcases hc e (by simp) with hlt | hge
    · have hp : mvR true r k = k := mvR_ahead r k (fun x hx => by have := chain_mem h3 x hx; omega) true
      rw [hp] at g1 g3 ⊢
      have e1 : mv1 true k e = k := by unfold mv1; rw [if_pos hlt]
      rw [e1, g3]
      refine ⟨?_, hk, ?_⟩
      · rw [← g1]
        unfold EdM.one
        rw [List.append_assoc, List.getElem?_append_left (by rw [List.length_take]; omega), List.getElem?_take]
        rw [if_pos (by omega)]
      · unfold mv1
        simp only [Bool.false_eq_true, if_false]
        repeat' split
        all_goals omega
    · have hp := mv_lo r h3 hge
      generalize mvR true r k = p at *
      have e1 : mv1 true p e = p + dl e := by
        unfold mv1 dl
        simp only [if_true]
        repeat' split
        all_goals omega
      rw [e1, g3]
      refine ⟨?_, by unfold dl; omega, ?_⟩
      · rw [← g1]
        unfold EdM.one
        have hfl : ((appR s r).take e.1.1.toNat ++ tx e).length = (e.1.1 + len e).toNat := by rw [List.length_append, List.length_take]; omega
        rw [List.getElem?_append_right (by rw [hfl]; unfold dl; omega), hfl, List.getElem?_drop]
        congr 1
        unfold dl
        omega
      · unfold mv1 dl
        simp only [Bool.false_eq_true, if_false]
        repeat' split
        all_goals omega
end Go.Proofs.Ytjmoeahlbgdkbaa
