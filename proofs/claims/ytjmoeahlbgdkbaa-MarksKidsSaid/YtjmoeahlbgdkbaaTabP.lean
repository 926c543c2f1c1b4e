/- Plain facts: offsets that edits do not touch, led by the edits and back. No program; no condition. -/
import Derived.Test.YtjmoeahlbgdkbaaEdL
import Derived.Test.YtjmoeahlbgdkbaaTabW
import Derived.Test.YtjmoeahlbgdkbaaLong
namespace Go.Proofs.Ytjmoeahlbgdkbaa
open SpanM EdM
/-- No edit touches the offset. -/
def Away (k : Int) (l : List Ed) : Prop := ∀ e ∈ l, k < e.1.1 ∨ e.1.2 < k
theorem mv1_past (right : Bool) (p : Int) (e : Ed) (h : e.1.2 < p) (hf : e.1.1 ≤ e.1.2) : mv1 right p e = p + dl e := by
  unfold mv1
  rw [if_neg (by omega), if_pos (by omega)]
theorem mv_away (right : Bool) (l : List Ed) : ∀ {n a k : Int}, Chain n a l → Away k l → (a < k → a < mvR right l k) ∧ mvR right l k = mvR true l k := by
  induction l with
  | nil => intro n a k _ _; exact ⟨fun h => h, rfl⟩
  | cons e r ih =>
    intro n a k h hc
    obtain ⟨h1, h2, h3⟩ := h
    have hn := len_nn e
    rcases hc e (by simp) with hlt | hge
    · have hall : ∀ x ∈ e :: r, k < x.1.1 := fun x hx => by
        rcases List.mem_cons.1 hx with rfl | hx
        · exact hlt
        · have := chain_mem h3 x hx; omega
      rw [mvR_ahead _ k hall, mvR_ahead _ k hall]
      exact ⟨fun h => h, rfl⟩
    · obtain ⟨i1, i2⟩ := ih h3 (fun x hx => hc x (by simp [hx]))
      have i3 := i1 hge
      rw [mvR_cons, mvR_cons, ← i2, mv1_past right _ e i3 h2, mv1_past true _ e i3 h2]
      refine ⟨fun _ => ?_, rfl⟩
      unfold dl
      omega
theorem mv_return (right : Bool) (s : Bs) (l : List Ed) : ∀ {a d k : Int}, 0 ≤ a → Chain s.length a l → Away k l → mvR right (inv s d l) (mvR right l k + d) = k + d := by
  induction l with
  | nil => intro a d k _ _ _; rfl
  | cons e r ih =>
    intro a d k h0 h hc
    obtain ⟨h1, h2, h3⟩ := h
    have hn := len_nn e
    have hle := chain_le h3
    rcases hc e (by simp) with hlt | hge
    · have hall : ∀ x ∈ e :: r, k < x.1.1 := fun x hx => by
        rcases List.mem_cons.1 hx with rfl | hx
        · exact hlt
        · have := chain_mem h3 x hx; omega
      rw [mvR_ahead _ k hall, mvR_ahead]
      intro y hy
      have hch : Chain s.length e.1.1 (e :: r) := ⟨Int.le_refl _, h2, h3⟩
      have := chain_mem (inv_chain s (e :: r) (d := d) hch) y hy
      omega
    · have hp := (mv_away right r h3 (fun x hx => hc x (by simp [hx]))).1 hge
      have h5 := ih (d := d + dl e) (by omega) h3 (fun x hx => hc x (by simp [hx]))
      rw [mvR_cons, mv1_past right _ e hp h2]
      generalize mvR right r k = p at *
      rw [inv_cons, mvR_cons, show p + dl e + d = p + (d + dl e) by omega, h5]
      have hx : EdM.len ((e.1.1 + d, e.1.1 + d + EdM.len e), mkT ((s.take e.1.2.toNat).drop e.1.1.toNat)) = e.1.2 - e.1.1 := by
        unfold EdM.len
        simp only [mk_size, List.length_drop, List.length_take]
        omega
      have hd : dl ((e.1.1 + d, e.1.1 + d + EdM.len e), mkT ((s.take e.1.2.toNat).drop e.1.1.toNat)) = - dl e := by
        unfold dl
        rw [hx]
        show _ - (e.1.1 + d + EdM.len e - (e.1.1 + d)) = _
        omega
      have hdl : dl e = EdM.len e - (e.1.2 - e.1.1) := rfl
      rw [mv1_past _ _ _ (show e.1.1 + d + EdM.len e < k + (d + dl e) by omega) (show e.1.1 + d ≤ e.1.1 + d + EdM.len e by omega), hd]
      omega
theorem mayN_sep {l : List Ed} (h : Sep l) (hf : ∀ e ∈ l, 0 ≤ e.1.1 ∧ e.1.1 ≤ e.1.2 ∧ e.1.2 ≤ 65536) : mayN l = 0 := by
  have h1 : (l.all fun e => mayB e.1 65536) = true := by
    rw [List.all_eq_true]
    intro e he
    have := hf e he
    unfold mayB
    simp only [decide_eq_true_iff]
    omega
  have hR := sep_R h (fun e he => (hf e he).2.1)
  have hS : Sorted (l.map (·.1)) := by
    unfold Sorted
    rw [List.pairwise_map]
    exact sep_sorted h (fun e he => (hf e he).2.1)
  have h2 : apF (sortS (l.map (·.1))) = true := by
    rw [sort_lit _ _ (.refl _) hS, apF_at]
    intro i hi
    have hi' : i < l.length := by simpa using hi
    simp only [List.getElem_map]
    refine ⟨(hf _ (List.getElem_mem hi')).2.1, fun j hj => ?_⟩
    exact List.pairwise_iff_getElem.1 hR j i (by omega) hi' (by omega)
  unfold mayN
  rw [if_pos h1, if_pos h2]
/-- What a list of edits that touch neither end makes of a range. -/
theorem range_on {n a b : Int} {l : List Ed} (r0 r1 : Bool) (hc : Chain n 0 l) (ha : Away a l) (hb : Away b l) (hab : a ≤ b) : min (mvR r0 l a) (mvR r1 l b) = mvR r0 l a := by
  rw [(mv_away r0 l hc ha).2, (mv_away r1 l hc hb).2]
  have := mvR_mono true l (fun x hx => (chain_mem hc x hx).2.1) hab
  omega
/-- What is gathered: edits that rise, no two of which touch, none of which touches a or b. -/
structure Gath (n A a b : Int) (l : List Ed) : Prop where
  chain : Chain A 0 l
  sep : Sep l
  below : ∀ e ∈ l, e.1.2 ≤ A
  awa : Away a l
  awb : Away b l
  top : A ≤ n
  size : ∀ e ∈ l, e.2.size ≤ 100
theorem gath_nil {n a b : Int} (h : 0 ≤ n) : Gath n 0 a b [] := ⟨Int.le_refl _, .nil, by simp, by simp [Away], by simp [Away], h, by simp⟩
theorem gath_snoc {n A a b x y : Int} {l : List Ed} {s : ByteArray} (h : Gath n A a b l) (hx : A < x ∨ (l = [] ∧ A ≤ x)) (hxy : x ≤ y) (hy : y ≤ n) (ha : a < x ∨ y < a) (hb : b < x ∨ y < b) (hs : s.size ≤ 100) : Gath n y a b (l ++ [((x, y), s)]) where
  chain := by
    rw [chain_snoc]
    exact ⟨chain_up h.chain (show A ≤ x by omega), hxy, Int.le_refl _⟩
  sep := by
    refine List.pairwise_append.2 ⟨h.sep, List.pairwise_singleton _ _, fun e he f hf => ?_⟩
    rw [List.mem_singleton] at hf
    subst hf
    rcases hx with hx | ⟨rfl, _⟩
    · have := h.below e he; show e.1.2 < x; omega
    · simp at he
  below := fun e he => by
    rcases List.mem_append.1 he with he | he
    · have := h.below e he; omega
    · rw [List.mem_singleton] at he; subst he; exact Int.le_refl _
  awa := fun e he => by
    rcases List.mem_append.1 he with he | he
    · exact h.awa e he
    · rw [List.mem_singleton] at he; subst he; exact ha
  awb := fun e he => by
    rcases List.mem_append.1 he with he | he
    · exact h.awb e he
    · rw [List.mem_singleton] at he; subst he; exact hb
  top := hy
  size := fun e he => by
    rcases List.mem_append.1 he with he | he
    · exact h.size e he
    · rw [List.mem_singleton] at he; subst he; exact hs
theorem tot_small {l : List Ed} (hf : ∀ e ∈ l, e.1.1 ≤ e.1.2 ∧ e.2.size ≤ 100) : EdM.tot l ≤ l.length * 100 := by
  induction l with
  | nil => simp [EdM.tot]
  | cons e r ih =>
    have h1 := hf e (by simp)
    have h2 := ih (fun x hx => hf x (by simp [hx]))
    rw [tot_cons]
    unfold dl EdM.len
    simp only [List.length_cons]
    omega
/-- All that the law asks of what was gathered. -/
structure Gathered (s : ByteArray) (a b : Int) (l : List Ed) : Prop where
  sorted : sortE l = l
  fine : Fine s.size l
  good : ∀ e ∈ l, Good e
  may : mayN l = 0
  small : ∀ e ∈ l, e.2.size ≤ 70000
  back : inv (bts s) 0 (grp (sortE l)) = inv (bts s) 0 l
  bsorted : sortE (inv (bts s) 0 l) = inv (bts s) 0 l
  bgood : ∀ e ∈ inv (bts s) 0 l, Good e
  bmay : mayN (inv (bts s) 0 l) = 0
  blen : (inv (bts s) 0 l).length = l.length
theorem gathered {s : ByteArray} {A a b : Int} {l : List Ed} (h : Gath s.size A a b l) (hs : s.size ≤ 80) (hl : l.length ≤ 8) : Gathered s a b l := by
  have hch : Chain s.size 0 l := chain_up h.chain h.top
  have hm := chain_mem hch
  have hso : sortE l = l := sortE_self l (sep_sorted h.sep (fun e he => (hm e he).2.1))
  have hb : (bts s).length = s.size := bts_len s
  have hchb : Chain (bts s).length 0 l := by rw [hb]; exact hch
  have htot := tot_small (l := l) (fun e he => ⟨(hm e he).2.1, h.size e he⟩)
  have hic := inv_chain (bts s) l (d := 0) hchb
  have hii : ∀ e ∈ inv (bts s) 0 l, 0 ≤ e.1.1 ∧ e.1.1 ≤ e.1.2 ∧ e.1.2 ≤ 1000 := fun e he => by
    have := chain_mem hic e he
    rw [hb] at this
    omega
  have his := (inv_sep (bts s) l (d := 0) hchb h.sep).1
  exact {
    sorted := hso
    fine := ⟨by rw [hso]; exact hch, by rw [hso]; exact sep_R h.sep (fun e he => (hm e he).2.1), by rw [grown_add]; omega, fun e he => hm e he⟩
    good := fun e he => by
      have := hm e he; have := h.size e he
      unfold Good; omega
    may := mayN_sep h.sep (fun e he => by have := hm e he; omega)
    small := fun e he => by have := h.size e he; omega
    back := by rw [hso, grp_self l h.sep]
    bsorted := sortE_self _ (sep_sorted his (fun e he => (hii e he).2.1))
    bgood := fun e he => by
      have := hii e he; have := inv_text (bts s) l 0 e he
      rw [hb] at this
      unfold Good; omega
    bmay := mayN_sep his (fun e he => by have := hii e he; omega)
    blen := inv_len _ _ _ }
/-- There and back again. -/
theorem range_back {s : ByteArray} {A a b : Int} {l : List Ed} (r0 r1 : Bool) (h : Gath s.size A a b l) (hab : a ≤ b) :
    mvAll (inv (bts s) 0 l) (mvAll l [⟨1, a, b, r0, r1, 0⟩]) = [⟨1, a, b, r0, r1, 0⟩] := by
  have hch : Chain s.size 0 l := chain_up h.chain h.top
  have hchb : Chain (bts s).length 0 l := by rw [bts_len s]; exact hch
  have e1 : mvAll l [⟨1, a, b, r0, r1, 0⟩] = [⟨1, mvR r0 l a, mvR r1 l b, r0, r1, 0⟩] := by
    show [Mk.mk 1 (min (mvR r0 l a) (mvR r1 l b)) (mvR r1 l b) r0 r1 0] = _
    rw [range_on r0 r1 hch h.awa h.awb hab]
  have q0 := mv_return r0 (bts s) l (d := 0) (Int.le_refl 0) hchb h.awa
  have q1 := mv_return r1 (bts s) l (d := 0) (Int.le_refl 0) hchb h.awb
  rw [Int.add_zero, Int.add_zero] at q0 q1
  rw [e1]
  show [Mk.mk 1 (min (mvR r0 (inv (bts s) 0 l) (mvR r0 l a)) (mvR r1 (inv (bts s) 0 l) (mvR r1 l b))) (mvR r1 (inv (bts s) 0 l) (mvR r1 l b)) r0 r1 0] = _
  rw [q0, q1, show min a b = a by omega]
theorem moved_bound {s : ByteArray} {A a b : Int} {l : List Ed} (r : Bool) (h : Gath s.size A a b l) (hs : s.size ≤ 80) (hl : l.length ≤ 8) (k : Int) (hk : 0 ≤ k ∧ k ≤ 80) : -1099511627776 ≤ mvR r l k ∧ mvR r l k ≤ 1099511627776 := by
  have hch : Chain s.size 0 l := chain_up h.chain h.top
  have hm := chain_mem hch
  have hg : ∀ e ∈ l, (0 ≤ e.1.1 ∧ e.1.1 ≤ e.1.2 ∧ e.1.2 ≤ 80 ∧ e.2.size ≤ 100) := fun e he => by have := hm e he; have := h.size e he; omega
  have key : ∀ l : List Ed, (∀ e ∈ l, (0 ≤ e.1.1 ∧ e.1.1 ≤ e.1.2 ∧ e.1.2 ≤ 80 ∧ e.2.size ≤ 100)) → -(l.length * 1000 : Int) ≤ mvR r l k ∧ mvR r l k ≤ 80 + l.length * 1000 := by
    intro l
    induction l with
    | nil => intro _; show _ ≤ k ∧ k ≤ _; simp; omega
    | cons e q ih =>
      intro hq
      have h1 := hq e (by simp)
      have h2 := ih (fun x hx => hq x (by simp [hx]))
      rw [mvR_cons]
      generalize mvR r q k = p at *
      simp only [List.length_cons]
      unfold mv1 dl EdM.len
      repeat' split
      all_goals omega
  have := key l hg
  omega
theorem long_mem : ∀ (l : List ByteArray) (n : Int), longL n l = false → ∀ s ∈ l, (s.size : Int) < n
  | [], _, _, s, h => by simp at h
  | x :: r, n, h, s, hs => by
    unfold longL at h
    by_cases hc : n ≤ x.size
    · rw [if_pos hc] at h; cases h
    · rw [if_neg hc] at h
      rcases List.mem_cons.1 hs with rfl | hs
      · omega
      · have := long_mem r _ h s hs; omega
end Go.Proofs.Ytjmoeahlbgdkbaa
