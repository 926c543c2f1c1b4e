/- Plain facts on a table of ranges behind deeds: what is known of it, how a deed changes it, who goes with whom, how many kids there are. No condition. Contract of layer 7's law on deeds: a deed is done to a table. Conditions: few records whose ids rise, few edits. Contract of layer 7's law on deeds: a deed that moves by edits brought near; any deed. Conditions: few records whose ids rise, few edits. Small contracts and facts of layer 7's laws on deeds: rows of integers that are the same, what Get tells. No condition. -/
import Derived.Test.YtjmoeahlbgdkbaaTabEnd
import Derived.Test.YtjmoeahlbgdkbaaTabW
import Derived.Test.YtjmoeahlbgdkbaaTabQ
import Derived.Test.YtjmoeahlbgdkbaaTabT
namespace Go.Proofs.Ytjmoeahlbgdkbaa
section
open Go.ChangeShapes Go.WideShapes Go.ChangeAt Go.RowKit
open SpanM EdM
/-- What is known of a table behind n deeds. -/
structure InvM (n : Nat) (last : Int) (l : List Mk) : Prop where
  rise : RiseM l
  lo : 0 ≤ last
  hi : last ≤ n
  len : l.length ≤ n
  ids : ∀ r ∈ l, 1 ≤ r.id ∧ r.id ≤ last
  par : ∀ r ∈ l, r.p = 0 ∨ ∃ q ∈ l, q.id = r.p ∧ q.id < r.id ∧ q.f ≤ r.f ∧ r.t ≤ q.t
  ft : ∀ r ∈ l, 0 ≤ r.f ∧ r.f ≤ r.t ∧ r.t ≤ 65536 + 480 * (n : Int)
theorem invM_nil : InvM 0 0 [] := ⟨.nil, by omega, by omega, by simp, by simp, by simp, by simp⟩
theorem InvM.up {n : Nat} {last : Int} {l : List Mk} (h : InvM n last l) : InvM (n + 1) last l :=
  ⟨h.rise, h.lo, by have := h.hi; omega, by have := h.len; omega, h.ids, h.par, fun r hr => by have := h.ft r hr; omega⟩
theorem rise_inj {l : List Mk} (h : RiseM l) {r q : Mk} (hr : r ∈ l) (hq : q ∈ l) (e : r.id = q.id) : r = q := by
  obtain ⟨i, hi, rfl⟩ := List.getElem_of_mem hr
  obtain ⟨j, hj, rfl⟩ := List.getElem_of_mem hq
  have : i = j := by
    rcases Nat.lt_trichotomy i j with h1 | h1 | h1
    · have := rise_at h i j h1 hj; omega
    · exact h1
    · have := rise_at h j i h1 hi; omega
  subst this; rfl
theorem mvR_near (right : Bool) (es : List Ed) (h : ∀ e ∈ es, 0 ≤ e.1.1 ∧ e.1.1 ≤ e.1.2 ∧ e.2.size ≤ 60) (a : Int) (ha : 0 ≤ a) : 0 ≤ mvR right es a ∧ mvR right es a ≤ a + 60 * (es.length : Int) := by
  induction es with
  | nil => exact ⟨ha, by simp [mvR]⟩
  | cons e r ih =>
    have h1 := ih (fun e he => h e (List.mem_cons_of_mem _ he))
    have h2 := h e List.mem_cons_self
    rw [mvR_cons, List.length_cons]
    generalize mvR right r a = b at *
    unfold mv1 dl len
    split
    · omega
    · split
      · omega
      · split <;> omega
theorem modify_same (l : List Mk) (k i : Nat) (f : Mk → Mk) (hi : i < l.length) (h : k ≠ i) : (l.modify k f)[i]'(by simpa using hi) = l[i] := by
  rw [List.getElem_modify, if_neg h]
/-- What a record is behind a move. -/
def MvdM (B : Int) (L : List Mk) (i : Nat) (r0 r : Mk) : Prop :=
  r.p = r0.p ∧ 0 ≤ r.f ∧ r.f ≤ r.t ∧ r.t ≤ B ∧ (r.p = 0 ∨ ∃ (j : Nat) (hj : j < i) (hl : j < L.length), L[j].id = r.p ∧ L[j].f ≤ r.f ∧ r.t ≤ L[j].t)
theorem mvTo_inv {n : Nat} {last : Int} {l : List Mk} (h : InvM n last l) (es : List Ed) (he : ∀ e ∈ es, 0 ≤ e.1.1 ∧ e.1.1 ≤ e.1.2 ∧ e.2.size ≤ 60) (hn : es.length ≤ 8) (k : Nat) (hk : k ≤ l.length) :
    ∀ i (hi : i < l.length), i < k → MvdM (65536 + 480 * ((n : Int) + 1)) (mvTo es l k) i l[i] ((mvTo es l k)[i]'(by rw [mvTo_len]; exact hi)) := by
  induction k with
  | zero => intro i hi h0; omega
  | succ k ih =>
    intro i hi hik
    have hll := mvTo_len es l k
    have hmod : mvTo es l (k + 1) = (mvTo es l k).modify k (mvOne es (mvTo es l k)) := rfl
    have hkeep : ∀ j (hj : j < l.length), j ≠ k → (mvTo es l (k + 1))[j]'(by rw [mvTo_len]; exact hj) = (mvTo es l k)[j]'(by rw [mvTo_len]; exact hj) := fun j hj hjk =>
      (List.getElem_of_eq hmod _).trans (modify_same _ _ _ _ (by rw [mvTo_len]; exact hj) (Ne.symm hjk))
    by_cases hlt : i < k
    · obtain ⟨h1, h2, h3, h4, h5⟩ := ih (by omega) i hi hlt
      rw [hkeep i hi (by omega)]
      refine ⟨h1, h2, h3, h4, ?_⟩
      rcases h5 with h5 | ⟨j, hj, hl, h6, h7, h8⟩
      · exact .inl h5
      · refine .inr ⟨j, hj, by rw [mvTo_len]; omega, ?_⟩
        rw [hkeep j (by omega) (by omega)]
        exact ⟨h6, h7, h8⟩
    · obtain rfl : i = k := by omega
      have hat := mvTo_at es l i i hi (Nat.le_refl _)
      have hnew : (mvTo es l (i + 1))[i]'(by rw [mvTo_len]; exact hi) = mvOne es (mvTo es l i) l[i] := by
        refine (List.getElem_of_eq hmod _).trans ?_
        rw [List.getElem_modify, if_pos rfl, hat]
      rw [hnew]
      have hft := h.ft l[i] (List.getElem_mem hi)
      have hb1 := mvR_near l[i].b es he l[i].f hft.1
      have hb2 := mvR_near l[i].c es he l[i].t (by omega)
      have hrs : RiseM (mvTo es l i) := rise_ids h.rise (mvTo_ids es l i)
      have hids : ∀ j (hj : j < l.length), ((mvTo es l i)[j]'(by rw [mvTo_len]; exact hj)).id = l[j].id := fun j hj => by
        have h1 := mvTo_ids es l i
        have h2 : ((mvTo es l i).map (·.id))[j]'(by rw [List.length_map, mvTo_len]; exact hj) = (l.map (·.id))[j]'(by rw [List.length_map]; exact hj) := by simp only [h1]
        simpa using h2
      rcases h.par l[i] (List.getElem_mem hi) with hp | ⟨q, hq, hqp, hqi, _, _⟩
      · have hf : (mvTo es l i).find? (fun q => q.id == l[i].p) = none := find_none (fun r hr => by
          obtain ⟨j, hj, rfl⟩ := List.getElem_of_mem hr
          rw [hids j (by omega), hp]
          have := (h.ids l[j] (List.getElem_mem (by omega))).1
          omega)
        have he : mvOne es (mvTo es l i) l[i] = { l[i] with f := min (mvR l[i].b es l[i].f) (mvR l[i].c es l[i].t), t := mvR l[i].c es l[i].t } := by unfold mvOne; rw [hf]
        rw [he]
        refine ⟨rfl, ?_, ?_, ?_, .inl hp⟩ <;> simp only <;> omega
      · obtain ⟨j, hj, rfl⟩ := List.getElem_of_mem hq
        have hji : j < i := by
          rcases Nat.lt_trichotomy i j with h1 | h1 | h1
          · have := rise_at h.rise i j h1 hj; omega
          · subst h1; omega
          · exact h1
        have hjm : j < (mvTo es l i).length := by rw [mvTo_len]; exact hj
        have hf := find_at hrs l[i].p j hjm (by rw [hids j hj]; exact hqp)
        obtain ⟨h1, h2, h3, h4, h5⟩ := ih (by omega) j hj hji
        have hkj := hkeep j hj (by omega)
        have hid := hids j hj
        have he : mvOne es (mvTo es l i) l[i] = { l[i] with f := min (max (min (mvR l[i].b es l[i].f) (mvR l[i].c es l[i].t)) ((mvTo es l i)[j]'hjm).f) ((mvTo es l i)[j]'hjm).t, t := min (max (mvR l[i].c es l[i].t) ((mvTo es l i)[j]'hjm).f) ((mvTo es l i)[j]'hjm).t } := by unfold mvOne; rw [hf]
        rw [he]
        refine ⟨rfl, ?_, ?_, ?_, .inr ⟨j, hji, by rw [mvTo_len]; exact hj, ?_⟩⟩
        · simp only; omega
        · simp only; omega
        · simp only; omega
        · rw [hkj]
          refine ⟨by rw [hid]; exact hqp, ?_, ?_⟩ <;> simp only <;> omega
theorem mvAll_inv {n : Nat} {last : Int} {l : List Mk} (h : InvM n last l) (es : List Ed) (he : ∀ e ∈ es, 0 ≤ e.1.1 ∧ e.1.1 ≤ e.1.2 ∧ e.2.size ≤ 60) (hn : es.length ≤ 8) : InvM (n + 1) last (mvAll es l) := by
  have hk := mvTo_inv h es he hn l.length (Nat.le_refl _)
  have hids := mvTo_ids es l l.length
  have hr : RiseM (mvAll es l) := rise_ids h.rise hids
  have hl : (mvAll es l).length = l.length := mvTo_len es l _
  have hi : ∀ r ∈ mvAll es l, 1 ≤ r.id ∧ r.id ≤ last := fun r hr => by
    have h1 : r.id ∈ (mvAll es l).map (·.id) := List.mem_map_of_mem hr
    have h2 : (mvAll es l).map (·.id) = l.map (·.id) := hids
    rw [h2] at h1
    obtain ⟨q, hq, e⟩ := List.mem_map.1 h1
    have := h.ids q hq
    omega
  refine ⟨hr, h.lo, by have := h.hi; omega, by have := h.len; omega, hi, fun r hr' => ?_, fun r hr' => ?_⟩
  · obtain ⟨i, hil, rfl⟩ := List.getElem_of_mem hr'
    obtain ⟨h1, h2, h3, h4, h5⟩ := hk i (by omega) (by omega)
    rcases h5 with h5 | ⟨j, hj, hl', h6, h7, h8⟩
    · exact .inl h5
    · exact .inr ⟨(mvAll es l)[j]'(by omega), List.getElem_mem _, h6, rise_at hr j i hj hil, h7, h8⟩
  · obtain ⟨i, hil, rfl⟩ := List.getElem_of_mem hr'
    obtain ⟨h1, h2, h3, h4, h5⟩ := hk i (by omega) (by omega)
    exact ⟨h2, h3, (by rw [show ((n + 1 : Nat) : Int) = (n : Int) + 1 from rfl]; exact h4)⟩
theorem addM_inv {n : Nat} {last : Int} {l : List Mk} (h : InvM n last l) (f t : Int) (b c : Bool) (p : Int) : InvM (n + 1) (addM last l f t b c p).2.2.1 (addM last l f t b c p).2.2.2 := by
  unfold addM
  split
  · exact h.up
  · next hm =>
    split
    · exact h.up
    · next hp =>
      split
      · exact h.up
      · have hmm : 0 ≤ f ∧ f ≤ t ∧ t ≤ 65536 := by
          cases hm1 : mayB (f, t) 65536
          · exact absurd hm1 hm
          · exact of_decide_eq_true hm1
        have hpp : p = 0 ∨ ∃ q ∈ l, q.id = p ∧ q.f ≤ f ∧ t ≤ q.t := by
          have hp0 : ParM l f t p = 0 := Classical.not_not.1 hp
          unfold ParM at hp0
          split at hp0
          · next e => exact .inl e
          · split at hp0
            · omega
            · next q hq =>
              split at hp0
              · next hw =>
                have h1 := List.mem_of_find?_eq_some hq
                have h2 := List.find?_some hq
                have h3 : q.f ≤ f ∧ t ≤ q.t := by simpa [withinB] using hw
                exact .inr ⟨q, h1, by simpa using h2, h3⟩
              · omega
        have hl := h.len
        have hh := h.hi
        have h0 := h.lo
        refine ⟨?_, by simp only; omega, by simp only; omega, by simp only [List.length_append, List.length_cons, List.length_nil]; omega, fun r hr => ?_, fun r hr => ?_, fun r hr => ?_⟩
        · refine List.pairwise_append.2 ⟨h.rise, List.pairwise_singleton _ _, fun a ha q hq => ?_⟩
          rw [List.mem_singleton] at hq
          subst hq
          have := h.ids a ha
          simp only; omega
        · simp only at hr ⊢
          rcases List.mem_append.1 hr with hr | hr
          · have := h.ids r hr; omega
          · rw [List.mem_singleton] at hr; subst hr; simp only; omega
        · simp only at hr ⊢
          rcases List.mem_append.1 hr with hr | hr
          · rcases h.par r hr with h1 | ⟨q, hq, hh⟩
            · exact .inl h1
            · exact .inr ⟨q, List.mem_append_left _ hq, hh⟩
          · rw [List.mem_singleton] at hr; subst hr
            rcases hpp with h1 | ⟨q, hq, h1, h2, h3⟩
            · exact .inl h1
            · have := h.ids q hq
              exact .inr ⟨q, List.mem_append_left _ hq, h1, by simp only; omega, h2, h3⟩
        · simp only at hr ⊢
          rcases List.mem_append.1 hr with hr | hr
          · have := h.ft r hr; omega
          · rw [List.mem_singleton] at hr; subst hr; simp only; omega
def poseM (x : Int) (b c : Bool) (l : List Mk) : List Mk := l.map fun r => if r.id = x then { r with b := b, c := c } else r
theorem poseM_modify {l : List Mk} (h : RiseM l) (x : Int) (b c : Bool) (i : Nat) (hi : i < l.length) (hx : l[i].id = x) : l.modify i (fun r => { r with b := b, c := c }) = poseM x b c l := by
  apply List.ext_getElem
  · simp [poseM]
  · intro j h1 h2
    have hj : j < l.length := by simpa using h1
    have hm : (poseM x b c l)[j]'h2 = (fun r : Mk => if r.id = x then { r with b := b, c := c } else r) l[j] := List.getElem_map _
    rw [List.getElem_modify, hm]
    by_cases e : i = j
    · subst e; rw [if_pos rfl]; simp only [hx, if_pos]
    · rw [if_neg e]; simp only; rw [if_neg]
      intro e2
      rcases Nat.lt_trichotomy i j with h3 | h3 | h3
      · have := rise_at h i j h3 hj; omega
      · exact e h3
      · have := rise_at h j i h3 hi; omega
theorem pose1 (x : Int) (b c : Bool) (r : Mk) : (if r.id = x then { r with b := b, c := c } else r).id = r.id ∧ (if r.id = x then { r with b := b, c := c } else r).f = r.f ∧ (if r.id = x then { r with b := b, c := c } else r).t = r.t ∧ (if r.id = x then { r with b := b, c := c } else r).p = r.p := by
  split <;> exact ⟨rfl, rfl, rfl, rfl⟩
theorem poseM_inv {n : Nat} {last : Int} {l : List Mk} (h : InvM n last l) (x : Int) (b c : Bool) : InvM (n + 1) last (poseM x b c l) := by
  have h' := h.up
  have hm : ∀ r ∈ poseM x b c l, ∃ q ∈ l, r.id = q.id ∧ r.f = q.f ∧ r.t = q.t ∧ r.p = q.p := fun r hr => by
    obtain ⟨q, hq, rfl⟩ := List.mem_map.1 hr
    exact ⟨q, hq, pose1 x b c q⟩
  refine ⟨rise_ids h.rise ?_, h'.lo, h'.hi, by rw [poseM, List.length_map]; exact h'.len, fun r hr => ?_, fun r hr => ?_, fun r hr => ?_⟩
  · unfold poseM
    rw [List.map_map]
    apply List.map_congr_left
    intro r _
    exact (pose1 x b c r).1
  · obtain ⟨q, hq, e1, _⟩ := hm r hr
    rw [e1]; exact h'.ids q hq
  · obtain ⟨q, hq, e1, e2, e3, e4⟩ := hm r hr
    rw [e1, e2, e3, e4]
    rcases h'.par q hq with h1 | ⟨s, hs, h2⟩
    · exact .inl h1
    · refine .inr ⟨_, List.mem_map_of_mem hs, ?_⟩
      obtain ⟨g1, g2, g3, g4⟩ := pose1 x b c s
      rw [g1, g2, g3]
      exact h2
  · obtain ⟨q, hq, e1, e2, e3, e4⟩ := hm r hr
    rw [e2, e3]; exact h'.ft q hq
/-- What goes, and what stays, when x is dropped. -/
structure GoneM (x : Int) (l : List Mk) (G : List Int) (K : List Mk) : Prop where
  top : x ∈ G
  of : ∀ y ∈ G, y = x ∨ ∃ r ∈ l, r.id = y
  gone : ∀ r ∈ l, (r.id ∈ G ↔ r.id = x ∨ r.p ∈ G)
  kept : ∀ r, r ∈ K ↔ r ∈ l ∧ r.id ∉ G
  sub : K.Sublist l
theorem snoc_rec {α : Type} {P : List α → Prop} (h0 : P []) (h1 : ∀ l e, P l → P (l ++ [e])) (l : List α) : P l := by
  have : ∀ k : List α, P k.reverse := by
    intro k
    induction k with
    | nil => exact h0
    | cons a r ih => rw [List.reverse_cons]; exact h1 _ _ ih
  have h := this l.reverse
  rwa [List.reverse_reverse] at h
theorem gone_fold (x : Int) (l : List Mk) : RiseM l → (∀ r ∈ l, r.p < r.id) → GoneM x l (foldD x l).1 (foldD x l).2 := by
  refine snoc_rec (P := fun l => RiseM l → (∀ r ∈ l, r.p < r.id) → GoneM x l (foldD x l).1 (foldD x l).2) ?_ ?_ l
  · intro _ _
    exact ⟨by simp [foldD], by simp [foldD], by simp, by simp [foldD], by simp [foldD]⟩
  · intro l r ih hs hp
    have hs1 : RiseM l := (List.pairwise_append.1 hs).1
    have hlt : ∀ q ∈ l, q.id < r.id := fun q hq => (List.pairwise_append.1 hs).2.2 q hq r (by simp)
    have hp1 : ∀ q ∈ l, q.p < q.id := fun q hq => hp q (by simp [hq])
    have hpr := hp r (by simp)
    obtain ⟨i1, i2, i3, i4, i5⟩ := ih hs1 hp1
    have hstep : foldD x (l ++ [r]) = stepD (foldD x l) r := by unfold foldD; rw [List.foldl_append]; rfl
    rw [hstep]
    generalize foldD x l = s at *
    obtain ⟨G, K⟩ := s
    simp only at i1 i2 i3 i4 i5
    have hrG : r.id ∈ G → r.id = x := fun h => by
      rcases i2 _ h with h | ⟨q, hq, e⟩
      · exact h
      · have := hlt q hq; omega
    have hrl : r ∉ l := fun h => by have := hlt r h; omega
    unfold stepD
    simp only
    by_cases hc : r.id ∈ G ∨ r.p ∈ G
    · have hcb : (G.contains r.id || G.contains r.p) = true := by simpa using hc
      rw [if_pos hcb]
      refine ⟨by simp [i1], ?_, ?_, ?_, ?_⟩
      · intro y hy
        rcases List.mem_append.1 hy with hy | hy
        · rcases i2 y hy with h | ⟨q, hq, e⟩
          · exact .inl h
          · exact .inr ⟨q, by simp [hq], e⟩
        · rw [List.mem_singleton] at hy; exact .inr ⟨r, by simp, hy.symm⟩
      · intro q hq
        rcases List.mem_append.1 hq with hq | hq
        · have h1 := hlt q hq
          have h2 := hp1 q hq
          simp only [List.mem_append, List.mem_singleton]
          rw [i3 q hq]
          constructor
          · rintro ((h | h) | h)
            · exact .inl h
            · exact .inr (.inl h)
            · omega
          · rintro (h | h | h)
            · exact .inl (.inl h)
            · exact .inl (.inr h)
            · omega
        · rw [List.mem_singleton] at hq; subst hq
          simp only [List.mem_append, List.mem_singleton]
          constructor
          · rintro _
            rcases hc with h | h
            · exact .inl (hrG h)
            · exact .inr (.inl h)
          · intro _; exact .inr trivial
      · intro q
        simp only [List.mem_append, List.mem_singleton]
        rw [i4 q]
        constructor
        · rintro ⟨h1, h2⟩
          exact ⟨.inl h1, fun h => by rcases h with h | h; exact h2 h; have := hlt q h1; omega⟩
        · rintro ⟨h1 | h1, h2⟩
          · exact ⟨h1, fun h => h2 (.inl h)⟩
          · exact absurd (.inr (by rw [h1])) h2
      · exact i5.trans (List.sublist_append_left _ _)
    · have hcb : (G.contains r.id || G.contains r.p) = false := by simpa using hc
      rw [hcb, if_neg (by simp)]
      have hc1 : r.id ∉ G := fun h => hc (.inl h)
      have hc2 : r.p ∉ G := fun h => hc (.inr h)
      refine ⟨i1, ?_, ?_, ?_, ?_⟩
      · intro y hy
        rcases i2 y hy with h | ⟨q, hq, e⟩
        · exact .inl h
        · exact .inr ⟨q, by simp [hq], e⟩
      · intro q hq
        rcases List.mem_append.1 hq with hq | hq
        · exact i3 q hq
        · rw [List.mem_singleton] at hq; subst hq
          constructor
          · intro h; exact absurd h hc1
          · rintro (h | h)
            · exact absurd (h ▸ i1) hc1
            · exact absurd h hc2
      · intro q
        simp only [List.mem_append, List.mem_singleton]
        rw [i4 q]
        constructor
        · rintro (⟨h1, h2⟩ | h1)
          · exact ⟨.inl h1, h2⟩
          · subst h1; exact ⟨.inr rfl, hc1⟩
        · rintro ⟨h1 | h1, h2⟩
          · exact .inl ⟨h1, h2⟩
          · exact .inr h1
      · exact i5.append (List.Sublist.refl _)
theorem InvM.below {n : Nat} {last : Int} {l : List Mk} (h : InvM n last l) : ∀ r ∈ l, r.p < r.id := fun r hr => by
  have := h.ids r hr
  rcases h.par r hr with h1 | ⟨q, hq, h1, h2, _⟩ <;> omega
theorem dropM_inv {n : Nat} {last : Int} {l : List Mk} (h : InvM n last l) (x : Int) : InvM (n + 1) last (dropM x l) := by
  have h' := h.up
  obtain ⟨i1, i2, i3, i4, i5⟩ := gone_fold x l h.rise h.below
  have hm : ∀ r ∈ dropM x l, r ∈ l := fun r hr => ((i4 r).1 hr).1
  refine ⟨h.rise.sublist i5, h'.lo, h'.hi, Nat.le_trans i5.length_le h'.len, fun r hr => h'.ids r (hm r hr), fun r hr => ?_, fun r hr => h'.ft r (hm r hr)⟩
  rcases h'.par r (hm r hr) with h1 | ⟨q, hq, h1, h2⟩
  · exact .inl h1
  · refine .inr ⟨q, (i4 q).2 ⟨hq, fun hg => ?_⟩, h1, h2⟩
    exact ((i4 r).1 hr).2 ((i3 r (hm r hr)).2 (.inr (h1 ▸ hg)))
/-- Up from u, to x or to the top. -/
def upM (l : List Mk) (x : Int) : Nat → Int → Int
  | 0, u => u
  | n + 1, u => if u ≠ x ∧ u ≠ 0 then upM l x n (match l.find? (fun r => r.id == u) with | some r => r.p | none => 0) else u
theorem upM_end (l : List Mk) (x : Int) (n : Nat) (u : Int) (h : u = x ∨ u = 0) : upM l x n u = u := by
  cases n with
  | zero => rfl
  | succ n => unfold upM; rw [if_neg (by omega)]
theorem upM_gone {n : Nat} {last : Int} {l : List Mk} (h : InvM n last l) (x : Int) (hx : 1 ≤ x) : ∀ (k : Nat) (hk : k < l.length) (m : Nat), k < m →
    (upM l x m l[k].id = x ∧ l[k] ∉ dropM x l) ∨ (upM l x m l[k].id = 0 ∧ l[k] ∈ dropM x l) := by
  obtain ⟨i1, i2, i3, i4, i5⟩ := gone_fold x l h.rise h.below
  have h0 : (0 : Int) ∉ (foldD x l).1 := fun hg => by
    rcases i2 _ hg with h1 | ⟨r, hr, h1⟩
    · omega
    · have := h.ids r hr; omega
  intro k
  induction k using Nat.strongRecOn with
  | _ k ih =>
    intro hk m hm
    obtain ⟨m, rfl⟩ : ∃ q, m = q + 1 := ⟨m - 1, by omega⟩
    have hmem := List.getElem_mem hk
    have hid := h.ids _ hmem
    by_cases hxx : l[k].id = x
    · refine .inl ⟨?_, fun hd => ((i4 _).1 hd).2 (hxx ▸ i1)⟩
      rw [upM_end _ _ _ _ (.inl hxx), hxx]
    · have hf := find_at h.rise l[k].id k hk rfl
      have hup : upM l x (m + 1) l[k].id = upM l x m l[k].p := by
        conv => lhs; unfold upM
        rw [if_pos ⟨hxx, by omega⟩, hf]
      rw [hup]
      rcases h.par _ hmem with hp | ⟨q, hq, h1, h2, _⟩
      · refine .inr ⟨?_, (i4 _).2 ⟨hmem, fun hg => ?_⟩⟩
        · rw [hp]; exact upM_end _ _ _ _ (.inr rfl)
        · rcases (i3 _ hmem).1 hg with h1 | h1
          · exact hxx h1
          · rw [hp] at h1; exact h0 h1
      · obtain ⟨j, hj, rfl⟩ := List.getElem_of_mem hq
        have hjk : j < k := by
          rcases Nat.lt_trichotomy k j with h3 | h3 | h3
          · have := rise_at h.rise k j h3 hj; omega
          · subst h3; omega
          · exact h3
        rw [← h1]
        rcases ih j hjk hj m (by omega) with ⟨h3, h4⟩ | ⟨h3, h4⟩
        · refine .inl ⟨h3, fun hd => ((i4 _).1 hd).2 ((i3 _ hmem).2 (.inr ?_))⟩
          rw [← h1]
          exact Classical.byContradiction fun hn => h4 ((i4 _).2 ⟨hq, hn⟩)
        · refine .inr ⟨h3, (i4 _).2 ⟨hmem, fun hg => ?_⟩⟩
          rcases (i3 _ hmem).1 hg with h5 | h5
          · exact hxx h5
          · rw [← h1] at h5; exact ((i4 _).1 h4).2 h5
/-- How many kids the first k have together. -/
def sumK (l : List Mk) : Nat → Nat
  | 0 => (l.filter (kidB 0)).length
  | k + 1 => sumK l k + (match l[k]? with | some q => (l.filter (kidB q.id)).length | none => 0)
theorem sumK_succ (l : List Mk) (k : Nat) (h : k < l.length) : sumK l (k + 1) = sumK l k + (l.filter (kidB l[k].id)).length := by
  conv => lhs; unfold sumK
  rw [List.getElem?_eq_getElem h]
theorem count_split {α : Type} (l : List α) (p q : α → Bool) (h : ∀ r ∈ l, ¬ (p r = true ∧ q r = true)) : (l.filter p).length + (l.filter q).length = (l.filter (fun r => p r || q r)).length := by
  induction l with
  | nil => rfl
  | cons a r ih =>
    have h1 := ih (fun r hr => h r (List.mem_cons_of_mem _ hr))
    have h2 := h a List.mem_cons_self
    simp only [List.filter_cons]
    cases hp : p a <;> cases hq : q a <;> simp_all <;> omega
def kidsTo (l : List Mk) (k : Nat) (r : Mk) : Bool := r.p == 0 || (l.take k).any (fun q => q.id == r.p)
theorem sumK_filter {l : List Mk} (h : RiseM l) (hid : ∀ r ∈ l, 1 ≤ r.id) (k : Nat) (hk : k ≤ l.length) : sumK l k = (l.filter (kidsTo l k)).length := by
  induction k with
  | zero =>
    unfold sumK
    congr 1
    apply List.filter_congr
    intro r _
    simp [kidsTo, kidB]
  | succ k ih =>
    rw [sumK_succ l k (by omega), ih (by omega), count_split]
    · congr 1
      apply List.filter_congr
      intro r _
      unfold kidsTo kidB
      rw [List.take_succ_eq_append_getElem (by omega), List.any_append]
      simp only [List.any_cons, List.any_nil, Bool.or_false, Bool.or_assoc]
      congr 2
      exact Bool.beq_comm
    · intro r _ ⟨h1, h2⟩
      unfold kidsTo at h1
      unfold kidB at h2
      simp only [Bool.or_eq_true, beq_iff_eq, List.any_eq_true] at h1 h2
      have h3 := hid _ (List.getElem_mem (show k < l.length by omega))
      rcases h1 with h1 | ⟨q, hq, h1⟩
      · omega
      · obtain ⟨j, hj, rfl⟩ := List.getElem_of_mem hq
        rw [List.length_take] at hj
        rw [List.getElem_take] at h1
        have := rise_at h j k (by omega) (by omega)
        omega
theorem sumK_all {n : Nat} {last : Int} {l : List Mk} (h : InvM n last l) : sumK l l.length = l.length := by
  rw [sumK_filter h.rise (fun r hr => (h.ids r hr).1) _ (Nat.le_refl _)]
  rw [List.filter_eq_self.2]
  intro r hr
  unfold kidsTo
  simp only [List.take_length, Bool.or_eq_true, beq_iff_eq, List.any_eq_true]
  rcases h.par r hr with h1 | ⟨q, hq, h1, _⟩
  · exact .inl h1
  · exact .inr ⟨q, hq, h1⟩
theorem mayN_all {es : List Ed} (h : mayN es = 0) : ∀ e ∈ es, 0 ≤ e.1.1 ∧ e.1.1 ≤ e.1.2 ∧ e.1.2 ≤ 65536 := by
  intro e he
  obtain ⟨i, hi, rfl⟩ := List.getElem_of_mem he
  cases hb : mayB es[i].1 65536
  · rw [mayN_no es i hi hb] at h; omega
  · exact of_decide_eq_true hb
def hasM (l : List Mk) (x : Int) : Bool := l.any (fun r => r.id == x)
theorem hasM_yes {l : List Mk} {x : Int} (h : hasM l x = true) : ∃ r ∈ l, r.id = x := by
  unfold hasM at h
  rw [List.any_eq_true] at h
  obtain ⟨r, hr, e⟩ := h
  exact ⟨r, hr, by simpa using e⟩
theorem hasM_of {l : List Mk} {x : Int} {r : Mk} (hr : r ∈ l) (e : r.id = x) : hasM l x = true := by
  unfold hasM
  rw [List.any_eq_true]
  exact ⟨r, hr, by simpa using e⟩
theorem hasM_no {l : List Mk} {x : Int} (h : hasM l x = false) : ∀ r ∈ l, r.id ≠ x := by
  intro r hr e
  rw [hasM_of hr e] at h; cases h
/-- Move, plain. -/
def moveM (es : List Ed) (last : Int) (l : List Mk) : Int × Int × Int × List Mk := if mayN es = 0 then (0, 0, last, mvAll (sortE es) l) else (0, mayN es, last, l)
/-- A deed, plain: what it answers, the last id and the records behind it. -/
def stepM (d : Dd) (last : Int) (l : List Mk) : Int × Int × Int × List Mk :=
  if lowN d.k 7 < 3 then addM last l (ofD d).f (ofD d).t (ofD d).b (ofD d).c (ofD d).p
  else if lowN d.k 7 = 3 then (if hasM l (lowN d.a 8) then (0, 0, last, poseM (lowN d.a 8) d.p d.q l) else (0, 6, last, l))
  else if lowN d.k 7 = 4 then (if hasM l (lowN d.a 10) then (0, 0, last, dropM (lowN d.a 10) l) else (0, 6, last, l))
  else if lowN d.k 7 = 5 then moveM (d.ed.map edE) last l
  else moveM d.ed last l
def DdOk (d : Dd) : Prop := d.ed.length ≤ 8 ∧ ∀ x ∈ d.ed, x.2.size ≤ 60
theorem edE_ok {l : List Ed} (h : l.length ≤ 8 ∧ ∀ x ∈ l, x.2.size ≤ 60) : (l.map edE).length ≤ 8 ∧ ∀ x ∈ l.map edE, x.2.size ≤ 60 := by
  refine ⟨by rw [List.length_map]; exact h.1, fun x hx => ?_⟩
  obtain ⟨y, hy, rfl⟩ := List.mem_map.1 hx
  exact h.2 y hy
theorem moveM_inv {n : Nat} {last : Int} {l : List Mk} (h : InvM n last l) (es : List Ed) (he : es.length ≤ 8 ∧ ∀ x ∈ es, x.2.size ≤ 60) : InvM (n + 1) (moveM es last l).2.2.1 (moveM es last l).2.2.2 := by
  unfold moveM
  split
  · next hm =>
    refine mvAll_inv h (sortE es) (fun e hx => ?_) (by rw [sortE_len]; exact he.1)
    have hx' := (sortE_perm es).mem_iff.1 hx
    have h1 := mayN_all hm e hx'
    exact ⟨h1.1, h1.2.1, he.2 e hx'⟩
  · exact h.up
theorem stepM_inv {n : Nat} {last : Int} {l : List Mk} (h : InvM n last l) (d : Dd) (hd : DdOk d) : InvM (n + 1) (stepM d last l).2.2.1 (stepM d last l).2.2.2 := by
  unfold stepM
  split
  · exact addM_inv h _ _ _ _ _
  · split
    · split
      · exact poseM_inv h _ _ _
      · exact h.up
    · split
      · split
        · exact dropM_inv h _
        · exact h.up
      · split
        · exact moveM_inv h _ (edE_ok hd)
        · exact moveM_inv h _ hd
theorem good_of {es : List Ed} (hm : mayN es = 0) (hx : ∀ x ∈ es, x.2.size ≤ 60) : ∀ e ∈ es, Good e := fun e he => by
  have := mayN_all hm e he
  have := hx e he
  unfold Good
  omega
theorem InvM.hp {n : Nat} {last : Int} {l : List Mk} (h : InvM n last l) (hn : n ≤ 20) : ∀ r ∈ l, r.p ≠ r.id ∧ (-1099511627776 ≤ r.f ∧ r.f ≤ 1099511627776) ∧ (-1099511627776 ≤ r.t ∧ r.t ≤ 1099511627776) := fun r hr => by
  have h1 := h.below r hr
  have h2 := h.ft r hr
  omega
theorem InvM.wf {n : Nat} {last : Int} {l : List Mk} (h : InvM n last l) (hn : n ≤ 20) : ∀ r ∈ l, (Lit.int .i64 r.id).wf = true ∧ (Lit.int .i64 r.p).wf = true := fun r hr => by
  have h1 := h.below r hr
  have h2 := h.ids r hr
  have h3 := h.hi
  have h4 : 0 ≤ r.p := by rcases h.par r hr with h5 | ⟨q, hq, h5, _⟩; omega; have := h.ids q hq; omega
  exact ⟨WalkArith.wf_i64 (by omega), WalkArith.wf_i64 (by omega)⟩
theorem kp_bel {w w' : World} {base tb : Nat} {last : Int} {v : Value} {l : List Mk} (h : Tab w base tb last v l) (hk : Kp w w' tb v) (hB : base ≤ w.heap.size) : Below base w w' :=
  ⟨hk.os, hk.tape, hk.output, hk.size, fun k hlt => hk.block k (by omega) (by have := h.low; omega) (fun e => by have := (h.own.lt k e).1; omega)⟩
end
section
open Go.ChangeShapes Go.WideShapes Go.ChangeAt Go.RowKit
open SpanM EdM
attribute [local go_sem ↓] Go.wp_at_zero Go.wp_at_succ
set_option maxRecDepth 100000
/-- What a deed does to a table in memory. -/
def DoneM (base tb : Nat) (s : Int × Int × Int × List Mk) (w : World) (e : Ending) (w' : World) : Prop :=
  e = .returned (.tuple #[.int .i64 s.1, .int .i64 s.2.1]) ∧ (∃ v', Tab w' base tb s.2.2.1 v' s.2.2.2) ∧ Below base w w'
theorem pose_do (base tb : Nat) (last : Int) (v : Value) (l : List Mk) (x : Int) (fr tr : Bool) (w : World) (h : Tab w base tb last v l) (hs : RiseM l) (hl : l.length ≤ 100000) (hB : base ≤ w.heap.size) (n a : Int) (ha : (if hasM l x then ((0 : Int), (0 : Int), last, poseM x fr tr l) else (0, 6, last, l)) = (n, a, last, (if hasM l x then poseM x fr tr l else l))) :
    Calls Try.prog 29 #[.pointer (some ⟨tb, 0, none⟩), .int .i64 x, .bool fr, .bool tr] w fun e w' => e = .returned (.int .i64 a) ∧ Tab w' base tb last v (if hasM l x then poseM x fr tr l else l) ∧ Below base w w' := by
  refine (pose_any base tb last v l x fr tr w h hs hl hB).mono ?_
  rintro e w' ⟨h1 | h1, hb⟩
  · obtain ⟨i, hi, hx, he, ht⟩ := h1
    rw [poseM_modify hs x fr tr i hi hx] at ht
    have hh := hasM_of (List.getElem_mem hi) hx
    rw [if_pos hh, if_pos hh] at ha
    rw [if_pos hh]
    injection ha with _ ha
    injection ha with ha _
    subst ha
    exact ⟨he, ht, hb⟩
  · obtain ⟨hno, he, ht⟩ := h1
    have hh : hasM l x = false := by
      cases hc : hasM l x
      · rfl
      · obtain ⟨r, hr, e⟩ := hasM_yes hc; exact absurd e (hno r hr)
    rw [hh, if_neg (by simp), if_neg (by simp)] at ha
    rw [hh, if_neg (by simp)]
    injection ha with _ ha
    injection ha with ha _
    subst ha
    exact ⟨he, ht, hb⟩
theorem drop_do (base tb : Nat) (last : Int) (v : Value) (l : List Mk) (x : Int) (n : Nat) (w : World) (h : Tab w base tb last v l) (hi : InvM n last l) (hn : n ≤ 20) (hB : base ≤ w.heap.size) (hx : (Lit.int .i64 x).wf = true) :
    Calls Try.prog 23 #[.pointer (some ⟨tb, 0, none⟩), .int .i64 x] w fun e w' => e = .returned (.int .i64 (if hasM l x then 0 else 6)) ∧ (∃ v', Tab w' base tb last v' (if hasM l x then dropM x l else l)) ∧ Below base w w' := by
  have hlen := hi.len
  cases hc : hasM l x
  · refine (drop_none base tb last v l x w h hi.rise (by omega) (hasM_no hc)).mono ?_
    rintro e w' ⟨rfl, hb⟩
    exact ⟨rfl, ⟨v, h.later hb⟩, hb.mono hB⟩
  · refine (drop_any base tb last v l x w h hi.rise (by omega) hx hB (hi.wf hn) (hasM_yes hc)).mono ?_
    rintro e w' ⟨rfl, ⟨v', ht, _⟩, hg⟩
    exact ⟨rfl, ⟨v', ht⟩, below_gr ((bl_refl w).mono hB) hB hg (fun k hk => by injection hk with hk; have := h.low; omega)⟩
theorem move_do (base tb : Nat) (last : Int) (v vA : Value) (l : List Mk) (ed : List Ed) (n : Nat) (w : World) (h : Tab w base tb last v l) (hi : InvM n last l) (hn : n ≤ 20) (hB : base ≤ w.heap.size) (he : EdAt w vA ed) (hd : ed.length ≤ 8 ∧ ∀ x ∈ ed, x.2.size ≤ 60) :
    Calls Try.prog 28 #[.pointer (some ⟨tb, 0, none⟩), vA] w fun e w' => e = .returned (.int .i64 (moveM ed last l).2.1) ∧ (∃ v', Tab w' base tb (moveM ed last l).2.2.1 v' (moveM ed last l).2.2.2) ∧ Below base w w' := by
  have hlen := hi.len
  obtain ⟨h1, h2⟩ := hd
  unfold moveM
  by_cases hm : mayN ed = 0
  · rw [if_pos hm]
    refine (tmove_any base tb last v vA l ed w h hi.rise (by omega) hB he (by omega) (good_of hm h2) hm (hi.hp hn)).mono ?_
    rintro e w' ⟨rfl, ht, hb⟩
    exact ⟨rfl, ⟨v, ht⟩, hb⟩
  · rw [if_neg hm]
    refine (tmove_no tb vA ed w he (by omega) _ rfl hm).mono ?_
    rintro e w' ⟨rfl, hb⟩
    exact ⟨rfl, ⟨v, h.later hb⟩, hb.mono hB⟩
set_option maxHeartbeats 8000000 in
theorem does_add (base tb n : Nat) (last : Int) (v : Value) (l : List Mk) (d : Dd) (w : World) (h : Tab w base tb last v l) (hi : InvM n last l) (hn : n ≤ 20) (hB : base ≤ w.heap.size) (hE : EdAt w d.v d.ed) (K : Nat) (hK : lowN d.k 7 = K) (h3 : K < 3) :
    Calls Try.prog 15 #[.pointer (some ⟨tb, 0, none⟩), .agg #[.int .i64 d.k, .int .i64 d.a, .int .i64 d.b, .int .i64 d.c, .bool d.p, .bool d.q, d.v]] w (DoneM base tb (stepM d last l) w) := by
  have hst : stepM d last l = addM last l (ofD d).f (ofD d).t (ofD d).b (ofD d).c (ofD d).p := by unfold stepM; rw [if_pos (by omega)]
  rw [hst]
  have hv : ∃ a n c, d.v = .slice a n c := by obtain ⟨a, c, e⟩ := edat_len hE; exact ⟨a, _, c, e⟩
  have HO := hide (fun W => of_any d W hv)
  have hKi : (lowN d.k 7 : Int) = (K : Int) := by rw [hK]
  generalize ofD d = g at *
  obtain ⟨k, a, b, c, p, q, vd, ed⟩ := d
  obtain ⟨vA, vn, vc, hv⟩ := hv
  simp only at hv HO hKi ⊢
  subst hv
  have HK := hide hKi
  have H := hide h
  have HI := hide hi
  have hlen := hi.len
  have hlo := hi.lo
  have hhi := hi.hi
  have hba : Below w.heap.size w (w.alloc (.cells #[.int .i64 k, .int .i64 a, .int .i64 b, .int .i64 c, .bool p, .bool q, .slice vA vn vc] 37)) := bl_alloc (bl_refl w) _
  clear hK hKi h hi hE hst
  obtain ⟨f, t, fb, fc, fp⟩ := g
  match K, h3 with
  | 0, _ =>
    go_enter Try.func15, Try.ntmps15
    go_wp2_with fail
    refine (low_e k 7 0 _ (by omega) (by omega) HK.out).mono ?_
    rintro e w1 ⟨rfl, rfl⟩
    go_wp2_with fail
    refine (HO.out _).mono ?_
    rintro e w2 ⟨rfl, hb2⟩
    have hb3 := bl_trans hba hb2
    have HT := hide (H.out.later hb3)
    have hB2 : base ≤ w2.heap.size := Nat.le_trans hB hb3.size
    unfold vG
    go_wp2_with fail
    refine (addG_any base tb last v l f t fp fb fc w2 HT.out HI.out.rise (by omega) hB2 (by omega)).mono ?_
    rintro e w3 ⟨rfl, ht3, hk3⟩
    have hb4 := (hb3.mono hB).trans (kp_bel HT.out hk3 hB2)
    generalize addM last l f t fb fc fp = s at *
    go_wp2
    go_ret2
    exact ⟨rfl, ht3, hb4⟩
  | 1, _ =>
    go_enter Try.func15, Try.ntmps15
    go_wp2_with fail
    refine (low_e k 7 1 _ (by omega) (by omega) HK.out).mono ?_
    rintro e w1 ⟨rfl, rfl⟩
    go_wp2_with fail
    refine (HO.out _).mono ?_
    rintro e w2 ⟨rfl, hb2⟩
    have hb3 := bl_trans hba hb2
    have HT := hide (H.out.later hb3)
    have hB2 : base ≤ w2.heap.size := Nat.le_trans hB hb3.size
    unfold vG
    go_wp2_with fail
    refine (addG_any base tb last v l f t fp fb fc w2 HT.out HI.out.rise (by omega) hB2 (by omega)).mono ?_
    rintro e w3 ⟨rfl, ht3, hk3⟩
    have hb4 := (hb3.mono hB).trans (kp_bel HT.out hk3 hB2)
    generalize addM last l f t fb fc fp = s at *
    go_wp2
    go_ret2
    exact ⟨rfl, ht3, hb4⟩
  | 2, _ =>
    go_enter Try.func15, Try.ntmps15
    go_wp2_with fail
    refine (low_e k 7 2 _ (by omega) (by omega) HK.out).mono ?_
    rintro e w1 ⟨rfl, rfl⟩
    go_wp2_with fail
    refine (HO.out _).mono ?_
    rintro e w2 ⟨rfl, hb2⟩
    have hb3 := bl_trans hba hb2
    have HT := hide (H.out.later hb3)
    have hB2 : base ≤ w2.heap.size := Nat.le_trans hB hb3.size
    unfold vG
    go_wp2_with fail
    refine (addG_any base tb last v l f t fp fb fc w2 HT.out HI.out.rise (by omega) hB2 (by omega)).mono ?_
    rintro e w3 ⟨rfl, ht3, hk3⟩
    have hb4 := (hb3.mono hB).trans (kp_bel HT.out hk3 hB2)
    generalize addM last l f t fb fc fp = s at *
    go_wp2
    go_ret2
    exact ⟨rfl, ht3, hb4⟩
set_option maxHeartbeats 8000000 in
theorem does_pose (base tb n : Nat) (last : Int) (v : Value) (l : List Mk) (d : Dd) (w : World) (h : Tab w base tb last v l) (hi : InvM n last l) (hB : base ≤ w.heap.size) (hn : n ≤ 20) (hE : EdAt w d.v d.ed) (hK : lowN d.k 7 = 3) :
    Calls Try.prog 15 #[.pointer (some ⟨tb, 0, none⟩), .agg #[.int .i64 d.k, .int .i64 d.a, .int .i64 d.b, .int .i64 d.c, .bool d.p, .bool d.q, d.v]] w (DoneM base tb (stepM d last l) w) := by
  obtain ⟨X, hX⟩ : ∃ X : Int, (lowN d.a 8 : Int) = X := ⟨_, rfl⟩
  have hst : stepM d last l = (if hasM l X then ((0 : Int), (0 : Int), last, poseM X d.p d.q l) else (0, 6, last, l)) := by unfold stepM; rw [if_neg (by omega), if_pos hK, hX]
  rw [hst]
  obtain ⟨ans, hans⟩ : ∃ ans : Int, (if hasM l X then ((0 : Int), (0 : Int), last, poseM X d.p d.q l) else (0, 6, last, l)) = (0, ans, last, (if hasM l X then poseM X d.p d.q l else l)) := by
    cases hasM l X
    · exact ⟨6, rfl⟩
    · exact ⟨0, rfl⟩
  have hlen := hi.len
  have HP := hide (fun W hT hBW => pose_do base tb last v l X d.p d.q W hT hi.rise (by omega) hBW 0 ans hans)
  rw [hans]
  have hv : ∃ a n c, d.v = .slice a n c := by obtain ⟨a, c, e⟩ := edat_len hE; exact ⟨a, _, c, e⟩
  have hKi : (lowN d.k 7 : Int) = 3 := by rw [hK]; rfl
  generalize (if hasM l X then poseM X d.p d.q l else l) = l2 at *
  obtain ⟨k, a, b, c, p, q, vd, ed⟩ := d
  obtain ⟨vA, vn, vc, hv⟩ := hv
  simp only at hv hKi hX HP ⊢
  subst hv
  have HK := hide hKi
  have HX := hide hX
  have hba : Below w.heap.size w (w.alloc (.cells #[.int .i64 k, .int .i64 a, .int .i64 b, .int .i64 c, .bool p, .bool q, .slice vA vn vc] 37)) := bl_alloc (bl_refl w) _
  have HT := hide (h.later hba)
  have HBB := hide (hba.mono hB)
  have hB2 : base ≤ (w.alloc (.cells #[.int .i64 k, .int .i64 a, .int .i64 b, .int .i64 c, .bool p, .bool q, .slice vA vn vc] 37)).heap.size := Nat.le_trans hB hba.size
  have HB2 := hide hB2
  clear hK hKi hX h hi hE hst hba hans hB2
  go_enter Try.func15, Try.ntmps15
  go_wp2_with fail
  refine (low_e k 7 3 _ (by omega) (by omega) HK.out).mono ?_
  rintro e w1 ⟨rfl, rfl⟩
  go_wp2
  go_region_with (first | (go_at_call 24; refine (low_e a 8 X _ (by omega) (by omega) HX.out).mono ?_; rintro e w3 ⟨rfl, rfl⟩) | (go_at_call 29; refine (HP.out _ (HT.out.later (by repeat (first | exact bl_refl _ | refine bl_drew ?_))) (by exact HB2.out)).mono ?_; rintro e w4 ⟨rfl, ht4, hb4⟩))
  all_goals
    go_wp2
    go_ret2
    exact ⟨rfl, ⟨v, ht4.later (by repeat (first | exact bl_refl _ | refine bl_drew ?_))⟩, (by first | exact HBB.out.drew.trans hb4 | exact HBB.out.trans hb4 | exact HBB.out.trans hb4.drew)⟩
set_option maxHeartbeats 8000000 in
theorem does_drop (base tb n : Nat) (last : Int) (v : Value) (l : List Mk) (d : Dd) (w : World) (h : Tab w base tb last v l) (hi : InvM n last l) (hn : n ≤ 20) (hB : base ≤ w.heap.size) (hE : EdAt w d.v d.ed) (hK : lowN d.k 7 = 4) :
    Calls Try.prog 15 #[.pointer (some ⟨tb, 0, none⟩), .agg #[.int .i64 d.k, .int .i64 d.a, .int .i64 d.b, .int .i64 d.c, .bool d.p, .bool d.q, d.v]] w (DoneM base tb (stepM d last l) w) := by
  obtain ⟨X, hX⟩ : ∃ X : Int, (lowN d.a 10 : Int) = X := ⟨_, rfl⟩
  have hst : stepM d last l = (0, (if hasM l X then 0 else 6), last, (if hasM l X then dropM X l else l)) := by
    unfold stepM
    rw [if_neg (by omega), if_neg (by omega), if_pos hK, hX]
    cases hasM l X <;> rfl
  rw [hst]
  have hXw : (Lit.int .i64 X).wf = true := by have := lowN_lt d.a 10 (by omega); exact WalkArith.wf_i64 (by omega)
  have HP := hide (fun W hT hBW => drop_do base tb last v l X n W hT hi hn hBW hXw)
  have hv : ∃ a n c, d.v = .slice a n c := by obtain ⟨a, c, e⟩ := edat_len hE; exact ⟨a, _, c, e⟩
  have hKi : (lowN d.k 7 : Int) = 4 := by rw [hK]; rfl
  generalize (if hasM l X then dropM X l else l) = l2 at *
  generalize (if hasM l X then (0 : Int) else 6) = ans at *
  obtain ⟨k, a, b, c, p, q, vd, ed⟩ := d
  obtain ⟨vA, vn, vc, hv⟩ := hv
  simp only at hv hKi hX HP ⊢
  subst hv
  have HK := hide hKi
  have HX := hide hX
  have hba : Below w.heap.size w (w.alloc (.cells #[.int .i64 k, .int .i64 a, .int .i64 b, .int .i64 c, .bool p, .bool q, .slice vA vn vc] 37)) := bl_alloc (bl_refl w) _
  have HT := hide (h.later hba)
  have HBB := hide (hba.mono hB)
  have HB2 := hide (Nat.le_trans hB hba.size)
  clear hK hKi hX h hi hE hst hba hXw
  go_enter Try.func15, Try.ntmps15
  go_wp2_with fail
  refine (low_e k 7 4 _ (by omega) (by omega) HK.out).mono ?_
  rintro e w1 ⟨rfl, rfl⟩
  go_wp2_with fail
  refine (low_e a 10 X _ (by omega) (by omega) HX.out).mono ?_
  rintro e w1 ⟨rfl, rfl⟩
  go_wp2_with fail
  refine (HP.out _ HT.out HB2.out).mono ?_
  rintro e w3 ⟨rfl, ht3, hb3⟩
  go_wp2
  go_ret2
  exact ⟨rfl, ht3, HBB.out.trans hb3⟩
set_option maxHeartbeats 8000000 in
theorem does_move (base tb n : Nat) (last : Int) (v : Value) (l : List Mk) (d : Dd) (w : World) (h : Tab w base tb last v l) (hi : InvM n last l) (hn : n ≤ 20) (hB : base ≤ w.heap.size) (hE : EdAt w d.v d.ed) (hd : DdOk d) (hK : lowN d.k 7 = 6) :
    Calls Try.prog 15 #[.pointer (some ⟨tb, 0, none⟩), .agg #[.int .i64 d.k, .int .i64 d.a, .int .i64 d.b, .int .i64 d.c, .bool d.p, .bool d.q, d.v]] w (DoneM base tb (stepM d last l) w) := by
  have hst : stepM d last l = moveM d.ed last l := by unfold stepM; rw [if_neg (by omega), if_neg (by omega), if_neg (by omega), if_neg (by omega)]
  have hst0 : (moveM d.ed last l).1 = 0 := by unfold moveM; split <;> rfl
  rw [hst]
  have HP := hide (fun W hT hBW hEd => move_do base tb last v d.v l d.ed n W hT hi hn hBW hEd hd)
  have hv : ∃ a n c, d.v = .slice a n c := by obtain ⟨a, c, e⟩ := edat_len hE; exact ⟨a, _, c, e⟩
  have hKi : (lowN d.k 7 : Int) = 6 := by rw [hK]; rfl
  obtain ⟨k, a, b, c, p, q, vd, ed⟩ := d
  obtain ⟨vA, vn, vc, hv⟩ := hv
  simp only at hv hKi HP hE hst0 ⊢
  subst hv
  generalize moveM ed last l = s at *
  obtain ⟨s1, s2, s3, s4⟩ := s
  simp only at hst0 HP
  subst hst0
  have HK := hide hKi
  have hba : Below w.heap.size w (w.alloc (.cells #[.int .i64 k, .int .i64 a, .int .i64 b, .int .i64 c, .bool p, .bool q, .slice vA vn vc] 37)) := bl_alloc (bl_refl w) _
  have HT := hide (h.later hba)
  have HB2 := hide (Nat.le_trans hB hba.size)
  have HBB := hide (hba.mono hB)
  have HE := hide (edat_below hE hba)
  clear hK hKi h hi hE hst hd hba
  go_enter Try.func15, Try.ntmps15
  go_wp2_with fail
  refine (low_e k 7 6 _ (by omega) (by omega) HK.out).mono ?_
  rintro e w1 ⟨rfl, rfl⟩
  go_wp2_with fail
  refine (HP.out _ HT.out HB2.out HE.out).mono ?_
  rintro e w4 ⟨rfl, ht4, hb4⟩
  go_wp2
  go_ret2
  exact ⟨rfl, ht4, HBB.out.trans hb4⟩
end
section
open Go.ChangeShapes Go.WideShapes Go.ChangeAt Go.RowKit
open SpanM EdM
attribute [local go_sem ↓] Go.wp_at_zero Go.wp_at_succ
set_option maxRecDepth 100000
set_option maxHeartbeats 8000000 in
theorem does_near (base tb n : Nat) (last : Int) (v : Value) (l : List Mk) (d : Dd) (w : World) (h : Tab w base tb last v l) (hi : InvM n last l) (hn : n ≤ 20) (hB : base ≤ w.heap.size) (hE : EdAt w d.v d.ed) (hd : DdOk d) (hK : lowN d.k 7 = 5) :
    Calls Try.prog 15 #[.pointer (some ⟨tb, 0, none⟩), .agg #[.int .i64 d.k, .int .i64 d.a, .int .i64 d.b, .int .i64 d.c, .bool d.p, .bool d.q, d.v]] w (DoneM base tb (stepM d last l) w) := by
  have hst : stepM d last l = moveM (d.ed.map edE) last l := by unfold stepM; rw [if_neg (by omega), if_neg (by omega), if_neg (by omega), if_pos hK]
  have hst0 : (moveM (d.ed.map edE) last l).1 = 0 := by unfold moveM; split <;> rfl
  rw [hst]
  have hd8 := hd.1
  have HP := hide (fun W vA hT hBW hEd => move_do base tb last v vA l (d.ed.map edE) n W hT hi hn hBW hEd (edE_ok hd))
  have HQ := hide (fun W hEd => edits7_any d.v d.ed W hEd (by omega))
  have hv : ∃ a n c, d.v = .slice a n c := by obtain ⟨a, c, e⟩ := edat_len hE; exact ⟨a, _, c, e⟩
  have hKi : (lowN d.k 7 : Int) = 5 := by rw [hK]; rfl
  have hlm : (d.ed.map edE).length = d.ed.length := List.length_map ..
  obtain ⟨k, a, b, c, p, q, vd, ed⟩ := d
  obtain ⟨vA, vn, vc, hv⟩ := hv
  simp only at hv hKi HP HQ hE hlm hd8 hst0 ⊢
  subst hv
  generalize moveM (ed.map edE) last l = s at *
  obtain ⟨s1, s2, s3, s4⟩ := s
  simp only at hst0 HP
  subst hst0
  have HK := hide hKi
  have HLM := hide hlm
  have hba : Below w.heap.size w (w.alloc (.cells #[.int .i64 k, .int .i64 a, .int .i64 b, .int .i64 c, .bool p, .bool q, .slice vA vn vc] 37)) := bl_alloc (bl_refl w) _
  have H := hide h
  have HE := hide (edat_below hE hba)
  clear hK hKi h hi hE hst hd hlm
  go_enter Try.func15, Try.ntmps15
  go_wp2_with fail
  refine (low_e k 7 5 _ (by omega) (by omega) HK.out).mono ?_
  rintro e w1 ⟨rfl, rfl⟩
  go_wp2_with fail
  refine (HQ.out _ HE.out).mono ?_
  rintro e w2 ⟨⟨vE, rfl, hoE⟩, hb2⟩
  have hb3 := bl_trans hba hb2
  have HT := hide (H.out.later hb3)
  have HB2 := hide (Nat.le_trans hB hb3.size)
  obtain ⟨aZ, cZ, rfl⟩ := own_slice hoE
  have HEE : Hid (EdAt w2 (.slice aZ ed.length cZ) (ed.map edE)) := hide (own_edat (by rw [HLM.out]; exact hoE))
  clear hoE
  go_wp2_with fail
  refine (HP.out _ _ HT.out HB2.out HEE.out).mono ?_
  rintro e w4 ⟨rfl, ht4, hb4⟩
  go_wp2
  go_ret2
  exact ⟨rfl, ht4, (hb3.mono hB).trans hb4⟩
theorem does_any (base tb n : Nat) (last : Int) (v : Value) (l : List Mk) (d : Dd) (w : World) (h : Tab w base tb last v l) (hi : InvM n last l) (hn : n ≤ 20) (hB : base ≤ w.heap.size) (hE : EdAt w d.v d.ed) (hd : DdOk d) :
    Calls Try.prog 15 #[.pointer (some ⟨tb, 0, none⟩), .agg #[.int .i64 d.k, .int .i64 d.a, .int .i64 d.b, .int .i64 d.c, .bool d.p, .bool d.q, d.v]] w (DoneM base tb (stepM d last l) w) := by
  have h7 := lowN_lt d.k 7 (by omega)
  have hc : lowN d.k 7 < 3 ∨ lowN d.k 7 = 3 ∨ lowN d.k 7 = 4 ∨ lowN d.k 7 = 5 ∨ lowN d.k 7 = 6 := by omega
  rcases hc with hc | hc | hc | hc | hc
  · exact does_add base tb n last v l d w h hi hn hB hE _ rfl hc
  · exact does_pose base tb n last v l d w h hi hB hn hE hc
  · exact does_drop base tb n last v l d w h hi hn hB hE hc
  · exact does_near base tb n last v l d w h hi hn hB hE hd hc
  · exact does_move base tb n last v l d w h hi hn hB hE hd hc
end
section
open Go.ChangeShapes Go.WideShapes Go.ChangeAt Go.RowKit
open SpanM EdM
attribute [local go_sem ↓] Go.wp_at_zero Go.wp_at_succ
set_option maxRecDepth 100000
/-- A slice that reads as these integers. -/
def IntAt (w : World) (v : Value) (l : List Int) : Prop :=
  (v = .slice none 0 0 ∧ l = []) ∨ ∃ g c, v = .slice (some ⟨g, 0, none⟩) l.length c ∧ g < w.heap.size ∧ l.length ≤ c ∧ c ≤ maxLen ∧ ∀ i (h : i < l.length), w.cell? ⟨g, i, none⟩ = some (.int .i64 l[i])
theorem own_intat {w : World} {base : Nat} {v : Value} {l : List Int} {n : Nat} (h : w.ownsRow base 3 1 v n (l.map fun x => .int .i64 x)) (hn : n = l.length) : IntAt w v l := by
  subst hn
  rcases own_form h with ⟨rfl, h1, _⟩ | ⟨g, c, rfl, _, h2, h3, h4, h5⟩
  · exact .inl ⟨rfl, List.eq_nil_of_length_eq_zero h1⟩
  · exact .inr ⟨g, c, rfl, h2, h3, h4, fun i hi => h5 i _ (by simp [hi])⟩
theorem intat_below {w w' : World} {v : Value} {l : List Int} (h : IntAt w v l) (hb : Below w.heap.size w w') : IntAt w' v l := by
  rcases h with h | ⟨g, c, h1, h2, h3, h4, h5⟩
  · exact .inl h
  · exact .inr ⟨g, c, h1, Nat.lt_of_lt_of_le h2 hb.size, h3, h4, fun i hi => cell_later hb (h5 i hi)⟩
theorem intat_len {w : World} {v : Value} {l : List Int} (h : IntAt w v l) : ∃ a c, v = .slice a l.length c := by
  rcases h with ⟨rfl, rfl⟩ | ⟨g, c, rfl, _⟩
  · exact ⟨none, 0, rfl⟩
  · exact ⟨_, c, rfl⟩
theorem intat_some {w : World} {v : Value} {l : List Int} (h : IntAt w v l) (hp : 0 < l.length) : ∃ g c, v = .slice (some ⟨g, 0, none⟩) l.length c ∧ g < w.heap.size ∧ l.length ≤ c ∧ c ≤ maxLen ∧ ∀ i (h : i < l.length), w.cell? ⟨g, i, none⟩ = some (.int .i64 l[i]) := by
  rcases h with ⟨rfl, rfl⟩ | h
  · simp at hp
  · exact h
set_option maxHeartbeats 2000000 in
theorem ints_same (v u : Value) (l : List Int) (w : World) (h : IntAt w v l) (g : IntAt w u l) (hl : l.length ≤ 1000) :
    Calls Try.prog 21 #[v, u] w fun e w' => e = .returned (.bool true) ∧ Below w.heap.size w w' := by
  by_cases hp : 0 < l.length
  · obtain ⟨b1, c1, rfl, hb1, hc1, hm1, hcell1⟩ := intat_some h hp
    obtain ⟨b2, c2, rfl, hb2, hc2, hm2, hcell2⟩ := intat_some g hp
    unfold maxLen at hm1 hm2
    clear h g hp
    go_enter Try.func21, Try.ntmps21
    go_wp2
    go_loopw [5] (fun i wr => ∃ j n : Nat, j ≤ l.length ∧ i = .int .i64 j ∧ w.drewN n = wr) (fun i _ => l.length - (intOf i).toNat)
    case atStart => exact ⟨0, 0, Nat.zero_le _, rfl, rfl⟩
    case round =>
      obtain ⟨j, n, hj, rfl, rfl⟩ := hrel
      by_cases hlt : j < l.length
      · have x1 := hcell1 j hlt
        have x2 := hcell2 j hlt
        clear hcell1 hcell2
        generalize l[j] = q at x1 x2
        go_wp2
        go_quiet (fail)
        go_wp2
        refine ⟨?_, by first | (simp [intOf]; done) | (simp [intOf]; omega)⟩
        first
          | exact ⟨j + 1, _, by omega, by go_num, by first | rfl | trivial⟩
          | ((repeat apply Exists.intro); exact ⟨⟨j + 1, _, by omega, by go_num, by first | rfl | trivial⟩, rfl⟩)
      · obtain rfl : j = l.length := by omega
        clear hcell1 hcell2
        go_wp2
        go_ret
        exact ⟨rfl, bl_drewN (bl_refl w) _⟩
  · have h1 : l = [] := List.eq_nil_of_length_eq_zero (by omega)
    subst h1
    obtain ⟨a, c, rfl⟩ := intat_len h
    obtain ⟨b, d, rfl⟩ := intat_len g
    clear h g hl hp
    go_enter Try.func21, Try.ntmps21
    go_wp2
    refine wp_loop_rounds 1 ?_
    rw [rounds_succ]
    go_wp2
    go_ret
    exact ⟨rfl, bl_refl w⟩
theorem ddat_long {w : World} {v : Value} {l : List Dd} (h : DdAt w v l) : l.length ≤ maxLen := by
  rcases h with ⟨_, rfl⟩ | ⟨x, c, _, h1, h2, _⟩
  · simp
  · omega
theorem gotM_at {L : List Mk} {x : Int} {r : Value} {ok : Bool} (hR : RiseM L) (h : GotM L x r ok) (i0 : Nat) (hi0 : i0 < L.length) (hid : L[i0].id = x) : r = vR L[i0] ∧ ok = true := by
  rcases h with ⟨h1, i, hi, hx, hv⟩ | ⟨_, _, hno⟩
  · have : i = i0 := by
      rcases Nat.lt_trichotomy i i0 with h | h | h
      · have := rise_at hR i i0 h hi0; omega
      · exact h
      · have := rise_at hR i0 i h hi; omega
    subst this
    exact ⟨hv, h1⟩
  · exact absurd hid (hno _ (List.getElem_mem hi0))
theorem gotM_mem {L : List Mk} {x : Int} {r : Value} {ok : Bool} (hR : RiseM L) (h : GotM L x r ok) (q : Mk) (hq : q ∈ L) (hid : q.id = x) : r = vR q ∧ ok = true := by
  obtain ⟨i, hi, rfl⟩ := List.getElem_of_mem hq
  exact gotM_at hR h i hi hid
/-- Deeds are done to a table: what is kept from one to the next. -/
def DoInv (n B : Nat) (w : World) (i : Value) (wr : World) : Prop :=
  ∃ (k : Nat) (last : Int) (v : Value) (L : List Mk), i = .int .i64 k ∧ k ≤ n ∧ Hid (Tab wr B B last v L) ∧ Hid (InvM k last L) ∧ Below B w wr
end
end Go.Proofs.Ytjmoeahlbgdkbaa
