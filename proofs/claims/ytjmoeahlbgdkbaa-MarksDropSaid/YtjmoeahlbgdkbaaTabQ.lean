/- Ranges without parents, moved by edits at once and one by one; two tables beside one another. No condition. -/
import Derived.Test.YtjmoeahlbgdkbaaTabJ
import Derived.Test.YtjmoeahlbgdkbaaTabP
import Derived.Test.YtjmoeahlbgdkbaaTabT
namespace Go.Proofs.Ytjmoeahlbgdkbaa
open Go.ChangeShapes Go.WideShapes Go.ChangeAt Go.RowKit
open SpanM EdM
def mv0 (es : List Ed) (r : Mk) : Mk := { r with f := min (mvR r.b es r.f) (mvR r.c es r.t), t := mvR r.c es r.t }
/-- Records as the law adds them. -/
def OkL (L : List Mk) : Prop := ∀ j (h : j < L.length), L[j].id = (j : Int) + 1 ∧ L[j].p = 0 ∧ (0 ≤ L[j].f ∧ L[j].f ≤ L[j].t ∧ L[j].t ≤ 100)
theorem okL_snoc {L : List Mk} (h : OkL L) (f t : Int) (b c : Bool) (hf : 0 ≤ f) (hft : f ≤ t) (ht : t ≤ 100) : OkL (L ++ [⟨(L.length : Int) + 1, f, t, b, c, 0⟩]) := by
  intro j hj
  rw [List.getElem_append]
  split
  · next h1 => exact h j h1
  · next h1 =>
    have : j = L.length := by simp at hj; omega
    subst this
    simp
    omega
theorem okL_rise {L : List Mk} (h : OkL L) : RiseM L := by
  unfold RiseM
  rw [List.pairwise_iff_getElem]
  intro i j hi hj hij
  rw [(h i hi).1, (h j hj).1]; omega
theorem okL_mem {L : List Mk} (h : OkL L) : ∀ r ∈ L, 1 ≤ r.id ∧ r.p = 0 ∧ (0 ≤ r.f ∧ r.f ≤ r.t ∧ r.t ≤ 100) := fun r hr => by
  obtain ⟨j, hj, rfl⟩ := List.getElem_of_mem hr
  have := h j hj
  exact ⟨by omega, this.2.1, this.2.2⟩
theorem mvTo0 (es : List Ed) (l : List Mk) (h : ∀ r ∈ l, 1 ≤ r.id ∧ r.p = 0) : ∀ k i (hi : i < l.length), (mvTo es l k)[i]'(by rw [mvTo_len]; exact hi) = if i < k then mv0 es l[i] else l[i] := by
  intro k
  induction k with
  | zero => intro i hi; rfl
  | succ k ih =>
    intro i hi
    have hL : (mvTo es l k).find? (fun q => q.id == 0) = none := find_none fun q hq hq0 => by
      have h2 : q.id ∈ (mvTo es l k).map (·.id) := List.mem_map_of_mem hq
      rw [mvTo_ids] at h2
      obtain ⟨q', hq', e⟩ := List.mem_map.1 h2
      have := (h q' hq').1
      omega
    have hone : ∀ r : Mk, r.p = 0 → mvOne es (mvTo es l k) r = mv0 es r := fun r hr => by
      obtain ⟨id, f, t, b, c, p⟩ := r
      simp only at hr
      subst hr
      unfold mvOne
      simp only [hL]
      rfl
    have e1 : (mvTo es l (k + 1))[i]'(by rw [mvTo_len]; exact hi) = if k = i then mvOne es (mvTo es l k) ((mvTo es l k)[i]'(by rw [mvTo_len]; exact hi)) else (mvTo es l k)[i]'(by rw [mvTo_len]; exact hi) := by
      exact (List.getElem_of_eq (show mvTo es l (k + 1) = (mvTo es l k).modify k (mvOne es (mvTo es l k)) from rfl) _).trans (by rw [List.getElem_modify])
    rw [e1, ih i hi]
    by_cases hki : k = i
    · subst hki
      rw [if_pos rfl, if_neg (by omega), if_pos (by omega), hone _ (h _ (List.getElem_mem hi)).2]
    · rw [if_neg hki]
      by_cases h3 : i < k
      · rw [if_pos h3, if_pos (by omega)]
      · rw [if_neg h3, if_neg (by omega)]
theorem mvAll0 (es : List Ed) (l : List Mk) (h : ∀ r ∈ l, 1 ≤ r.id ∧ r.p = 0) : mvAll es l = l.map (mv0 es) := by
  unfold mvAll
  apply List.ext_getElem
  · rw [mvTo_len, List.length_map]
  · intro i h1 h2
    have hi : i < l.length := by simpa using h2
    rw [mvTo0 es l h l.length i hi, if_pos hi, List.getElem_map]
def one0 (e : Ed) (r : Mk) : Mk := mv0 [e] r
def seqR (es : List Ed) (r : Mk) : Mk := es.foldr one0 r
theorem one0_eq (e : Ed) (r : Mk) : one0 e r = { r with f := min (mv1 r.b r.f e) (mv1 r.c r.t e), t := mv1 r.c r.t e } := rfl
theorem mv1_ge (c : Bool) (T : Int) (e : Ed) (h : e.1.1 ≤ T) : e.1.1 ≤ mv1 c T e := by
  have hn := len_nn e
  unfold mv1 dl
  repeat' split
  all_goals omega
theorem mv1_lt (c : Bool) (T : Int) (e : Ed) (h : T < e.1.1) : mv1 c T e = T := by
  unfold mv1
  rw [if_pos h]
theorem seq_mv (r : Mk) (hr : r.f ≤ r.t) (es : List Ed) (hs : Sep es) (hf : ∀ e ∈ es, e.1.1 ≤ e.1.2) :
    seqR es r = mv0 es r ∧ (mvR r.b es r.f ≤ mvR r.c es r.t ∨ ∃ x ∈ es, x.1.1 ≤ mvR r.c es r.t) := by
  induction es with
  | nil =>
    refine ⟨?_, .inl hr⟩
    show r = { r with f := min r.f r.t, t := r.t }
    rw [show min r.f r.t = r.f by omega]
  | cons e q ih =>
    obtain ⟨h1, h2⟩ := ih (List.pairwise_cons.1 hs).2 (fun x hx => hf x (by simp [hx]))
    have hsep := (List.pairwise_cons.1 hs).1
    have hfe := hf e (by simp)
    have hn := len_nn e
    have e1 : seqR (e :: q) r = one0 e (seqR q r) := rfl
    rw [e1, h1, one0_eq]
    show (({ r with f := min (mv1 r.b (min (mvR r.b q r.f) (mvR r.c q r.t)) e) (mv1 r.c (mvR r.c q r.t) e), t := mv1 r.c (mvR r.c q r.t) e } : Mk) = { r with f := min (mv1 r.b (mvR r.b q r.f) e) (mv1 r.c (mvR r.c q r.t) e), t := mv1 r.c (mvR r.c q r.t) e }) ∧ (mv1 r.b (mvR r.b q r.f) e ≤ mv1 r.c (mvR r.c q r.t) e ∨ ∃ x ∈ e :: q, x.1.1 ≤ mv1 r.c (mvR r.c q r.t) e)
    generalize mvR r.b q r.f = F at *
    generalize mvR r.c q r.t = T at *
    have key : min (mv1 r.b (min F T) e) (mv1 r.c T e) = min (mv1 r.b F e) (mv1 r.c T e) ∧ (mv1 r.b F e ≤ mv1 r.c T e ∨ ∃ x ∈ e :: q, x.1.1 ≤ mv1 r.c T e) := by
      by_cases hFT : F ≤ T
      · rw [show min F T = F by omega]
        refine ⟨rfl, ?_⟩
        by_cases hT : T < e.1.1
        · rw [mv1_lt _ _ _ hT, mv1_lt _ _ _ (by omega)]
          exact .inl hFT
        · exact .inr ⟨e, by simp, mv1_ge _ _ _ (by omega)⟩
      · obtain ⟨x, hx, hxT⟩ : ∃ x ∈ q, x.1.1 ≤ T := h2.resolve_left hFT
        have := hsep x hx
        rw [show min F T = T by omega, mv1_past r.b T e (by omega) hfe, mv1_past r.c T e (by omega) hfe, mv1_past r.b F e (by omega) hfe]
        refine ⟨by omega, .inr ⟨e, by simp, ?_⟩⟩
        unfold dl
        omega
    rw [key.1]
    exact ⟨rfl, key.2⟩
/-- One by one, from the last one to the first, over all records. -/
def seqL (es : List Ed) (L : List Mk) : List Mk := L.map (seqR es)
theorem seqL_nil (L : List Mk) : seqL [] L = L := by
  unfold seqL
  have : seqR [] = id := rfl
  rw [this, List.map_id]
theorem seqL_ids (es : List Ed) (L : List Mk) : (seqL es L).map (·.id) = L.map (·.id) := by
  unfold seqL
  rw [List.map_map]
  refine List.map_congr_left fun r _ => ?_
  show (seqR es r).id = r.id
  induction es with
  | nil => rfl
  | cons e q ih => show (one0 e (seqR q r)).id = _; rw [one0_eq]; exact ih
theorem seqR_p (es : List Ed) (r : Mk) : (seqR es r).p = r.p ∧ (seqR es r).id = r.id := by
  induction es with
  | nil => exact ⟨rfl, rfl⟩
  | cons e q ih => show (one0 e (seqR q r)).p = _ ∧ (one0 e (seqR q r)).id = _; rw [one0_eq]; exact ih
theorem seqL_step (es : List Ed) (L : List Mk) (hL : OkL L) (q : Nat) (hq : q < es.length) : mvAll (sortE [es[q]]) (seqL (es.drop (q + 1)) L) = seqL (es.drop q) L := by
  rw [sort_one, mvAll0]
  · unfold seqL
    rw [List.map_map]
    refine List.map_congr_left fun r _ => ?_
    rw [List.drop_eq_getElem_cons hq]
    rfl
  · intro r hr
    unfold seqL at hr
    obtain ⟨r', hr', rfl⟩ := List.mem_map.1 hr
    rw [(seqR_p _ r').1, (seqR_p _ r').2]
    have := okL_mem hL r' hr'
    exact ⟨this.1, this.2.1⟩
theorem seqL_all (es : List Ed) (L : List Mk) (hL : OkL L) (hs : Sep es) (hf : ∀ e ∈ es, e.1.1 ≤ e.1.2) : mvAll es L = seqL es L := by
  rw [mvAll0 es L (fun r hr => ⟨(okL_mem hL r hr).1, (okL_mem hL r hr).2.1⟩)]
  unfold seqL
  exact List.map_congr_left fun r hr => (seq_mv r (okL_mem hL r hr).2.2.2.1 es hs hf).1.symm
/-- What the second loop gathers. -/
structure Gth (A : Int) (l : List Ed) : Prop where
  chain : Chain A 0 l
  sep : Sep l
  below : ∀ e ∈ l, e.1.2 ≤ A
  size : ∀ e ∈ l, e.2.size ≤ 200
theorem gth_nil : Gth 0 [] := ⟨Int.le_refl _, .nil, by simp, by simp⟩
theorem gth_snoc {A x y : Int} {l : List Ed} {s : ByteArray} (h : Gth A l) (hx : A < x) (hxy : x ≤ y) (hs : s.size ≤ 200) : Gth y (l ++ [((x, y), s)]) where
  chain := by
    rw [chain_snoc]
    exact ⟨chain_up h.chain (show A ≤ x by omega), hxy, Int.le_refl _⟩
  sep := by
    refine List.pairwise_append.2 ⟨h.sep, List.pairwise_singleton _ _, fun e he f hf => ?_⟩
    rw [List.mem_singleton] at hf
    subst hf
    have := h.below e he
    show e.1.2 < x
    omega
  below := fun e he => by
    rcases List.mem_append.1 he with he | he
    · have := h.below e he; omega
    · rw [List.mem_singleton] at he; subst he; exact Int.le_refl _
  size := fun e he => by
    rcases List.mem_append.1 he with he | he
    · exact h.size e he
    · rw [List.mem_singleton] at he; subst he; exact hs
structure Gthd (l : List Ed) : Prop where
  sorted : sortE l = l
  good : ∀ e ∈ l, Good e
  may : mayN l = 0
  sep : Sep l
  at' : ∀ e ∈ l, 0 ≤ e.1.1 ∧ e.1.1 ≤ e.1.2 ∧ e.1.2 ≤ 120 ∧ e.2.size ≤ 200
theorem gthd {A : Int} {l : List Ed} (h : Gth A l) (hA : A ≤ 120) : Gthd l := by
  have hm := chain_mem h.chain
  exact {
    sorted := sortE_self l (sep_sorted h.sep (fun e he => (hm e he).2.1))
    good := fun e he => by have := hm e he; have := h.size e he; unfold Good; omega
    may := mayN_sep h.sep (fun e he => by have := hm e he; omega)
    sep := h.sep
    at' := fun e he => by have := hm e he; have := h.size e he; omega }
theorem seqR_bd (r : Mk) (hr : 0 ≤ r.f ∧ r.f ≤ r.t ∧ r.t ≤ 100) (es : List Ed) (h : ∀ e ∈ es, 0 ≤ e.1.1 ∧ e.1.1 ≤ e.1.2 ∧ e.1.2 ≤ 120 ∧ e.2.size ≤ 200) :
    (-(es.length * 1000 : Int) ≤ (seqR es r).f ∧ (seqR es r).f ≤ 200 + es.length * 1000) ∧ (-(es.length * 1000 : Int) ≤ (seqR es r).t ∧ (seqR es r).t ≤ 200 + es.length * 1000) := by
  induction es with
  | nil => show (_ ≤ r.f ∧ r.f ≤ _) ∧ (_ ≤ r.t ∧ r.t ≤ _); simp; omega
  | cons e q ih =>
    have h1 := h e (by simp)
    have h2 := ih (fun x hx => h x (by simp [hx]))
    show (_ ≤ (one0 e (seqR q r)).f ∧ (one0 e (seqR q r)).f ≤ _) ∧ (_ ≤ (one0 e (seqR q r)).t ∧ (one0 e (seqR q r)).t ≤ _)
    rw [one0_eq]
    generalize seqR q r = p at *
    simp only [List.length_cons]
    have hb : ∀ (c : Bool) (x : Int), x - 1000 ≤ mv1 c x e ∧ mv1 c x e ≤ max x 120 + 1000 := fun c x => by
      unfold mv1 dl EdM.len
      repeat' split
      all_goals omega
    have k1 := hb p.b p.f
    have k2 := hb p.c p.t
    generalize mv1 p.b p.f e = m1 at *
    generalize mv1 p.c p.t e = m2 at *
    omega
theorem seqL_hp (es : List Ed) (L : List Mk) (hL : OkL L) (hl : es.length ≤ 20) (h : ∀ e ∈ es, 0 ≤ e.1.1 ∧ e.1.1 ≤ e.1.2 ∧ e.1.2 ≤ 120 ∧ e.2.size ≤ 200) :
    ∀ r ∈ seqL es L, r.p ≠ r.id ∧ (-1099511627776 ≤ r.f ∧ r.f ≤ 1099511627776) ∧ (-1099511627776 ≤ r.t ∧ r.t ≤ 1099511627776) := by
  intro r hr
  unfold seqL at hr
  obtain ⟨r', hr', rfl⟩ := List.mem_map.1 hr
  obtain ⟨o1, o2, o3⟩ := okL_mem hL r' hr'
  have := seqR_bd r' o3 es h
  rw [(seqR_p es r').1, (seqR_p es r').2]
  omega
theorem got_same {L : List Mk} {x : Int} {r r' : Value} {ok ok' : Bool} (hR : RiseM L) (h : GotM L x r ok) (h' : GotM L x r' ok') (hx : ∃ q ∈ L, q.id = x) : ∃ q, r = vR q ∧ r' = vR q ∧ ok = true ∧ ok' = true := by
  obtain ⟨q, hq, hqx⟩ := hx
  rcases h with ⟨h1, i, hi, hid, hv⟩ | ⟨_, _, hno⟩
  · rcases h' with ⟨h1', i', hi', hid', hv'⟩ | ⟨_, _, hno⟩
    · have : i = i' := by
        rcases Nat.lt_trichotomy i i' with h | h | h
        · have := rise_at hR i i' h hi'; omega
        · exact h
        · have := rise_at hR i' i h hi; omega
      subst this
      exact ⟨L[i], hv, hv', h1, h1'⟩
    · exact absurd hqx (hno q hq)
  · exact absurd hqx (hno q hq)
theorem Tab.kept {w w' : World} {base tb : Nat} {last : Int} {v : Value} {l : List Mk} {row : Option Nat} (h : Tab w base tb last v l) (hg : w.grownBy w' row) (h1 : row ≠ some tb) (h2 : v.ownBlock = none ∨ v.ownBlock ≠ row) : Tab w' base tb last v l :=
  ⟨h.low, (heap_kept hg h.at0 h1), h.own.kept hg h2, h.off⟩
/-- Two tables apart: one is changed in its row alone. -/
theorem Tab.apart {w w' w0 : World} {base tb tb2 B : Nat} {last last2 : Int} {v v2 : Value} {l l2 : List Mk} (h : Tab w B tb2 last2 v2 l2) (h0 : Tab w0 base tb last v l) (hB : w0.heap.size ≤ B) (hg : w.grownBy w' v.ownBlock) : Tab w' B tb2 last2 v2 l2 := by
  have hlt : ∀ k, v.ownBlock = some k → k < w0.heap.size := fun k hk => (h0.own.lt k hk).2
  refine h.kept hg (fun e => by have := hlt _ e; have := h.low; omega) ?_
  cases hv : v2.ownBlock with
  | none => exact .inl rfl
  | some k =>
    refine .inr fun e => ?_
    have := hlt k e.symm
    have := (h.own.lt k hv).1
    omega
theorem Tab.apart' {w w' w0 : World} {base tb tb2 B : Nat} {last last2 : Int} {v v2 : Value} {l l2 : List Mk} (h : Tab w base tb last v l) (h0 : Tab w0 base tb last v l2) (hB : w0.heap.size ≤ B) {l3 : List Mk} (h2 : Tab w B tb2 last2 v2 l3) (hg : w.grownBy w' v2.ownBlock) : Tab w' base tb last v l := by
  have hlt : ∀ k, v2.ownBlock = some k → B ≤ k := fun k hk => (h2.own.lt k hk).1
  refine h.kept hg (fun e => by have := hlt _ e; have := h0.lt; omega) ?_
  cases hv : v.ownBlock with
  | none => exact .inl rfl
  | some k =>
    refine .inr fun e => ?_
    have := hlt k e.symm
    have := (h0.own.lt k hv).2
    omega
theorem own_far {w w' : World} {C n : Nat} {e : TypeId} {sz : Nat} {v : Value} {xs : List Value} {row : Option Nat} (h : w.ownsRow C e sz v n xs) (hr : ∀ k, row = some k → k < C) (hg : w.grownBy w' row) : w'.ownsRow C e sz v n xs := by
  refine h.kept hg ?_
  cases hv : v.ownBlock with
  | none => exact .inl rfl
  | some k =>
    refine .inr fun e => ?_
    have := hr k e.symm
    have := (h.lt k hv).1
    omega
theorem below_gr {B : Nat} {a w w' : World} {row : Option Nat} (h : Below B a w) (hB : B ≤ a.heap.size) (hg : w.grownBy w' row) (hr : ∀ k, row = some k → B ≤ k) : Below B a w' := h.grown hg (Nat.le_trans hB h.size) hr
theorem bools_below {w w' : World} {a : Option Addr} {n cap : Nat} {z : List Bool} (h : IsBools w a n cap z) (hb : Below w.heap.size w w') : IsBools w' a n cap z := by
  rcases h with h | ⟨x, h1, h2, h3, h4, h5⟩
  · exact .inl h
  · exact .inr ⟨x, h1, h2, h3, h4, fun i hi => cell_later hb (h5 i hi)⟩
theorem ints_below {K : IntKind} {w w' : World} {a : Option Addr} {n cap : Nat} {z : List Int} (h : IsInts K w a n cap z) (hb : Below w.heap.size w w') : IsInts K w' a n cap z := by
  rcases h with h | ⟨x, h1, h2, h3, h4, h5, h6⟩
  · exact .inl h
  · exact .inr ⟨x, h1, h2, h3, h4, fun i hi => cell_later hb (h5 i hi), h6⟩
end Go.Proofs.Ytjmoeahlbgdkbaa
