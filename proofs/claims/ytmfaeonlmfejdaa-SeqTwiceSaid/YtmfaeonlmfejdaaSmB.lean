/- Plain facts of what is made of halves; halves of a row of trees. No condition. -/
import Derived.Test.YtmfaeonlmfejdaaSmA
import Derived.Test.YtmfaeonlmfejdaaLow
import Derived.Test.YtmfaeonlmfejdaaApp
namespace Go.Proofs.Ytmfaeonlmfejdaa
open Go.ChangeShapes Go.WideShapes Go.ChangeAt Go.RowKit
open SetM
attribute [local go_sem ↓] Go.wp_at_zero Go.wp_at_succ
set_option maxRecDepth 100000
set_option linter.unusedVariables false
theorem dL_flK {k : Int} (hk : k = 0 ∨ k = 1) (l : List Rt) : dL (flK k l) = dL l ∧ gL (flK k l) = gL l := by
  induction l with
  | nil => exact ⟨rfl, rfl⟩
  | cons a r ih =>
    unfold flK at ih ⊢
    rw [List.flatMap_cons, dL_app, gL_app, ih.1, ih.2]
    have e1 : dL (a :: r) = max (dM a) (dL r) := rfl
    have e2 : gL (a :: r) = gM a + gL r := rfl
    rw [e1, e2]
    split
    · rename_i h
      have h1 : dL (a.kids.map er) = dL a.kids := by rw [← erL_map]; exact dL_er _
      have h2 : gL (a.kids.map er) = gL a.kids := by rw [← erL_map]; exact gL_er _
      rw [h1, h2, dM_eq, gM_eq, if_neg (by omega), if_neg (by omega)]
      exact ⟨by omega, by omega⟩
    · have h1 : dL [er a] = max (dM (er a)) 0 := rfl
      have h2 : gL [er a] = gM (er a) + 0 := rfl
      rw [h1, h2, dM_er, gM_er]
      exact ⟨by omega, by omega⟩
theorem dM_kd {k : Int} (l : List Rt) : dM (kdX k l) = dL l + (if k = 5 ∨ k = 6 then 1 else 0) := by rw [dM_eq]; rfl
theorem gM_kd {k : Int} (l : List Rt) : gM (kdX k l) = (if k = 5 then 1 else 0) + gL l := by rw [gM_eq]; rfl
theorem dM_seqX (l : List Rt) : dM (seqX l) = dL l ∧ gM (seqX l) = gL l := by
  unfold seqX
  split
  · rename_i hl
    match l, hl with
    | [a], _ => exact ⟨by show dM a = max (dM a) 0; omega, by show gM a = gM a + 0; omega⟩
  · rw [dM_kd, gM_kd]; exact ⟨by simp, by simp⟩
theorem dM_altX (l : List Rt) : dM (altX l) = dL l ∧ gM (altX l) = gL l := by
  unfold altX
  split
  · rename_i hl
    rw [List.eq_nil_of_length_eq_zero hl, dM_kd, gM_kd]; exact ⟨by simp, by simp⟩
  split
  · rename_i hl
    match l, hl with
    | [a], _ => exact ⟨by show dM a = max (dM a) 0; omega, by show gM a = gM a + 0; omega⟩
  · rw [dM_kd, gM_kd]; exact ⟨by simp, by simp⟩
theorem rx_vv {w : World} {t : Rt} (h : RxAt w t) : ∃ rA rc kA kc, t.rv = .slice rA t.rows.length rc ∧ t.kv = .slice kA t.kids.length kc ∧ t.v = .agg #[.int .i64 t.k, .string t.ch, .bool t.nt, .slice rA t.rows.length rc, .int .i64 t.mi, .int .i64 t.ma, .bool t.lz, .slice kA t.kids.length kc] := by
  obtain ⟨A, c, hkv⟩ := ksat_len h.ks
  obtain ⟨RA, rc, hrv⟩ := rwat_len h.rows
  exact ⟨RA, rc, A, c, hrv, hkv, by unfold Rt.v Rt.cs; rw [hkv, hrv]⟩
theorem ks_two {w W : World} {x y : Rt} {arr : Array Value} (ha : arr.toList = x.cs ++ y.cs) (hx : RxAt w x) (hy : RxAt w y) (hb : Below (w.alloc (.cells arr 25)).heap.size (w.alloc (.cells arr 25)) W) : KsAt W (.slice (some ⟨w.heap.size, 0, none⟩) 2 2) [x, y] ∧ ∀ i (hi : i < [x, y].length), RxAt W [x, y][i] := by
  have hb2 := bl_trans (bl_alloc (bl_refl w) (.cells arr 25)) hb
  refine ⟨.inr ⟨⟨w.heap.size, 0, none⟩, 2, rfl, Nat.le_refl _, by decide, fun i hi j u hu => ?_⟩, fun i hi => ?_⟩
  · refine cell_later hb ?_
    rw [addr_add]
    have hz : (0 : Nat) + (i * 8 + j) = i * 8 + j := Nat.zero_add _
    show (w.alloc (.cells arr 25)).cell? ⟨w.heap.size, 0 + (i * 8 + j), none⟩ = some u
    rw [hz]
    have := cells_lit w arr 25 (i * 8 + j) u (by
      rw [ha]
      have := flatX_at [x, y] i hi j u hu
      simpa [flatX] using this)
    rw [addr_add, Nat.zero_add] at this
    exact this
  · match i, hi with
    | 0, _ => exact rx_below hx hb2
    | 1, _ => exact rx_below hy hb2
theorem flK_cons (k : Int) (a : Rt) (l : List Rt) : flK k (a :: l) = flK k [a] ++ flK k l := by
  unfold flK; simp
theorem flK_one {k : Int} {a b : Rt} (h : er a = er b) : flK k [a] = flK k [b] := by
  have h1 := flK_er k [a]
  have h2 := flK_er k [b]
  rw [← h1, ← h2, List.map_cons, List.map_cons, h]
theorem flK_split (k : Int) (l : List Rt) (n : Nat) : flK k (l.take n) ++ flK k (l.drop n) = flK k l := by
  unfold flK
  rw [← List.flatMap_append, List.take_append_drop]
theorem flK_seqX {M : List Rt} (h : ∀ x ∈ M, x.k ≠ 0) (he : M.map er = M) : flK 0 [seqX M] = M := by
  unfold seqX
  split
  · rename_i hl
    match M, hl with
    | [a], _ =>
      have h1 : er a = a := by have := congrArg List.head? he; simpa using this
      show flK 0 [a] = [a]
      unfold flK
      rw [List.flatMap_cons, List.flatMap_nil, if_neg (h a (by simp)), h1]; rfl
  · unfold flK
    rw [List.flatMap_cons, List.flatMap_nil, if_pos (show (kdX 0 M).k = 0 from rfl), List.append_nil]
    exact he
theorem flK_altX {M : List Rt} (h0 : M ≠ []) (h : ∀ x ∈ M, x.k ≠ 1) (he : M.map er = M) : flK 1 [altX M] = M := by
  unfold altX
  rw [if_neg (by simpa using h0)]
  split
  · rename_i hl
    match M, hl with
    | [a], _ =>
      have h1 : er a = a := by have := congrArg List.head? he; simpa using this
      show flK 1 [a] = [a]
      unfold flK
      rw [List.flatMap_cons, List.flatMap_nil, if_neg (h a (by simp)), h1]; rfl
  · unfold flK
    rw [List.flatMap_cons, List.flatMap_nil, if_pos (show (kdX 1 M).k = 1 from rfl), List.append_nil]
    exact he
theorem seq_halves {L : List Rt} (h : ∀ x ∈ L, okM x = true ∧ dM x ≤ 16) (n : Nat) {t u : Rt} (ht : er t = seqX (flK 0 (L.take n))) (hu : er u = seqX (flK 0 (L.drop n))) : seqX (flK 0 [t, u]) = seqX (flK 0 L) := by
  have g1 := flK_good 0 (.inl rfl) (L.take n) (fun x hx => h x (List.mem_of_mem_take hx))
  have g2 := flK_good 0 (.inl rfl) (L.drop n) (fun x hx => h x (List.mem_of_mem_drop hx))
  rw [flK_cons, flK_one (a := t) (b := seqX (flK 0 (L.take n))) (by rw [← ht, er_er]), flK_one (a := u) (b := seqX (flK 0 (L.drop n))) (by rw [← hu, er_er]), flK_seqX (fun x hx => (g1 x hx).2.2.1) (flK_ers 0 _), flK_seqX (fun x hx => (g2 x hx).2.2.1) (flK_ers 0 _), flK_split]
theorem flK1_ne {L : List Rt} (h : ∀ x ∈ L, okM x = true ∧ dM x ≤ 16) (h0 : L ≠ []) : flK 1 L ≠ [] := by
  match L, h0 with
  | a :: r, _ =>
    rw [flK_cons]
    intro e
    have e1 := (List.append_eq_nil_iff.1 e).1
    unfold flK at e1
    rw [List.flatMap_cons, List.flatMap_nil, List.append_nil] at e1
    split at e1
    · rename_i hk
      have hm := (okM_part (h a (by simp)).1).1
      unfold mkB at hm
      rw [hk, if_neg (by decide), if_pos rfl] at hm
      simp only [Bool.and_eq_true, decide_eq_true_eq] at hm
      have := congrArg List.length e1
      rw [List.length_map] at this
      simp at this
      rw [this] at hm
      simp at hm
    · cases e1
theorem alt_halves {L : List Rt} (h : ∀ x ∈ L, okM x = true ∧ dM x ≤ 16) (n : Nat) (h1 : 0 < n) (h2 : n < L.length) {t u : Rt} (ht : er t = altX (flK 1 (L.take n))) (hu : er u = altX (flK 1 (L.drop n))) : altX (flK 1 [t, u]) = altX (flK 1 L) := by
  have q1 : ∀ x ∈ L.take n, okM x = true ∧ dM x ≤ 16 := fun x hx => h x (List.mem_of_mem_take hx)
  have q2 : ∀ x ∈ L.drop n, okM x = true ∧ dM x ≤ 16 := fun x hx => h x (List.mem_of_mem_drop hx)
  have g1 := flK_good 1 (.inr rfl) (L.take n) q1
  have g2 := flK_good 1 (.inr rfl) (L.drop n) q2
  have n1 : L.take n ≠ [] := by
    intro e
    have : (L.take n).length = 0 := by rw [e]; rfl
    rw [List.length_take] at this
    omega
  have n2 : L.drop n ≠ [] := by
    intro e
    have : (L.drop n).length = 0 := by rw [e]; rfl
    rw [List.length_drop] at this
    omega
  rw [flK_cons, flK_one (a := t) (b := altX (flK 1 (L.take n))) (by rw [← ht, er_er]), flK_one (a := u) (b := altX (flK 1 (L.drop n))) (by rw [← hu, er_er]), flK_altX (flK1_ne q1 n1) (fun x hx => (g1 x hx).2.2.1) (flK_ers 1 _), flK_altX (flK1_ne q2 n2) (fun x hx => (g2 x hx).2.2.1) (flK_ers 1 _), flK_split]
theorem ks_take {w : World} {A : Option Addr} {c : Nat} {l : List Rt} (h : KsAt w (.slice A l.length c) l) (k : Nat) (hk : k ≤ l.length) : KsAt w (.slice A k c) (l.take k) := by
  rcases h with ⟨hv, rfl⟩ | ⟨x, c', hv, h1, h2, h3⟩
  · injection hv with hv1 _ hv3
    subst hv1 hv3
    have : k = 0 := by simpa using hk
    subst this
    exact .inl ⟨rfl, rfl⟩
  · injection hv with hv1 _ hv3
    subst hv1 hv3
    have hl : (l.take k).length = k := by rw [List.length_take]; omega
    refine .inr ⟨x, c, by rw [hl], by omega, h2, fun i hi j u hu => ?_⟩
    rw [List.getElem_take] at hu
    exact h3 i (by omega) j u hu
theorem ks_drop {w : World} {A : Option Addr} {c : Nat} {l : List Rt} (h : KsAt w (.slice A l.length c) l) (k : Nat) (hk : k ≤ l.length) : KsAt w (.slice (if c = k then A else A.map (·.add (k * 8))) (l.length - k) (c - k)) (l.drop k) := by
  rcases h with ⟨hv, rfl⟩ | ⟨x, c', hv, h1, h2, h3⟩
  · injection hv with hv1 _ hv3
    subst hv1 hv3
    have : k = 0 := by simpa using hk
    subst this
    exact .inl ⟨rfl, rfl⟩
  · injection hv with hv1 _ hv3
    subst hv1 hv3
    have hl : (l.drop k).length = l.length - k := by rw [List.length_drop]
    by_cases hc : c = k
    · rw [if_pos hc]
      exact .inr ⟨x, c - k, by rw [hl], by omega, by omega, fun i hi => by omega⟩
    · rw [if_neg hc]
      refine .inr ⟨x.add (k * 8), c - k, by rw [hl]; rfl, by omega, by omega, fun i hi j u hu => ?_⟩
      rw [List.getElem_drop] at hu
      have := h3 (k + i) (by omega) j u hu
      obtain ⟨b, o, sp⟩ := x
      have h0 := h3 0 (by omega) 0 _ rfl
      have hs : sp = none := by simpa [Addr.add] using World.cell?_spot h0
      subst hs
      rw [addr_add, addr_add]
      rw [addr_add] at this
      rw [show o + k * 8 + (i * 8 + j) = o + ((k + i) * 8 + j) by omega]
      exact this
theorem sL_drop (l : List Rt) (k : Nat) : sL (l.drop k) ≤ sL l := by
  have h : sL l = sL (l.take k) + sL (l.drop k) := by rw [← sL_app, List.take_append_drop]
  omega
theorem tree_lit2 {t u : Rt} {a1 : Option Addr} {b1 : Nat} {a2 : Option Addr} {b2 : Nat} {a3 : Option Addr} {b3 : Nat} {a4 : Option Addr} {b4 : Nat} (h1 : t.rv = .slice a1 t.rows.length b1) (h2 : t.kv = .slice a2 t.kids.length b2) (h3 : u.rv = .slice a3 u.rows.length b3) (h4 : u.kv = .slice a4 u.kids.length b4) :
    [.int .i64 t.k, .string t.ch, .bool t.nt, .slice a1 t.rows.length b1, .int .i64 t.mi, .int .i64 t.ma, .bool t.lz, .slice a2 t.kids.length b2, .int .i64 u.k, .string u.ch, .bool u.nt, .slice a3 u.rows.length b3, .int .i64 u.mi, .int .i64 u.ma, .bool u.lz, .slice a4 u.kids.length b4] = t.cs ++ u.cs := by
  unfold Rt.cs; rw [h1, h2, h3, h4]; rfl
end Go.Proofs.Ytmfaeonlmfejdaa
