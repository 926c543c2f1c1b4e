/- A rope's pieces, with their depths. Condition: a text that is not too long. Contracts of layer 3's laws: are pieces a tree by their depths and priorities; are they the text. Condition: a text that is not too long. Ropes and dice beside one another, since a law's first world. The laws' way with ropes: a dice of literal numbers, a rope of one part, a twin. Ropes at the laws: what is refused; pieces compared. Ropes at the laws: dice and ropes of what comes in; a stretch's code. A tree of pieces: count: the counts of the text ahead of an offset. Condition: a text that is not too long. A rope's Count. Condition: a text that is not too long. Ropes at the laws: each deed at any places, in range or not. A tree of pieces: upto. Condition: a text that is not too long; a way from 0 to 3, a count that is not below 0. A rope's Upto. Condition: a text that is not too long. -/
import Derived.Test.YtjcmbnmejkhcjaaGreatRopI
import Derived.Deep.AppendLies
import Derived.Test.YtjcmbnmejkhcjaaGreatLow
import Derived.LaidEqlPtr
import Derived.Test.YtjcmbnmejkhcjaaGreatArgs
import Derived.Test.YtjcmbnmejkhcjaaGreatTreeC
import Derived.Test.YtjcmbnmejkhcjaaGreatTreeL
namespace Go.Proofs.YtjcmbnmejkhcjaaGreat
section
open Go.ChangeShapes Go.WideShapes Go.ChangeAt Go.RowKit
attribute [local go_sem ↓] Go.wp_at_zero Go.wp_at_succ
set_option maxRecDepth 100000
/-- A piece as it is told: its text, its priority, how deep it hangs. -/
abbrev Pd := ByteArray × Int × Int
def encP (q : Pd) : List Value := [.string q.1, .int .u32 q.2.1, .int .i64 q.2.2]
def flatP (l : List Pd) : List Value := l.flatMap encP
theorem flatP_app (l m : List Pd) : flatP (l ++ m) = flatP l ++ flatP m := by simp [flatP]
theorem flatP_one (q : Pd) : flatP [q] = encP q := by simp [flatP]
theorem flatP_len (l : List Pd) : (flatP l).length = l.length * 3 := by
  induction l with
  | nil => rfl
  | cons a r ih =>
    rw [show flatP (a :: r) = encP a ++ flatP r from rfl, List.length_append, ih]
    simp [encP]; omega
def T.pd : T → Int → List Pd
  | .nil, _ => []
  | .node l _ x p r, k => l.pd (k + 1) ++ (x, p, k) :: r.pd (k + 1)
theorem T.pd_len (t : T) : ∀ k, (t.pd k).length = t.ps.length := by
  induction t with
  | nil => intro k; rfl
  | node l n x p r ihl ihr => intro k; simp [T.pd, T.ps, ihl, ihr]
end
section
open Go.ChangeShapes Go.WideShapes Go.ChangeAt Go.RowKit
attribute [local go_sem ↓] Go.wp_at_zero Go.wp_at_succ
set_option maxRecDepth 100000
theorem pd_ge (t : T) : ∀ k, ∀ q ∈ t.pd k, k ≤ q.2.2 := by
  induction t with
  | nil => intro k q hq; simp [T.pd] at hq
  | node l n x p r ihl ihr =>
    intro k q hq
    rw [T.pd] at hq
    rcases List.mem_append.1 hq with hq | hq
    · have := ihl (k + 1) q hq; omega
    · rcases List.mem_cons.1 hq with rfl | hq
      · exact Int.le_refl _
      · have := ihr (k + 1) q hq; omega
theorem seg_mem {A P Z : List Pd} (i : Nat) (h1 : A.length ≤ i) (h2 : i < A.length + P.length) (h : i < (A ++ (P ++ Z)).length) : (A ++ (P ++ Z))[i] ∈ P := by
  rw [List.getElem_append_right h1, List.getElem_append_left (by omega)]
  exact List.getElem_mem _
theorem seg_at {A Z : List Pd} (q : Pd) (h : A.length < (A ++ q :: Z).length) : (A ++ q :: Z)[A.length] = q := by
  rw [List.getElem_append_right (Nat.le_refl _)]
  simp
theorem flatP_get (l : List Pd) (i k : Nat) (h : i < l.length) (hk : k < 3) : (flatP l)[i * 3 + k]? = (encP l[i])[k]? := by
  induction l generalizing i with
  | nil => simp at h
  | cons a r ih =>
    have he : (encP a).length = 3 := rfl
    rw [show flatP (a :: r) = encP a ++ flatP r from rfl]
    cases i with
    | zero => rw [List.getElem?_append_left (by omega), Nat.zero_mul, Nat.zero_add]; rfl
    | succ i =>
      rw [List.getElem?_append_right (by omega), he, show (i + 1) * 3 + k - 3 = i * 3 + k by omega]
      exact ih i (by simpa using h)
/-- A slice that reads as these pieces. -/
def PdAt (w : World) (a : Option Addr) (c : Nat) (l : List Pd) : Prop :=
  l = [] ∨ ∃ g, a = some ⟨g, 0, none⟩ ∧ g < w.heap.size ∧ l.length ≤ c ∧ c ≤ maxLen ∧ ∀ i (h : i < l.length), w.cell? ⟨g, i * 3, none⟩ = some (.string l[i].1) ∧ w.cell? ⟨g, i * 3 + 1, none⟩ = some (.int .u32 l[i].2.1) ∧ w.cell? ⟨g, i * 3 + 2, none⟩ = some (.int .i64 l[i].2.2)
theorem pdat_bl {w w' : World} {a : Option Addr} {c : Nat} {l : List Pd} (h : PdAt w a c l) (hb : Below w.heap.size w w') : PdAt w' a c l := by
  rcases h with h | ⟨g, h1, h2, h3, h4, h5⟩
  · exact .inl h
  · exact .inr ⟨g, h1, Nat.lt_of_lt_of_le h2 hb.size, h3, h4, fun i hi => ⟨cell_later hb (h5 i hi).1, cell_later hb (h5 i hi).2.1, cell_later hb (h5 i hi).2.2⟩⟩
def UnderRel (lo m0 hi : Nat) (w : World) (root i : Value) (wr : World) : Prop := ∃ j : Nat, i = .int .i64 j ∧ lo ≤ j ∧ j ≤ hi ∧ ((j ≤ m0 ∧ root = .int .i64 (-1)) ∨ (m0 < j ∧ root = .int .i64 m0)) ∧ w = wr
theorem pd_ps (t : T) : ∀ k, (t.pd k).map (·.1) = t.ps.map (·.2.1) := by
  induction t with
  | nil => intro k; rfl
  | node l n x p r ihl ihr => intro k; simp [T.pd, T.ps, ihl, ihr]
theorem adj_at {l : List Pc} (h : Adj l) (i : Nat) (hi : i + 1 < l.length) : 64 < l[i].2.1.size + l[i + 1].2.1.size := by
  induction l generalizing i with
  | nil => simp at hi
  | cons a r ih =>
    cases r with
    | nil => simp at hi
    | cons b q =>
      cases i with
      | zero => exact h.1
      | succ i => exact ih h.2 i (by simpa using hi)
theorem top_all {t : T} (h : ∀ q ∈ t.ps, PcOk q) : t.top 4294967295 := by
  cases t with
  | nil => trivial
  | node l n x p r =>
    have h1 := (h (n, x, p) (by simp [T.ps])).2.2
    simp only at h1
    show p ≤ 4294967295
    omega
theorem txP_take (l : List Pc) (k : Nat) (h : k < l.length) : txP (l.take (k + 1)) = txP (l.take k) ++ l[k].2.1.data.toList := by
  rw [List.take_succ_eq_append_getElem h, txP_app, txP_cons, txP_nil, List.append_nil]
theorem txP_le (l : List Pc) (k : Nat) : (txP (l.take k)).length ≤ (txP l).length := by
  conv => rhs; rw [← List.take_append_drop k l, txP_app, List.length_append]
  omega
def WholeRel (t : T) (w : World) (s i : Value) (wr : World) : Prop := ∃ (k : Nat) (sv : ByteArray), i = .int .i64 k ∧ s = .string sv ∧ Hid (sv.data.toList = txP (t.ps.take k)) ∧ k ≤ t.ps.length ∧ sv.size ≤ 1000000 ∧ w = wr
end
section
open Go.ChangeShapes Go.WideShapes Go.ChangeAt Go.RowKit
attribute [local go_sem ↓] Go.wp_at_zero Go.wp_at_succ
set_option maxRecDepth 100000
abbrev Rp := Nat × Nat × T
def trs (rs : List Rp) : List T := rs.map (·.2.2)
def RR (D : List (Nat × Nat)) (rs : List Rp) : List Nat := D.map (·.1) ++ (D.map (·.2) ++ rs.map (·.1))
theorem rr_d {D : List (Nat × Nat)} {rs : List Rp} {p : Nat × Nat} (h : p ∈ D) : p.1 ∈ RR D rs := List.mem_append_left _ (List.mem_map_of_mem h)
theorem rr_g {D : List (Nat × Nat)} {rs : List Rp} {p : Nat × Nat} (h : p ∈ D) : p.2 ∈ RR D rs := List.mem_append_right _ (List.mem_append_left _ (List.mem_map_of_mem h))
theorem rr_r {D : List (Nat × Nat)} {rs : List Rp} {q : Rp} (h : q ∈ rs) : q.1 ∈ RR D rs := List.mem_append_right _ (List.mem_append_right _ (List.mem_map_of_mem h))
theorem rr_mem {D : List (Nat × Nat)} {rs : List Rp} {k : Nat} : k ∈ RR D rs ↔ (∃ p ∈ D, p.1 = k) ∨ (∃ p ∈ D, p.2 = k) ∨ ∃ q ∈ rs, q.1 = k := by
  unfold RR
  simp only [List.mem_append, List.mem_map]
/-- Ropes of their own since world w0, the dice that they draw from. -/
structure Rst (w0 w : World) (D : List (Nat × Nat)) (rs : List Rp) : Prop where
  bel : Below w0.heap.size w0 w
  dc : ∀ p ∈ D, ∃ rest last, DiceAt w p.1 p.2 rest last
  rp : ∀ q ∈ rs, RpC w q.1 q.2.1 q.2.2
  rsv : ∀ k ∈ RR D rs, w0.heap.size ≤ k ∧ k < w.heap.size
  nd : (rs.map (·.1)).Nodup
  rd : ∀ q ∈ rs, ∀ p ∈ D, q.1 ≠ p.1 ∧ q.1 ≠ p.2
  dd : D.Pairwise fun p q => p.1 ≠ q.1 ∧ p.1 ≠ q.2 ∧ p.2 ≠ q.1
  own : ∀ t ∈ trs rs, t.At w ∧ Fit t
  tn : (bks (trs rs)).Nodup
  off : ∀ k ∈ bks (trs rs), k ∉ RR D rs
  src : ∀ k ∈ bks (trs rs), w0.heap.size ≤ k
theorem rst_start (w : World) : Rst w w [] [] := ⟨bl_refl w, by simp, by simp, by simp [RR], by simp, by simp, by simp, by simp [trs], by simp [trs, bks], by simp [trs, bks], by simp [trs, bks]⟩
theorem chg_below {w0 w : World} {d : Nat} (h : Chg w0 w [d]) (hd : w0.heap.size ≤ d) : Below w0.heap.size w0 w :=
  ⟨h.os, h.tape, h.output, h.size, fun k hk => h.block k (Nat.lt_of_lt_of_le hk (Nat.le_refl _)) (by rw [List.mem_singleton]; omega)⟩
theorem below_chg {w0 w : World} {d : Nat} (h : Below w0.heap.size w0 w) : Chg w0 w [d] :=
  ⟨h.os, h.tape, h.output, h.size, fun k hk _ => h.block k hk⟩
theorem dd_ne {D : List (Nat × Nat)} (h : D.Pairwise fun p q => p.1 ≠ q.1 ∧ p.1 ≠ q.2 ∧ p.2 ≠ q.1) {p q : Nat × Nat} (hp : p ∈ D) (hq : q ∈ D) (hn : p ≠ q) : p.1 ≠ q.1 ∧ q.2 ≠ p.1 := by
  have hs : ∀ {a b : Nat × Nat}, a ∈ D → b ∈ D → a ≠ b → (a.1 ≠ b.1 ∧ a.1 ≠ b.2 ∧ a.2 ≠ b.1) ∨ (b.1 ≠ a.1 ∧ b.1 ≠ a.2 ∧ b.2 ≠ a.1) := by
    clear hp hq hn
    intro a b ha hb hab
    induction D with
    | nil => cases ha
    | cons c l ih =>
      obtain ⟨h1, h2⟩ := List.pairwise_cons.1 h
      rcases List.mem_cons.1 ha with rfl | ha2
      · rcases List.mem_cons.1 hb with rfl | hb2
        · exact absurd rfl hab
        · exact .inl (h1 b hb2)
      · rcases List.mem_cons.1 hb with rfl | hb2
        · exact .inr (h1 a ha2)
        · exact ih h2 ha2 hb2
  rcases hs hp hq hn with x | x
  · exact ⟨x.1, Ne.symm x.2.1⟩
  · exact ⟨Ne.symm x.1, x.2.2⟩
theorem Rst.live {w0 w : World} {D : List (Nat × Nat)} {rs : List Rp} (h : Rst w0 w D rs) {d g : Nat} (hd : (d, g) ∈ D) : Live w0 [] (RR D rs) d g w (trs rs) :=
  ⟨h.dc _ hd, rr_d hd, rr_g hd, fun k hk => (h.rsv k hk).2, h.own, h.tn, h.off, fun k hk => .inr (h.src k hk), below_chg h.bel⟩
theorem Rst.rpIn {w0 w : World} {D : List (Nat × Nat)} {rs : List Rp} (h : Rst w0 w D rs) {d g : Nat} (hd : (d, g) ∈ D) {q : Rp} (hq : q ∈ rs) : RpIn w0 [] (RR D rs) d g q.1 :=
  ⟨rr_r hq, (h.rd q hq _ hd).1, (h.rd q hq _ hd).2, .inr (h.rsv _ (rr_r hq)).1⟩
/-- What a deed leaves: the ropes as the list now says; what is reserved and not of it as before. -/
theorem Rst.back {w0 w w' : World} {D : List (Nat × Nat)} {rs us : List Rp} (h : Rst w0 w D rs) {d g : Nat} (hd : (d, g) ∈ D) (hl : Live w0 [] (RR D us) d g w' (trs us))
    (hr : ∀ q ∈ us, RpC w' q.1 q.2.1 q.2.2) (hn : (us.map (·.1)).Nodup) (hrd : ∀ q ∈ us, ∀ p ∈ D, q.1 ≠ p.1 ∧ q.1 ≠ p.2) (hs : ∀ q ∈ us, w0.heap.size ≤ q.1)
    (hk : ∀ p ∈ D, p.1 ≠ d → p.2 ≠ d → w'.heap[p.1]? = w.heap[p.1]? ∧ w'.heap[p.2]? = w.heap[p.2]?) : Rst w0 w' D us := by
  have hdw := (h.rsv d (rr_d hd)).1
  refine ⟨chg_below hl.chg hdw, fun p hp => ?_, hr, fun k hk => ⟨?_, hl.hR k hk⟩, hn, hrd, h.dd, hl.own, hl.nd, hl.off, fun k hk => (hl.src k hk).resolve_left (by simp)⟩
  · by_cases hpd : p = (d, g)
    · subst hpd; exact hl.dice
    · obtain ⟨n1, n2⟩ := dd_ne h.dd hd hp (Ne.symm hpd)
      obtain ⟨rest, last, hx⟩ := h.dc p hp
      obtain ⟨k1, k2⟩ := hk p hp (Ne.symm n1) n2
      exact ⟨rest, last, hx.kept k1 k2⟩
  · rcases rr_mem.1 hk with ⟨p, hp, rfl⟩ | ⟨p, hp, rfl⟩ | ⟨q, hq, rfl⟩
    · exact (h.rsv _ (rr_d hp)).1
    · exact (h.rsv _ (rr_g hp)).1
    · exact hs q hq
theorem Rst.bl {w0 w w' : World} {D : List (Nat × Nat)} {rs : List Rp} (h : Rst w0 w D rs) (hb : Below w.heap.size w w') : Rst w0 w' D rs := by
  refine ⟨bl_trans h.bel hb, fun p hp => ?_, fun q hq => rp_bl (h.rp q hq) hb, fun k hk => ⟨(h.rsv k hk).1, Nat.lt_of_lt_of_le (h.rsv k hk).2 hb.size⟩, h.nd, h.rd, h.dd, fun t ht => ⟨(h.own t ht).1.later t hb, (h.own t ht).2⟩, h.tn, h.off, h.src⟩
  obtain ⟨rest, last, hx⟩ := h.dc p hp
  exact ⟨rest, last, hx.kept (hb.block _ (h.rsv _ (rr_d hp)).2) (hb.block _ (h.rsv _ (rr_g hp)).2)⟩
theorem Rst.perm {w0 w : World} {D : List (Nat × Nat)} {rs us : List Rp} (h : Rst w0 w D rs) (hp : rs.Perm us) : Rst w0 w D us := by
  have ht : (trs rs).Perm (trs us) := hp.map _
  have hb : (bks (trs rs)).Perm (bks (trs us)) := ht.flatMap_right _
  have hr : ∀ k, k ∈ RR D us ↔ k ∈ RR D rs := fun k => by rw [rr_mem, rr_mem]; simp only [hp.mem_iff]
  exact ⟨h.bel, h.dc, fun q hq => h.rp q (hp.mem_iff.2 hq), fun k hk => h.rsv k ((hr k).1 hk), (hp.map _).nodup_iff.1 h.nd, fun q hq => h.rd q (hp.mem_iff.2 hq), h.dd, fun t k => h.own t (ht.mem_iff.2 k), hb.nodup_iff.1 h.tn, fun k hk hm => h.off k (hb.mem_iff.2 hk) ((hr k).1 hm), fun k hk => h.src k (hb.mem_iff.2 hk)⟩
theorem Rst.swap {w0 w : World} {D : List (Nat × Nat)} {a b : Rp} {rs : List Rp} (h : Rst w0 w D (a :: b :: rs)) : Rst w0 w D (b :: a :: rs) := h.perm (.swap _ _ _)
theorem Rst.drop {w0 w : World} {D : List (Nat × Nat)} {q : Rp} {rs : List Rp} (h : Rst w0 w D (q :: rs)) : Rst w0 w D rs := by
  have hb : ∀ k ∈ bks (trs rs), k ∈ bks (trs (q :: rs)) := fun k hk => by unfold trs; rw [List.map_cons, bks_cons]; exact List.mem_append_right _ hk
  have hr : ∀ k ∈ RR D rs, k ∈ RR D (q :: rs) := fun k hk => by
    rcases rr_mem.1 hk with x | x | ⟨p, hp, x⟩
    · exact rr_mem.2 (.inl x)
    · exact rr_mem.2 (.inr (.inl x))
    · exact rr_mem.2 (.inr (.inr ⟨p, List.mem_cons_of_mem _ hp, x⟩))
  have htn := h.tn
  unfold trs at htn
  rw [List.map_cons, bks_cons, List.nodup_append] at htn
  exact ⟨h.bel, h.dc, fun p hp => h.rp p (List.mem_cons_of_mem _ hp), fun k hk => h.rsv k (hr k hk), (List.nodup_cons.1 h.nd).2, fun p hp => h.rd p (List.mem_cons_of_mem _ hp), h.dd, fun t ht => h.own t (List.mem_cons_of_mem _ ht), htn.2.1, fun k hk hm => h.off k (hb k hk) (hr k hm), fun k hk => h.src k (hb k hk)⟩
/-- A new dice. -/
theorem Rst.dice {w0 w w' : World} {D : List (Nat × Nat)} {rs : List Rp} (h : Rst w0 w D rs) (hb : Below w.heap.size w w') {d g : Nat} {rest : List Int} {last : Int} (hd : DiceAt w' d g rest last) (h1 : w.heap.size ≤ d) (h2 : w.heap.size ≤ g) (h3 : d < w'.heap.size) (h4 : g < w'.heap.size) : Rst w0 w' ((d, g) :: D) rs := by
  have k := h.bl hb
  have hsz := h.bel.size
  have hlt : ∀ x ∈ RR D rs, x < w.heap.size := fun x hx => (h.rsv x hx).2
  have hcs : ∀ x ∈ RR ((d, g) :: D) rs, x = d ∨ x = g ∨ x ∈ RR D rs := fun x hx => by
    rcases rr_mem.1 hx with ⟨p, hp, rfl⟩ | ⟨p, hp, rfl⟩ | ⟨q, hq, rfl⟩
    · rcases List.mem_cons.1 hp with rfl | hp
      · exact .inl rfl
      · exact .inr (.inr (rr_d hp))
    · rcases List.mem_cons.1 hp with rfl | hp
      · exact .inr (.inl rfl)
      · exact .inr (.inr (rr_g hp))
    · exact .inr (.inr (rr_r hq))
  refine ⟨k.bel, fun p hp => ?_, k.rp, fun x hx => ?_, k.nd, fun q hq p hp => ?_, List.pairwise_cons.2 ⟨fun p hp => ?_, k.dd⟩, k.own, k.tn, fun x hx hm => ?_, k.src⟩
  · rcases List.mem_cons.1 hp with rfl | hp
    · exact ⟨rest, last, hd⟩
    · exact k.dc p hp
  · rcases hcs x hx with rfl | rfl | hx
    · exact ⟨by omega, h3⟩
    · exact ⟨by omega, h4⟩
    · exact k.rsv x hx
  · have hq1 := hlt q.1 (rr_r hq)
    rcases List.mem_cons.1 hp with rfl | hp
    · exact ⟨by simp only; omega, by simp only; omega⟩
    · exact k.rd q hq p hp
  · have h5 := hlt p.1 (rr_d hp)
    have h6 := hlt p.2 (rr_g hp)
    exact ⟨by simp only; omega, by simp only; omega, by simp only; omega⟩
  · rcases hcs x hm with rfl | rfl | hm
    · obtain ⟨t, ht, hk⟩ := List.mem_flatMap.1 hx
      have := (h.own t ht).1.blocks_lt t _ hk
      omega
    · obtain ⟨t, ht, hk⟩ := List.mem_flatMap.1 hx
      have := (h.own t ht).1.blocks_lt t _ hk
      omega
    · exact k.off x hx hm
/-- A tree's text is this string. -/
def Tx (t : T) (x : ByteArray) : Prop := t.text = x.data.toList
theorem Tx.len {t : T} {x : ByteArray} (h : Tx t x) : t.text.length = x.size := by rw [h]; rfl
theorem Tx.str {t : T} {x : ByteArray} (h : Tx t x) : strOf t.text = x := by rw [h]; exact strOf_of x
theorem Tx.of {t : T} {l : List UInt8} {x : ByteArray} (h : t.text = l) (hx : l = x.data.toList) : Tx t x := h.trans hx
theorem exs_cut (x : ByteArray) (a b : Nat) (hab : a ≤ b) : cutL x.data.toList a b = (x.extract a b).data.toList := by
  unfold cutL
  rw [ByteArray.data_extract]
  simp [List.take_drop, show a + (b - a) = b by omega]
theorem keep_dice {D : List (Nat × Nat)} {rs : List Rp} {R : List Nat} {d r : Nat} {w w' : World} (hR : ∀ k ∈ RR D rs, k ∈ R) (hr : ∀ p ∈ D, r ≠ p.1 ∧ r ≠ p.2) (hk : Keep2 R d r w w') : ∀ p ∈ D, p.1 ≠ d → p.2 ≠ d → w'.heap[p.1]? = w.heap[p.1]? ∧ w'.heap[p.2]? = w.heap[p.2]? :=
  fun p hp h1 h2 => ⟨hk _ (hR _ (rr_d hp)) h1 (Ne.symm (hr p hp).1), hk _ (hR _ (rr_g hp)) h2 (Ne.symm (hr p hp).2)⟩
theorem rst_one {w0 w w' : World} {D : List (Nat × Nat)} {r d g : Nat} {t t' : T} {rs : List Rp} (h : Rst w0 w D ((r, d, t) :: rs)) (hd : (d, g) ∈ D) (hl : Live w0 [] (RR D ((r, d, t) :: rs)) d g w' (t' :: trs rs)) (hc : RpC w' r d t') (hk : Keep2 (RR D ((r, d, t) :: rs)) d r w w') : Rst w0 w' D ((r, d, t') :: rs) := by
  refine h.back hd hl (fun q hq => ?_) h.nd (fun q hq => ?_) (fun q hq => ?_) (keep_dice (fun _ x => x) (h.rd (r, d, t) List.mem_cons_self) hk)
  · rcases List.mem_cons.1 hq with rfl | hq
    · exact hc
    · have hne : q.1 ≠ r := fun e => (List.nodup_cons.1 h.nd).1 (by simp only; rw [← e]; exact List.mem_map_of_mem hq)
      exact (hk q.1 (rr_r (List.mem_cons_of_mem _ hq)) (h.rd q (List.mem_cons_of_mem _ hq) _ hd).1 hne).trans (h.rp q (List.mem_cons_of_mem _ hq))
  · rcases List.mem_cons.1 hq with rfl | hq
    · exact h.rd (r, d, t) List.mem_cons_self
    · exact h.rd q (List.mem_cons_of_mem _ hq)
  · rcases List.mem_cons.1 hq with rfl | hq
    · exact (h.rsv r (rr_r (q := (r, d, t)) List.mem_cons_self)).1
    · exact (h.rsv _ (rr_r (List.mem_cons_of_mem _ hq))).1
/-- What Insert and Delete leave. -/
def OnePost (w0 : World) (D : List (Nat × Nat)) (r d : Nat) (rs : List Rp) (x : ByteArray) (e : Ending) (w' : World) : Prop := ∃ t, e = .returned (.int .i64 0) ∧ Tx t x ∧ Rst w0 w' D ((r, d, t) :: rs)
/-- One rope more. -/
theorem rst_more {w0 w w' : World} {D : List (Nat × Nat)} {r d g : Nat} {t : T} {rs us : List Rp} (h : Rst w0 w D rs) (hd : (d, g) ∈ D) (hr : w.heap.size ≤ r) (hus : us.map (·.1) = rs.map (·.1)) (hl : Live w0 [] (r :: RR D rs) d g w' (trs ((r, d, t) :: us))) (hc : RpC w' r d t) (hrp : ∀ q ∈ us, RpC w' q.1 q.2.1 q.2.2)
    (hk : ∀ p ∈ D, p.1 ≠ d → p.2 ≠ d → w'.heap[p.1]? = w.heap[p.1]? ∧ w'.heap[p.2]? = w.heap[p.2]?) : Rst w0 w' D ((r, d, t) :: us) := by
  have hlt : ∀ x ∈ RR D rs, x < w.heap.size := fun x hx => (h.rsv x hx).2
  have hmem : ∀ q ∈ us, ∃ q' ∈ rs, q'.1 = q.1 := fun q hq => by
    have h1 : q.1 ∈ us.map (·.1) := List.mem_map_of_mem hq
    rw [hus] at h1
    exact List.mem_map.1 h1
  have hrr : ∀ k, k ∈ RR D ((r, d, t) :: us) ↔ k ∈ r :: RR D rs := fun k => by
    unfold RR
    rw [List.map_cons, hus]
    simp only [List.mem_append, List.mem_cons]
    constructor
    · rintro (x | x | x | x)
      · exact .inr (.inl x)
      · exact .inr (.inr (.inl x))
      · exact .inl x
      · exact .inr (.inr (.inr x))
    · rintro (x | x | x | x)
      · exact .inr (.inr (.inl x))
      · exact .inl x
      · exact .inr (.inl x)
      · exact .inr (.inr (.inr x))
  have hl2 : Live w0 [] (RR D ((r, d, t) :: us)) d g w' (trs ((r, d, t) :: us)) := ⟨hl.dice, rr_d hd, rr_g hd, fun k hk => hl.hR k ((hrr k).1 hk), hl.own, hl.nd, fun k hk hm => hl.off k hk ((hrr k).1 hm), hl.src, hl.chg⟩
  refine h.back hd hl2 (fun q hq => ?_) ?_ (fun q hq p hp => ?_) (fun q hq => ?_) hk
  · rcases List.mem_cons.1 hq with rfl | hq
    · exact hc
    · exact hrp q hq
  · rw [List.map_cons, hus, List.nodup_cons]
    refine ⟨fun hm => ?_, h.nd⟩
    obtain ⟨q, hq, e⟩ := List.mem_map.1 hm
    have := hlt q.1 (rr_r hq)
    simp only at e
    omega
  · rcases List.mem_cons.1 hq with rfl | hq
    · have h5 := hlt p.1 (rr_d hp)
      have h6 := hlt p.2 (rr_g hp)
      exact ⟨by simp only; omega, by simp only; omega⟩
    · obtain ⟨q', hq', e⟩ := hmem q hq
      rw [← e]
      exact h.rd q' hq' p hp
  · have hsz := h.bel.size
    rcases List.mem_cons.1 hq with rfl | hq
    · simp only; omega
    · obtain ⟨q', hq', e⟩ := hmem q hq
      rw [← e]
      exact (h.rsv _ (rr_r hq')).1
def CutsPost (w0 : World) (D : List (Nat × Nat)) (r d : Nat) (rs : List Rp) (x y : ByteArray) (e : Ending) (w' : World) : Prop := ∃ (o : Nat) (a b : T), e = .returned (.tuple #[.pointer (some ⟨o, 0, none⟩), .int .i64 0]) ∧ o ≠ r ∧ Tx a x ∧ Tx b y ∧ Rst w0 w' D ((o, d, b) :: (r, d, a) :: rs)
def NewsPost (w0 : World) (D : List (Nat × Nat)) (d : Nat) (rs : List Rp) (x : ByteArray) (e : Ending) (w' : World) : Prop := ∃ (r : Nat) (t : T), e = .returned (.tuple #[.pointer (some ⟨r, 0, none⟩), .int .i64 0]) ∧ (∀ q ∈ rs, q.1 ≠ r) ∧ Tx t x ∧ Rst w0 w' D ((r, d, t) :: rs)
theorem rst_new {w0 w : World} {D : List (Nat × Nat)} {d g : Nat} {rs : List Rp} (h : Rst w0 w D rs) (hd : (d, g) ∈ D) (p off c : Nat) (xs : List ByteArray) (hp : p < w.heap.size) (hcells : ∀ (j : Nat) z, xs[j]? = some z → w.cell? ⟨p, off + j, none⟩ = some (.string z)) (hc : xs.length ≤ c) (hn : xs.length ≤ 1000) (x : ByteArray) (hx : cat xs = x.data.toList) (hlen : x.size ≤ 65536) :
    Calls Tryz.prog 11 #[.pointer (some ⟨d, 0, none⟩), .slice (some ⟨p, off, none⟩) xs.length c] w (NewsPost w0 D d rs x) := by
  refine (new_r (h.live hd) p off c xs hp hcells hc hn (by rw [hx]; exact hlen)).mono ?_
  rintro e w' ⟨r, t, rfl, hr, ht, hl, hco, hk⟩
  refine ⟨r, t, rfl, fun q hq e => ?_, Tx.of ht hx, rst_more (us := rs) h hd hr rfl hl hco (fun q hq => ?_) (keep_dice (r := w.heap.size) (fun _ x => x) (fun p hp => ?_) (keep2_of hk _))⟩
  · have := (h.rsv _ (rr_r hq)).2; omega
  · exact (hk q.1 (rr_r hq) (h.rd q hq _ hd).1).trans (h.rp q hq)
  · have h5 := (h.rsv _ (rr_d hp)).2
    have h6 := (h.rsv _ (rr_g hp)).2
    exact ⟨by omega, by omega⟩
def JoinsPost (w0 : World) (D : List (Nat × Nat)) (r d o d2 : Nat) (rs : List Rp) (x : ByteArray) (e : Ending) (w' : World) : Prop := ∃ t : T, e = .returned (.int .i64 0) ∧ Tx t x ∧ Rst w0 w' D ((r, d, t) :: (o, d2, .nil) :: rs)
theorem Rst.at' {w0 w : World} {D : List (Nat × Nat)} {rs : List Rp} (h : Rst w0 w D rs) {q : Rp} (hq : q ∈ rs) : q.2.2.At w ∧ Fit q.2.2 := h.own _ (List.mem_map_of_mem hq)
theorem rst_len {w0 w : World} {D : List (Nat × Nat)} {rs : List Rp} (h : Rst w0 w D rs) {r d : Nat} {t : T} (hq : (r, d, t) ∈ rs) {x : ByteArray} (hx : Tx t x) :
    Calls Tryz.prog 16 #[.pointer (some ⟨r, 0, none⟩)] w fun e w' => e = .returned (.int .i64 x.size) ∧ w = w' := by
  have := len_r (h.rp _ hq) (h.at' hq).1
  rw [hx.len] at this
  exact this
theorem T.ps_le (t : T) (h : ∀ q ∈ t.ps, PcOk q) : t.ps.length ≤ t.text.length := by
  have h2 := t.text_ps
  rw [h2]
  clear h2
  generalize t.ps = l at *
  induction l with
  | nil => simp
  | cons a l ih =>
    have h3 := ih (fun q hq => h q (List.mem_cons_of_mem _ hq))
    have h4 := (h a List.mem_cons_self).1.1
    have h5 : a.2.1.data.toList.length = a.2.1.size := rfl
    simp only [txP, List.flatMap_cons, List.length_append, List.length_cons] at h3 ⊢
    omega
end
section
open Go.ChangeShapes Go.WideShapes Go.ChangeAt Go.RowKit
attribute [local go_sem ↓] Go.wp_at_zero Go.wp_at_succ
set_option maxRecDepth 100000
def DnewPost (w0 : World) (D : List (Nat × Nat)) (rs : List Rp) (w : World) (e : Ending) (w' : World) : Prop := ∃ b g, e = .returned (.pointer (some ⟨b, 0, none⟩)) ∧ Rst w0 w' ((b, g) :: D) rs ∧ w.heap.size ≤ b
theorem rst_dnew {w0 w : World} {D : List (Nat × Nat)} {rs : List Rp} (h : Rst w0 w D rs) (zs : List Int) (cs : Array Value) (hcs : cs.toList = zs.map (.int .u32)) (hn : zs.length ≤ 1000) (hbd : ∀ x ∈ zs, 0 ≤ x ∧ x < 4294967296) (n : Nat) (hz : zs.length = n) :
    Calls Tryz.prog 12 #[.slice (some ⟨w.heap.size, 0, none⟩) n n] (w.alloc (.cells cs 46)) (DnewPost w0 D rs w) := by
  have hb1 := bl_alloc (bl_refl w) (Obj.cells cs 46)
  have h1 := h.bl hb1
  refine (dnew_some _ ⟨w.heap.size, 0, none⟩ n n zs hz (by omega) hbd (fun j hj => ?_)).mono ?_
  · refine cells_lit w cs _ j _ ?_
    rw [hcs, List.getElem?_map, List.getElem?_eq_getElem (by omega)]
    simp [List.getD, List.getElem?_eq_getElem (show j < zs.length by omega)]
  · rintro e w' ⟨b, g, rfl, hb0, hg0, hb, hg, hd, hbel⟩
    exact ⟨b, g, rfl, h1.dice hbel hd hb0 hg0 hb hg, Nat.le_trans hb1.size hb0⟩
theorem rst_new1 {w0 w : World} {D : List (Nat × Nat)} {d g : Nat} {rs : List Rp} (h : Rst w0 w D rs) (hd : (d, g) ∈ D) (x : ByteArray) (hlen : x.size ≤ 65536) :
    Calls Tryz.prog 11 #[.pointer (some ⟨d, 0, none⟩), .slice (some ⟨w.heap.size, 0, none⟩) 1 1] (w.alloc (.cells #[.string x] 9)) (NewsPost w0 D d rs x) := by
  refine rst_new (h.bl (bl_alloc (bl_refl w) (Obj.cells #[.string x] 9))) hd w.heap.size 0 1 [x] (by simp) (fun j z hz => ?_) (by simp) (by simp) x (by simp [cat]) hlen
  rcases j with _ | j
  · obtain rfl : x = z := by simpa using hz
    exact cells_lit w #[.string x] _ 0 _ rfl
  · simp at hz
theorem rst_new2 {w0 w : World} {D : List (Nat × Nat)} {d g : Nat} {rs : List Rp} (h : Rst w0 w D rs) (hd : (d, g) ∈ D) (x y : ByteArray) (hlen : x.size + y.size ≤ 65536) :
    Calls Tryz.prog 11 #[.pointer (some ⟨d, 0, none⟩), .slice (some ⟨w.heap.size, 0, none⟩) 2 2] (w.alloc (.cells #[.string x, .string y] 9)) (NewsPost w0 D d rs (x ++ y)) := by
  refine rst_new (h.bl (bl_alloc (bl_refl w) (Obj.cells #[.string x, .string y] 9))) hd w.heap.size 0 2 [x, y] (by simp) (fun j z hz => ?_) (by simp) (by simp) (x ++ y) (by simp [cat]) (by rw [ByteArray.size_append]; exact hlen)
  rcases j with _ | _ | j
  · obtain rfl : x = z := by simpa using hz
    exact cells_lit w #[.string x, .string y] _ 0 _ rfl
  · obtain rfl : y = z := by simpa using hz
    exact cells_lit w #[.string x, .string y] _ 1 _ rfl
  · simp at hz
theorem new_nodice (w : World) (v : Value) (hv : ∃ a n c, v = .slice a n c) : Calls Tryz.prog 11 #[.pointer none, v] w fun e w' => e = .returned (.tuple #[.pointer none, .int .i64 1]) ∧ w = w' := by
  obtain ⟨a, n, c, rfl⟩ := hv
  go_enter Tryz.func11, Tryz.ntmps11
  go_wp2
  go_ret2
  exact ⟨rfl, rfl⟩
def TwinPost (w0 : World) (D : List (Nat × Nat)) (d : Nat) (rs : List Rp) (x : ByteArray) (e : Ending) (w' : World) : Prop := ∃ (r : Nat) (t : T), e = .returned (.pointer (some ⟨r, 0, none⟩)) ∧ (∀ q ∈ rs, q.1 ≠ r) ∧ Tx t x ∧ Rst w0 w' D ((r, d, t) :: rs)
/-- Texts as lists. -/
theorem str_ext {x y : ByteArray} (h : x.data.toList = y.data.toList) : x = y := ByteArray.ext (Array.ext' h)
theorem ext_mid (x : ByteArray) (a b : Nat) : (x.extract a b).data.toList = (x.data.toList.take b).drop a := by
  rw [ByteArray.data_extract]
  simp [List.drop_take]
theorem app_list (x y : ByteArray) : (x ++ y).data.toList = x.data.toList ++ y.data.toList := by simp only [ByteArray.data_append, Array.toList_append]
theorem size_list (x : ByteArray) : x.size = x.data.toList.length := rfl
end
section
open Go.ChangeShapes Go.WideShapes Go.ChangeAt Go.RowKit
attribute [local go_sem ↓] Go.wp_at_zero Go.wp_at_succ
set_option maxRecDepth 100000
theorem count_no {w : World} {r d : Nat} {t : T} (hc : RpC w r d t) (ht : t.At w) (k : Int) (hx : k < 0 ∨ (t.text.length : Int) < k) :
    Calls Tryz.prog 59 #[.pointer (some ⟨r, 0, none⟩), .int .i64 k] w fun e w' => e = .returned (.tuple #[.agg #[.int .i64 0, .int .i64 0, .int .i64 0, .int .i64 0], .int .i64 3]) ∧ Below w.heap.size w w' := by
  have hm : mayR 0 k t.text.length = 3 := by unfold mayR; rw [if_pos (by omega)]
  have HM := hide (fun W (hb : Below w.heap.size w W) => (hm ▸ may_r (rp_bl hc hb) (ht.later t hb) 0 k : Calls Tryz.prog 84 #[.pointer (some ⟨r, 0, none⟩), .int .i64 0, .int .i64 k] W fun e w' => e = .returned (.int .i64 3) ∧ W = w'))
  clear hc ht hx hm
  go_enter Tryz.func59, Tryz.ntmps59
  go_wp2_with fail
  refine (HM.out _ (bl_alloc (bl_refl _) _)).mono ?_
  rintro e w1 ⟨rfl, rfl⟩
  go_wp2
  refine bodyPost_ret (v := .tuple #[.agg #[.int .i64 0, .int .i64 0, .int .i64 0, .int .i64 0], .int .i64 3]) (by simp [results, Tryz.results59, go_sem]) rfl ⟨rfl, ?_⟩
  first
  | exact bl_alloc (bl_refl _) _
  | exact bl_set (bl_alloc (bl_refl _) _) (Nat.le_refl _) _
  | exact (by repeat (first | exact bl_refl _ | assumption | refine bl_alloc ?_ _ | refine bl_drewN ?_ _ | refine bl_drew ?_ | refine bl_trans ?_ (by assumption)))
end
section
open Go.ChangeShapes Go.WideShapes Go.ChangeAt Go.RowKit
attribute [local go_sem ↓] Go.wp_at_zero Go.wp_at_succ
set_option maxRecDepth 100000
theorem sjoin_zero (a : Option Addr) (c : Nat) (w : World) : Calls Tryz.prog 23 #[.slice a 0 c, .string ⟨#[]⟩] w fun e w' => e = .returned (.string ⟨#[]⟩) ∧ w = w' := by
  go_enter Tryz.func23, Tryz.ntmps23
  go_wp2
  go_ret
  exact ⟨rfl, rfl⟩
set_option maxHeartbeats 4000000 in
theorem new_zero {w0 w : World} {D : List (Nat × Nat)} {d g : Nat} {rs : List Rp} (h : Rst w0 w D rs) (hd : (d, g) ∈ D) (a : Option Addr) (c : Nat) :
    Calls Tryz.prog 11 #[.pointer (some ⟨d, 0, none⟩), .slice a 0 c] w (NewsPost w0 D d rs ⟨#[]⟩) := by
  have hLA := (h.live hd).reserve (.cells #[.pointer (some ⟨d, 0, none⟩), .pointer none] 62)
  have hoA : RpC (w.alloc (.cells #[.pointer (some ⟨d, 0, none⟩), .pointer none] 62)) w.heap.size d .nil := heap_alloc_new w _
  have hba : Below w.heap.size w (w.alloc (.cells #[.pointer (some ⟨d, 0, none⟩), .pointer none] 62)) := bl_alloc (bl_refl w) _
  have hsw := h.bel.size
  have hdw := (h.rsv d (rr_d hd)).2
  have hgw := (h.rsv g (rr_g hd)).2
  obtain ⟨c0, _, _, _⟩ := rp_cells hoA
  have HB := hide (build_live hLA w.heap.size List.mem_cons_self (by omega) c0 ⟨#[]⟩ (by decide))
  have HO := hide hoA
  have H := hide h
  have HBA := hide hba
  clear h hLA hoA hba
  go_enter Tryz.func11, Tryz.ntmps11
  go_wp2
  go_loopw [6, 14] (fun n i wr => n = .int .i64 0 ∧ i = .int .i64 0 ∧ w = wr) (fun _ _ _ => 0)
  case atStart => exact ⟨rfl, rfl, rfl⟩
  case round =>
    obtain ⟨rfl, rfl, rfl⟩ := hrel
    go_wp2_with fail
    refine (sjoin_zero _ _ _).mono ?_
    rintro e w1 ⟨rfl, hw1⟩
    subst hw1
    go_wp2_with fail
    refine HB.out.mono ?_
    rintro e w2 ⟨t, rfl, htx, hl2, hk2⟩
    have ho2 := rp_keep HO.out hk2 List.mem_cons_self (show w.heap.size ≠ d by omega)
    obtain ⟨_, e1, _, f1⟩ := rp_cells ho2
    have hl3 := hl2.set (r := w.heap.size) List.mem_cons_self (by omega) (by omega) (.inr hsw) 1 (.pointer t.addr)
    have hk : ∀ k ∈ RR D rs, k ≠ d → (w2.setCell ⟨w.heap.size, 1, none⟩ (.pointer t.addr)).heap[k]? = w.heap[k]? := fun q hq hn => by
      have hqw := (H.out.rsv q hq).2
      rw [Below.heap_setCell _ ⟨w.heap.size, 1, none⟩ _ q (by simp only; omega), hk2 q (List.mem_cons_of_mem _ hq) hn]
      exact HBA.out.block q hqw
    have hfin : NewsPost w0 D d rs ⟨#[]⟩ (.returned (.tuple #[.pointer (some ⟨w.heap.size, 0, none⟩), .int .i64 0])) (w2.setCell ⟨w.heap.size, 1, none⟩ (.pointer t.addr)) :=
      ⟨_, t, rfl, fun q hq e => by have := (H.out.rsv _ (rr_r hq)).2; omega, htx, rst_more (us := rs) H.out hd (Nat.le_refl _) rfl hl3 (rp_set (t := .nil) ho2 t) (fun q hq => (hk q.1 (rr_r hq) (H.out.rd q hq _ hd).1).trans (H.out.rp q hq)) (fun p hp h1 h2 => ⟨hk _ (rr_d hp) h1, hk _ (rr_g hp) h2⟩)⟩
    have HF := hide hfin
    clear hfin hl2 hl3 htx ho2 hk2 HB hk
    go_wp2
    go_ret2
    exact HF.out
theorem rst_news {w0 w : World} {D : List (Nat × Nat)} {d g : Nat} {rs : List Rp} (h : Rst w0 w D rs) (hd : (d, g) ∈ D) {a : Option Addr} {len cap : Nat} {z : List ByteArray} (hz : IsStrs w a len cap z) (hn : len ≤ 1000) (x : ByteArray) (hx : cat (z.take len) = x.data.toList) (hlen : x.size ≤ 65536) :
    Calls Tryz.prog 11 #[.pointer (some ⟨d, 0, none⟩), .slice a len cap] w (NewsPost w0 D d rs x) := by
  rcases Nat.eq_zero_or_pos len with h0 | h0
  · subst h0
    have hx0 : x = ⟨#[]⟩ := str_ext (by rw [← hx]; simp [cat])
    subst hx0
    exact new_zero h hd a cap
  · obtain ⟨b, off, rfl, h1, h2, h3, h4⟩ := strs_cell hz h0
    have hl := strs_len hz
    have hzl : (z.take len).length = len := by simp; omega
    have hcells : ∀ (j : Nat) y, (z.take len)[j]? = some y → w.cell? ⟨b, off + j, none⟩ = some (.string y) := fun j y hy => by
      have hj : j < len := by have := (List.getElem?_eq_some_iff.1 hy).1; omega
      have := h4 j (by omega)
      rw [this]
      rw [List.getElem?_take, if_pos hj] at hy
      simp [List.getD, hy]
    have hbw : b < w.heap.size := World.block_lt_of_cell? w _ (h4 0 (by omega))
    have := rst_new h hd b off cap (z.take len) hbw hcells (by omega) (by omega) x hx hlen
    rw [hzl] at this
    exact this
theorem rst_dnews {w0 w : World} {D : List (Nat × Nat)} {rs : List Rp} (h : Rst w0 w D rs) {a : Option Addr} {len cap : Nat} {z : List Int} (hz : IsInts .u32 w a len cap z) (hn : len ≤ 1000) :
    Calls Tryz.prog 12 #[.slice a len cap] w fun e w' => ∃ b g, e = .returned (.pointer (some ⟨b, 0, none⟩)) ∧ Rst w0 w' ((b, g) :: D) rs ∧ Below w.heap.size w w' := by
  rcases hz with ⟨rfl, rfl, rfl, _⟩ | ⟨x, rfl, hl, hm, hzl, hc, hw⟩
  · refine (dnew_nil w).mono ?_
    rintro e w' ⟨b, g, rfl, hb0, hg0, hb, hg, hd, hbel⟩
    exact ⟨b, g, rfl, h.dice hbel hd hb0 hg0 hb hg, hbel⟩
  · refine (dnew_some w x len cap (z.take len) (by simp; omega) (by omega) (fun y hy => ?_) (fun j hj => ?_)).mono ?_
    · have h9 := hw y (List.mem_of_mem_take hy)
      simp [Lit.wf, IntKind.min, IntKind.max, IntKind.signed, IntKind.bits] at h9
      omega
    · rw [hc j (by omega)]
      simp [List.getD, hj]
    · rintro e w' ⟨b, g, rfl, hb0, hg0, hb, hg, hd, hbel⟩
      exact ⟨b, g, rfl, h.dice hbel hd hb0 hg0 hb hg, hbel⟩
end
section
open Go.ChangeShapes Go.WideShapes Go.ChangeAt Go.RowKit
attribute [local go_sem ↓] Go.wp_at_zero Go.wp_at_succ
set_option maxRecDepth 100000
theorem plusT (w : World) (L M S : List UInt8) (hS : S = L ++ M) (hn : S.length ≤ 1000000) :
    Calls Tryz.prog 98 #[talOf L, talOf M] w fun e w' => e = .returned (talOf S) ∧ Below w.heap.size w w' := by
  refine (plus_any _ _ _ _ _ _ _ _ w).mono ?_
  rintro e w' ⟨rfl, hb⟩
  refine ⟨?_, hb⟩
  subst hS
  rw [List.length_append] at hn
  have l1 := bd_all L (by omega)
  have l3 := bd_all M (by omega)
  unfold talOf
  rw [w64n _ (by omega), w64n (nBrk L + nBrk M) (by omega), w64n (nRun L + nRun M) (by omega), w64n (nBig L + nRun L + (nBig M + nRun M)) (by omega), nBrk_app, nRun_app, nBig_app, List.length_append,
    show nBig L + nRun L + (nBig M + nRun M) = nBig L + nBig M + (nRun L + nRun M) by omega, show (((L.length + M.length : Nat)) : Int) = (L.length : Int) + (M.length : Int) by omega]
/-- The block of a result that is being made. -/
def ResAt (w : World) (b : Nat) : Prop := ∃ q0 q1 q2 q3 : Int, w.heap[b]? = some (.cells #[.int .i64 q0, .int .i64 q1, .int .i64 q2, .int .i64 q3] 97 (0, 0))
theorem ResAt.bl {w w' : World} {b : Nat} (h : ResAt w b) (hb : Below w.heap.size w w') : ResAt w' b := by
  obtain ⟨q0, q1, q2, q3, h⟩ := h
  exact ⟨q0, q1, q2, q3, (hb.block b (Array.getElem?_eq_some_iff.1 h).1).trans h⟩
theorem ResAt.set4 {w : World} {b : Nat} (h : ResAt w b) (u0 u1 u2 u3 : Int) : ResAt ((((w.setCell ⟨b, 0, none⟩ (.int .i64 u0)).setCell ⟨b, 1, none⟩ (.int .i64 u1)).setCell ⟨b, 2, none⟩ (.int .i64 u2)).setCell ⟨b, 3, none⟩ (.int .i64 u3)) b := by
  obtain ⟨q0, q1, q2, q3, h⟩ := h
  exact ⟨u0, u1, u2, u3, heap_setN (heap_setN (heap_setN (heap_setN h 0 _) 1 _) 2 _) 3 _⟩
theorem res_top {w : World} {n : Nat} (h : ResAt w n) :
    (∃ q0 q1 q2 q3 : Int, w.cell? ⟨n, 0, none⟩ = some (.int .i64 q0) ∧ w.cell? ⟨n, 1, none⟩ = some (.int .i64 q1) ∧ w.cell? ⟨n, 2, none⟩ = some (.int .i64 q2) ∧ w.cell? ⟨n, 3, none⟩ = some (.int .i64 q3)) ∧ w.frozen? ⟨n, 0, none⟩ = false ∧ w.frozen? ⟨n, 1, none⟩ = false ∧ w.frozen? ⟨n, 2, none⟩ = false ∧ w.frozen? ⟨n, 3, none⟩ = false := by
  obtain ⟨q0, q1, q2, q3, h⟩ := h
  refine ⟨⟨q0, q1, q2, q3, ?_, ?_, ?_, ?_⟩, ?_, ?_, ?_, ?_⟩
  · rw [Lib.cell_of_heap h]; rfl
  · rw [Lib.cell_of_heap h]; rfl
  · rw [Lib.cell_of_heap h]; rfl
  · rw [Lib.cell_of_heap h]; rfl
  all_goals simp [World.frozen?, h]
theorem take_lo (A B : List UInt8) (k : Nat) (h : k ≤ A.length) : (A ++ B).take k = A.take k := List.take_append_of_le_length h
theorem take_mid (A B C : List UInt8) (k : Nat) (h : A.length ≤ k) (h2 : k ≤ A.length + B.length) : (A ++ (B ++ C)).take k = A ++ B.take (k - A.length) := by
  rw [List.take_append, List.take_of_length_le h, List.take_append_of_le_length (by omega)]
theorem take_hi (A B C : List UInt8) (k : Nat) (h2 : A.length + B.length ≤ k) : (A ++ (B ++ C)).take k = A ++ (B ++ C.take (k - A.length - B.length)) := by
  rw [List.take_append, List.take_of_length_le (by omega), List.take_append, List.take_of_length_le (by omega)]
set_option maxHeartbeats 8000000 in
theorem tcount_any (t : T) : ∀ (k : Nat) (w : World), t.At w → t.text.length ≤ 1000000 → k ≤ t.text.length →
    Calls Tryz.prog 85 #[.pointer t.addr, .int .i64 k] w fun e w' => e = .returned (talOf (t.text.take k)) ∧ Below w.heap.size w w' := by
  induction t with
  | nil =>
    intro k w _ _ _
    rw [show (T.nil.text.take k) = [] from by simp [T.text]]
    go_enter Tryz.func85, Tryz.ntmps85
    go_wp2
    refine bodyPost_ret (v := .agg #[.int .i64 0, .int .i64 0, .int .i64 0, .int .i64 0]) (by simp [results, Tryz.results85, go_sem]) rfl ⟨rfl, ?_⟩
    first | exact bl_alloc (bl_refl _) _ | exact bl_alloc (bl_alloc (bl_refl _) _) _ | exact (by repeat (first | exact bl_refl _ | assumption | refine bl_alloc ?_ _ | refine bl_drewN ?_ _ | refine bl_drew ?_ | refine bl_trans ?_ (by assumption)))
  | node l n x p r ihl ihr =>
    intro k w ht hlen hk
    obtain ⟨hn, hl, hr⟩ := ht
    have htx : (T.node l n x p r).text = l.text ++ (x.data.toList ++ r.text) := rfl
    have hnw : n < w.heap.size := (Array.getElem?_eq_some_iff.1 hn).1
    rw [htx] at hlen hk ⊢
    rw [show (T.node l n x p r).addr = some ⟨n, 0, none⟩ from rfl]
    have hsum : (l.text ++ (x.data.toList ++ r.text)).length = l.text.length + (x.size + r.text.length) := by rw [List.length_append, List.length_append]; rfl
    rw [hsum] at hlen hk
    have c4 : w.cell? ⟨n, 4, none⟩ = some (.string x) := by rw [Lib.cell_of_heap hn]; rfl
    have c5 : w.cell? ⟨n, 5, none⟩ = some (.int .i64 x.size) := by rw [Lib.cell_of_heap hn]; rfl
    have c6 : w.cell? ⟨n, 6, none⟩ = some (.int .i64 (nBrk x.data.toList)) := by rw [Lib.cell_of_heap hn]; rfl
    have c7 : w.cell? ⟨n, 7, none⟩ = some (.int .i64 (nRun x.data.toList)) := by rw [Lib.cell_of_heap hn]; rfl
    have c8 : w.cell? ⟨n, 8, none⟩ = some (.int .i64 (nBig x.data.toList + nRun x.data.toList)) := by rw [Lib.cell_of_heap hn]; rfl
    have c10 : w.cell? ⟨n, 10, none⟩ = some (.pointer l.addr) := by rw [Lib.cell_of_heap hn]; rfl
    have c11 : w.cell? ⟨n, 11, none⟩ = some (.pointer r.addr) := by rw [Lib.cell_of_heap hn]; rfl
    have HSZ := hide (fun W (hb : Below w.heap.size w W) => tsize_any l W (hl.later l hb))
    have HL := hide hl
    have HR := hide hr
    have HSUM := hide hsum
    clear hn hl hr htx hsum
    obtain ⟨A, hA⟩ : ∃ A, l.text.length = A := ⟨_, rfl⟩
    have HIL := hide (fun W (hb : Below w.heap.size w W) (hkA : k ≤ l.text.length) => ihl k W (HL.out.later l hb) (by omega) hkA)
    have HIR := hide (fun W (hb : Below w.heap.size w W) (j : Nat) (hj : j ≤ r.text.length) => ihr j W (HR.out.later r hb) (by omega) hj)
    rw [hA] at HSZ hlen hk
    have HA := hide hA
    clear hA ihl ihr
    by_cases h1 : k ≤ A
    · have g1 : decide (k ≤ A) = true := decide_eq_true h1
      have hh := take_lo l.text (x.data.toList ++ r.text) k (by rw [HA.out]; exact h1)
      rw [hh]
      have HI := hide (HIL.out _ (bl_alloc (bl_refl w) (.cells #[.int .i64 0, .int .i64 0, .int .i64 0, .int .i64 0] 97)) (by rw [HA.out]; exact h1))
      clear hh HIL HIR h1
      go_enter Tryz.func85, Tryz.ntmps85
      go_wp2_with fail
      refine (HSZ.out _ (bl_alloc (bl_refl w) _)).mono ?_
      rintro e w1 ⟨rfl, hw1⟩
      subst hw1
      go_wp2_with fail
      refine HI.out.mono ?_
      unfold talOf
      rintro e w2 ⟨rfl, hb2⟩
      have hres : ResAt w2 w.heap.size := ResAt.bl ⟨0, 0, 0, 0, heap_alloc_new w _⟩ hb2
      have hbb := bl_trans (bl_alloc (bl_refl w) (.cells #[.int .i64 0, .int .i64 0, .int .i64 0, .int .i64 0] 97)) hb2
      obtain ⟨⟨q0, q1, q2, q3, s0, s1, s2, s3⟩, f0, f1, f2, f3⟩ := res_top hres
      clear hres
      go_wp2
      refine bodyPost_ret (v := talOf (l.text.take k)) (by simp [results, Tryz.results85, go_sem, talOf, *]) rfl ⟨rfl, ?_⟩
      exact bl_set (bl_set (bl_set (bl_set hbb (Nat.le_refl _) _) (Nat.le_refl _) _) (Nat.le_refl _) _) (Nat.le_refl _) _
    · have g1 : decide (k ≤ A) = false := decide_eq_false h1
      have H1 := hide h1
      have hb00 := bl_alloc (bl_refl w) (.cells #[.int .i64 0, .int .i64 0, .int .i64 0, .int .i64 0] 97)
      have hres0 : ResAt (w.alloc (.cells #[.int .i64 0, .int .i64 0, .int .i64 0, .int .i64 0] 97)) w.heap.size := ⟨0, 0, 0, 0, heap_alloc_new w _⟩
      have d4 := cell_later hb00 c4
      have d5 := cell_later hb00 c5
      have d6 := cell_later hb00 c6
      have d7 := cell_later hb00 c7
      have d8 := cell_later hb00 c8
      have d10 := cell_later hb00 c10
      have d11 := cell_later hb00 c11
      by_cases h2 : k < A + x.size
      · have hh := take_mid l.text x.data.toList r.text k (by rw [HA.out]; omega) (by rw [HA.out]; show k ≤ A + x.size; omega)
        rw [HA.out] at hh
        obtain ⟨j, hj⟩ : ∃ j, k - A = j := ⟨_, rfl⟩
        rw [hj] at hh
        have hjx : j ≤ x.size := by omega
        have b0 : (0 : Int) ≤ (j : Int) := by omega
        have b1 : (j : Int) ≤ (x.size : Int) := by omega
        have g2 : decide ((k : Int) < (A : Int) + (x.size : Int)) = true := decide_eq_true (by omega)
        have hkw : IntKind.i64.wrap ((k : Int) - (A : Int)) = (j : Int) := by rw [show (k : Int) - (A : Int) = (j : Int) by omega]; exact IntWalk.i64_in _ (by omega)
        obtain ⟨S, hS⟩ : ∃ S, (l.text ++ (x.data.toList ++ r.text)).take k = S := ⟨_, rfl⟩
        obtain ⟨M, hM⟩ : ∃ M, x.data.toList.take j = M := ⟨_, rfl⟩
        rw [hM] at hh
        have HS := hide (show S = l.text ++ M by rw [← hS, hh])
        have HSL := hide (show S.length ≤ 1000000 by rw [← hS]; simp; omega)
        rw [hS]
        have HO := hide (fun W => of_any (x.extract 0 j) W (by rw [ByteArray.size_extract]; omega))
        rw [show (x.extract 0 j).data.toList = x.data.toList.take j from by simp, hM] at HO
        have HHK := hide hk
        clear hh hS HIL HIR h1 h2 hj hk hM
        go_enter Tryz.func85, Tryz.ntmps85
        go_wp2_with fail
        refine (HSZ.out _ (bl_alloc (bl_refl w) _)).mono ?_
        rintro e w1 ⟨rfl, hw1⟩
        subst hw1
        clear HSZ c4 c5 c6 c7 c8 c10 c11 d5 d6 d7 d8 d11 HR HSUM H1
        generalize w.alloc (Obj.cells #[Value.int IntKind.i64 0, Value.int IntKind.i64 0, Value.int IntKind.i64 0, Value.int IntKind.i64 0] 97) = W1 at *
        go_wp2
        go_region_held3 (fun w' => (Below w.heap.size w w' ∧ ResAt w' w.heap.size) ∧ w'.cell? ⟨n, 4, none⟩ = some (.string x) ∧ w'.cell? ⟨n, 10, none⟩ = some (.pointer l.addr))
          ((((try go_split_ands); ((repeat' apply And.intro) <;> first | (with_reducible assumption) | (with_reducible exact cell_later hb1 (by with_reducible assumption)) | (with_reducible exact cell_later (bl_drew (bl_refl _)) (by with_reducible assumption)) | (with_reducible exact cell_later (bl_alloc (bl_refl _) _) (by with_reducible assumption)) | (with_reducible exact bl_drew (by with_reducible assumption)) | (with_reducible exact bl_alloc (by with_reducible assumption) _) | (with_reducible exact ResAt.bl (by with_reducible assumption) (bl_drew (bl_refl _))) | (with_reducible exact ResAt.bl (by with_reducible assumption) (bl_alloc (bl_refl _) _)) | (with_reducible exact bl_set (bl_set (bl_set (bl_set (by with_reducible assumption) (Nat.le_refl _) _) (Nat.le_refl _) _) (Nat.le_refl _) _) (Nat.le_refl _) _) | (with_reducible exact ResAt.set4 (by with_reducible assumption) _ _ _ _) | (go_simp; done)))))
          (first
            | (go_at_call 93; go_split_ands; refine (tall_any l _ (HL.out.later l (by with_reducible assumption : Below w.heap.size w _))).mono ?_; unfold talOf; rintro e w1 ⟨rfl, hb1⟩; have hbz := bl_trans (by with_reducible assumption : Below w.heap.size w _) hb1; have hoz := ResAt.bl (by with_reducible assumption : ResAt _ w.heap.size) hb1)
            | (go_at_call 78; go_split_ands; refine (HO.out _).mono ?_; unfold talOf; rintro e w1 ⟨rfl, hb1⟩; have hbz := bl_trans (by with_reducible assumption : Below w.heap.size w _) hb1; have hoz := ResAt.bl (by with_reducible assumption : ResAt _ w.heap.size) hb1)
            | (go_at_call 98; go_split_ands; refine (plusT _ l.text M S HS.out HSL.out).mono ?_; unfold talOf; rintro e w1 ⟨rfl, hb1⟩; have hby := bl_trans (by with_reducible assumption : Below w.heap.size w _) hb1; have hoy := ResAt.bl (by with_reducible assumption : ResAt _ w.heap.size) hb1; obtain ⟨⟨q0, q1, q2, q3, s0, s1, s2, s3⟩, f0, f1, f2, f3⟩ := res_top hoy)
            | fail)
        all_goals
          go_wp2
          refine bodyPost_ret (v := talOf (S)) (by simp [results, Tryz.results85, go_sem, talOf, *]) rfl ⟨rfl, ?_⟩
          exact bl_set (bl_set (bl_set (bl_set hby (Nat.le_refl _) _) (Nat.le_refl _) _) (Nat.le_refl _) _) (Nat.le_refl _) _
      · have hh := take_hi l.text x.data.toList r.text k (by rw [HA.out]; show A + x.size ≤ k; omega)
        rw [HA.out, show x.data.toList.length = x.size from rfl] at hh
        obtain ⟨j, hj⟩ : ∃ j, k - A - x.size = j := ⟨_, rfl⟩
        rw [hj] at hh
        have hjr : j ≤ r.text.length := by omega
        have g2 : decide ((k : Int) < (A : Int) + (x.size : Int)) = false := decide_eq_false (by omega)
        have hkw : IntKind.i64.wrap ((k : Int) - ((A : Int) + (x.size : Int))) = (j : Int) := by rw [show (k : Int) - ((A : Int) + (x.size : Int)) = (j : Int) by omega]; exact IntWalk.i64_in _ (by omega)
        obtain ⟨S, hS⟩ : ∃ S, (l.text ++ (x.data.toList ++ r.text)).take k = S := ⟨_, rfl⟩
        obtain ⟨M, hM⟩ : ∃ M, r.text.take j = M := ⟨_, rfl⟩
        rw [hM] at hh
        have HS := hide (show S = l.text ++ (x.data.toList ++ M) by rw [← hS, hh])
        have HSL := hide (show S.length ≤ 1000000 by rw [← hS]; simp; omega)
        rw [hS]
        have HI := hide (fun W (hb : Below w.heap.size w W) => HIR.out W hb j hjr)
        rw [hM] at HI
        have HHK := hide hk
        clear hh hS HIL HIR h1 h2 hj hk hM hjr
        go_enter Tryz.func85, Tryz.ntmps85
        go_wp2_with fail
        refine (HSZ.out _ (bl_alloc (bl_refl w) _)).mono ?_
        rintro e w1 ⟨rfl, hw1⟩
        subst hw1
        clear HSZ c4 c5 c6 c7 c8 c10 c11 HR HSUM H1
        generalize w.alloc (Obj.cells #[Value.int IntKind.i64 0, Value.int IntKind.i64 0, Value.int IntKind.i64 0, Value.int IntKind.i64 0] 97) = W1 at *
        go_wp2
        go_region_held3 (fun w' => (Below w.heap.size w w' ∧ ResAt w' w.heap.size) ∧ w'.cell? ⟨n, 5, none⟩ = some (.int .i64 x.size) ∧ w'.cell? ⟨n, 6, none⟩ = some (.int .i64 (nBrk x.data.toList)) ∧ w'.cell? ⟨n, 7, none⟩ = some (.int .i64 (nRun x.data.toList)) ∧ w'.cell? ⟨n, 8, none⟩ = some (.int .i64 (nBig x.data.toList + nRun x.data.toList)) ∧ w'.cell? ⟨n, 10, none⟩ = some (.pointer l.addr) ∧ w'.cell? ⟨n, 11, none⟩ = some (.pointer r.addr))
          ((((try go_split_ands); ((repeat' apply And.intro) <;> first | (with_reducible assumption) | (with_reducible exact cell_later hb1 (by with_reducible assumption)) | (with_reducible exact cell_later (bl_drew (bl_refl _)) (by with_reducible assumption)) | (with_reducible exact cell_later (bl_alloc (bl_refl _) _) (by with_reducible assumption)) | (with_reducible exact bl_drew (by with_reducible assumption)) | (with_reducible exact bl_alloc (by with_reducible assumption) _) | (with_reducible exact ResAt.bl (by with_reducible assumption) (bl_drew (bl_refl _))) | (with_reducible exact ResAt.bl (by with_reducible assumption) (bl_alloc (bl_refl _) _)) | (with_reducible exact bl_set (bl_set (bl_set (bl_set (by with_reducible assumption) (Nat.le_refl _) _) (Nat.le_refl _) _) (Nat.le_refl _) _) (Nat.le_refl _) _) | (with_reducible exact ResAt.set4 (by with_reducible assumption) _ _ _ _) | (go_simp; done)))))
          (first
            | (go_at_call 93; go_split_ands; refine (tall_any l _ (HL.out.later l (by with_reducible assumption : Below w.heap.size w _))).mono ?_; unfold talOf; rintro e w1 ⟨rfl, hb1⟩; have hbz := bl_trans (by with_reducible assumption : Below w.heap.size w _) hb1; have hoz := ResAt.bl (by with_reducible assumption : ResAt _ w.heap.size) hb1)
            | (go_at_call 85; go_split_ands; refine (HI.out _ (by with_reducible assumption : Below w.heap.size w _)).mono ?_; unfold talOf; rintro e w1 ⟨rfl, hb1⟩; have hbz := bl_trans (by with_reducible assumption : Below w.heap.size w _) hb1; have hoz := ResAt.bl (by with_reducible assumption : ResAt _ w.heap.size) hb1)
            | (go_at_call 92; go_split_ands; refine (fold3 _ _ l.text x M S HS.out HSL.out (fun j u hu => lit_at _ _ _ j u hu)).mono ?_; unfold talOf; rintro e w1 ⟨rfl, hb1⟩; have hby := bl_trans (by with_reducible assumption : Below w.heap.size w _) hb1; have hoy := ResAt.bl (by with_reducible assumption : ResAt _ w.heap.size) hb1; obtain ⟨⟨q0, q1, q2, q3, s0, s1, s2, s3⟩, f0, f1, f2, f3⟩ := res_top hoy)
            | fail)
        all_goals
          go_wp2
          refine bodyPost_ret (v := talOf (S)) (by simp [results, Tryz.results85, go_sem, talOf, *]) rfl ⟨rfl, ?_⟩
          exact bl_set (bl_set (bl_set (bl_set hby (Nat.le_refl _) _) (Nat.le_refl _) _) (Nat.le_refl _) _) (Nat.le_refl _) _
end
section
open Go.ChangeShapes Go.WideShapes Go.ChangeAt Go.RowKit
attribute [local go_sem ↓] Go.wp_at_zero Go.wp_at_succ
set_option maxRecDepth 100000
set_option maxHeartbeats 2000000 in
theorem count_r {w : World} {r d : Nat} {t : T} (hc : RpC w r d t) (ht : t.At w) (k : Nat) (hk : k ≤ t.text.length) (hlen : t.text.length ≤ 1000000) :
    Calls Tryz.prog 59 #[.pointer (some ⟨r, 0, none⟩), .int .i64 k] w fun e w' => ∃ v0 v1 v2 v3 : Int, talOf (t.text.take k) = .agg #[.int .i64 v0, .int .i64 v1, .int .i64 v2, .int .i64 v3] ∧ e = .returned (.tuple #[talOf (t.text.take k), .int .i64 0]) ∧ Below w.heap.size w w' := by
  have hm : mayR 0 (k : Int) (t.text.length : Int) = 0 := by unfold mayR; rw [if_neg (by omega)]
  have HM := hide (fun W (hb : Below w.heap.size w W) => may_r (rp_bl hc hb) (ht.later t hb) 0 k)
  rw [hm] at HM
  have HC := hide (fun W (hb : Below w.heap.size w W) => tcount_any t k W (ht.later t hb) hlen hk)
  obtain ⟨c0, c1, _, _⟩ := rp_cells hc
  have hrw := rp_lt hc
  obtain ⟨S, hS⟩ : ∃ S, t.text.take k = S := ⟨_, rfl⟩
  rw [hS] at HC ⊢
  clear hS hc ht hm hk hlen
  generalize t.addr = ta at *
  have hba := bl_alloc (bl_refl w) (.cells #[.int .i64 0, .int .i64 0, .int .i64 0, .int .i64 0] 97)
  go_enter Tryz.func59, Tryz.ntmps59
  go_wp2_with fail
  refine (HM.out _ (bl_alloc (bl_refl _) _)).mono ?_
  rintro e w1 ⟨rfl, hw1⟩
  subst hw1
  go_wp2_with fail
  refine (HC.out _ (bl_alloc (bl_refl _) _)).mono ?_
  unfold talOf
  rintro e w2 ⟨rfl, hb2⟩
  have hres : ResAt w2 w.heap.size := ResAt.bl ⟨0, 0, 0, 0, heap_alloc_new w _⟩ hb2
  have hbb := bl_trans hba hb2
  obtain ⟨⟨q0, q1, q2, q3, s0, s1, s2, s3⟩, f0, f1, f2, f3⟩ := res_top hres
  clear hres HM HC
  go_wp2
  refine bodyPost_ret (v := .tuple #[talOf S, .int .i64 0]) (by simp [results, Tryz.results59, go_sem, talOf, *]) rfl ⟨_, _, _, _, rfl, rfl, ?_⟩
  exact bl_set (bl_set (bl_set (bl_set hbb (Nat.le_refl _) _) (Nat.le_refl _) _) (Nat.le_refl _) _) (Nat.le_refl _) _
end
section
open Go.ChangeShapes Go.WideShapes Go.ChangeAt Go.RowKit
attribute [local go_sem ↓] Go.wp_at_zero Go.wp_at_succ
set_option maxRecDepth 100000
def insT (x s : ByteArray) (a : Int) : ByteArray := if mayR a a x.size = 0 then x.extract 0 a.toNat ++ s ++ x.extract a.toNat x.size else x
def delT (x : ByteArray) (a b : Int) : ByteArray := if mayR a b x.size = 0 then x.extract 0 a.toNat ++ x.extract b.toNat x.size else x
def slcT (x : ByteArray) (a b : Int) : ByteArray := if mayR a b x.size = 0 then x.extract a.toNat b.toNat else ⟨#[]⟩
theorem mayR_cases (a b n : Int) : (mayR a b n = 0 ∧ 0 ≤ a ∧ a ≤ b ∧ b ≤ n) ∨ (mayR a b n = 3 ∧ (a < 0 ∨ b < a ∨ n < b)) := by
  unfold mayR
  by_cases h : a < 0 ∨ b < a ∨ n < b
  · rw [if_pos h]; exact .inr ⟨rfl, h⟩
  · rw [if_neg h]; exact .inl ⟨rfl, by omega⟩
theorem ins_size (x s : ByteArray) (a : Int) : (insT x s a).size ≤ x.size + s.size := by
  unfold insT
  split
  · simp only [ByteArray.size_append, ByteArray.size_extract]; omega
  · omega
theorem del_size (x : ByteArray) (a b : Int) : (delT x a b).size ≤ x.size := by
  unfold delT
  rcases mayR_cases a b x.size with ⟨h, h2⟩ | ⟨h, h2⟩
  · rw [if_pos h]; simp only [ByteArray.size_append, ByteArray.size_extract]; omega
  · rw [if_neg (by rw [h]; decide)]; omega
def InsPost (w0 : World) (D : List (Nat × Nat)) (r d : Nat) (rs : List Rp) (x : ByteArray) (m : Int) (e : Ending) (w' : World) : Prop := ∃ t, e = .returned (.int .i64 m) ∧ Tx t x ∧ Rst w0 w' D ((r, d, t) :: rs)
theorem rst_slc {w0 w : World} {D : List (Nat × Nat)} {rs : List Rp} (h : Rst w0 w D rs) {r d : Nat} {t : T} (hq : (r, d, t) ∈ rs) {x : ByteArray} (hx : Tx t x) (a b : Int) (hs : x.size ≤ 1000000) :
    Calls Tryz.prog 65 #[.pointer (some ⟨r, 0, none⟩), .int .i64 a, .int .i64 b] w fun e w' => e = .returned (.tuple #[.string (slcT x a b), .int .i64 (mayR a b x.size)]) ∧ Below w.heap.size w w' := by
  have hlen := hx.len
  have hc := h.rp _ hq
  have hat := (h.at' hq).1
  unfold slcT
  rcases mayR_cases a b x.size with ⟨hm, h1, h2, h3⟩ | ⟨hm, h1⟩
  · rw [if_pos hm, hm]
    obtain ⟨p, rfl⟩ : ∃ p : Nat, a = p := ⟨a.toNat, by omega⟩
    obtain ⟨q, rfl⟩ : ∃ q : Nat, b = q := ⟨b.toNat, by omega⟩
    have := slice_r hc hat (by rw [hlen]; exact hs) p q (by omega) (by rw [hlen]; omega)
    rw [show strOf (cutL t.text p q) = x.extract p q from str_ext (by rw [strOf_list, hx, exs_cut _ _ _ (by omega)])] at this
    exact this
  · rw [if_neg (by rw [hm]; decide), hm]
    refine (slice_bad hc hat a b (by rw [hlen]; exact hm)).mono ?_
    rintro e w' ⟨rfl, rfl⟩
    exact ⟨rfl, bl_refl _⟩
/-- What Count answers. -/
def CntIs (x : ByteArray) (a : Int) (v0 v1 v2 v3 : Int) : Prop := (mayR 0 a x.size = 0 → talOf (x.extract 0 a.toNat).data.toList = .agg #[.int .i64 v0, .int .i64 v1, .int .i64 v2, .int .i64 v3]) ∧ (mayR 0 a x.size ≠ 0 → v0 = 0 ∧ v1 = 0 ∧ v2 = 0 ∧ v3 = 0)
theorem cntIs_same {x : ByteArray} {a : Int} {v0 v1 v2 v3 u0 u1 u2 u3 : Int} (h : CntIs x a v0 v1 v2 v3) (g : CntIs x a u0 u1 u2 u3) : v0 = u0 ∧ v1 = u1 ∧ v2 = u2 ∧ v3 = u3 := by
  by_cases hm : mayR 0 a x.size = 0
  · have e := (h.1 hm).symm.trans (g.1 hm)
    injection e with e
    have e := congrArg Array.toList e
    simp at e
    exact e
  · obtain ⟨rfl, rfl, rfl, rfl⟩ := h.2 hm
    obtain ⟨rfl, rfl, rfl, rfl⟩ := g.2 hm
    exact ⟨rfl, rfl, rfl, rfl⟩
theorem rst_cnt {w0 w : World} {D : List (Nat × Nat)} {rs : List Rp} (h : Rst w0 w D rs) {r d : Nat} {t : T} (hq : (r, d, t) ∈ rs) {x : ByteArray} (hx : Tx t x) (a : Int) (hs : x.size ≤ 1000000) :
    Calls Tryz.prog 59 #[.pointer (some ⟨r, 0, none⟩), .int .i64 a] w fun e w' => ∃ v0 v1 v2 v3 : Int, CntIs x a v0 v1 v2 v3 ∧ e = .returned (.tuple #[.agg #[.int .i64 v0, .int .i64 v1, .int .i64 v2, .int .i64 v3], .int .i64 (mayR 0 a x.size)]) ∧ Below w.heap.size w w' := by
  have hlen := hx.len
  have hc := h.rp _ hq
  have hat := (h.at' hq).1
  rcases mayR_cases 0 a x.size with ⟨hm, h1, h2, h3⟩ | ⟨hm, h1⟩
  · obtain ⟨p, rfl⟩ : ∃ p : Nat, a = p := ⟨a.toNat, by omega⟩
    refine (count_r hc hat p (by rw [hlen]; omega) (by rw [hlen]; exact hs)).mono ?_
    rintro e w' ⟨v0, v1, v2, v3, hv, rfl, hb⟩
    rw [hv, hm]
    refine ⟨v0, v1, v2, v3, ⟨fun _ => ?_, fun hn => absurd hm hn⟩, rfl, hb⟩
    rw [← hv, hx, ext_take]
    rfl
  · refine (count_no hc hat a (by rw [hlen]; omega)).mono ?_
    rintro e w' ⟨rfl, hb⟩
    rw [hm]
    exact ⟨0, 0, 0, 0, ⟨fun h0 => absurd h0 (by rw [hm]; decide), fun _ => ⟨rfl, rfl, rfl, rfl⟩⟩, rfl, hb⟩
end
section
open Go.ChangeShapes Go.WideShapes Go.ChangeAt Go.RowKit
attribute [local go_sem ↓] Go.wp_at_zero Go.wp_at_succ
attribute [local go_sem] later_cell later_frozen
set_option maxRecDepth 100000
theorem bytal3 (l : List UInt8) (way : Int) (w : World) :
    Calls Tryz.prog 89 #[.agg #[.int .i64 l.length, .int .i64 (nBrk l), .int .i64 (nRun l), .int .i64 (nBig l + nRun l)], .int .i64 way] w fun e w' => e = .returned (.int .i64 (cnt way l)) ∧ Below w.heap.size w w' := bytal_any l way w
set_option maxHeartbeats 8000000 in
theorem tupto_any (way : Int) (hw : 0 ≤ way ∧ way ≤ 3) (t : T) : ∀ (m : Int) (w : World), t.At w → t.text.length ≤ 1000000 → 0 ≤ m → m ≤ 9223372036854775807 →
    Calls Tryz.prog 87 #[.pointer t.addr, .int .i64 way, .int .i64 m] w fun e w' => e = .returned (.int .i64 (upL way t.text m)) ∧ Below w.heap.size w w' := by
  induction t with
  | nil =>
    intro m w _ _ _ _
    rw [show (upL way T.nil.text m) = 0 from by simp [T.text, upL]]
    go_enter Tryz.func87, Tryz.ntmps87
    go_wp2
    go_ret
    exact ⟨rfl, bl_refl _⟩
  | node l n x p r ihl ihr =>
    intro m w ht hlen hm0 hm1
    obtain ⟨hn, hl, hr⟩ := ht
    have htx : (T.node l n x p r).text = l.text ++ (x.data.toList ++ r.text) := rfl
    have hnw : n < w.heap.size := (Array.getElem?_eq_some_iff.1 hn).1
    obtain ⟨S, hS⟩ : ∃ S, (T.node l n x p r).text = S := ⟨_, rfl⟩
    rw [hS] at hn hlen ⊢
    rw [show (T.node l n x p r).addr = some ⟨n, 0, none⟩ from rfl]
    have hsum : S.length = l.text.length + (x.size + r.text.length) := by rw [← hS, htx, List.length_append, List.length_append]; rfl
    have c0 : w.cell? ⟨n, 0, none⟩ = some (.int .i64 S.length) := by rw [Lib.cell_of_heap hn]; rfl
    have c1 : w.cell? ⟨n, 1, none⟩ = some (.int .i64 (nBrk S)) := by rw [Lib.cell_of_heap hn]; rfl
    have c2 : w.cell? ⟨n, 2, none⟩ = some (.int .i64 (nRun S)) := by rw [Lib.cell_of_heap hn]; rfl
    have c3 : w.cell? ⟨n, 3, none⟩ = some (.int .i64 (nBig S + nRun S)) := by rw [Lib.cell_of_heap hn]; rfl
    have c4 : w.cell? ⟨n, 4, none⟩ = some (.string x) := by rw [Lib.cell_of_heap hn]; rfl
    have c5 : w.cell? ⟨n, 5, none⟩ = some (.int .i64 x.size) := by rw [Lib.cell_of_heap hn]; rfl
    have c6 : w.cell? ⟨n, 6, none⟩ = some (.int .i64 (nBrk x.data.toList)) := by rw [Lib.cell_of_heap hn]; rfl
    have c7 : w.cell? ⟨n, 7, none⟩ = some (.int .i64 (nRun x.data.toList)) := by rw [Lib.cell_of_heap hn]; rfl
    have c8 : w.cell? ⟨n, 8, none⟩ = some (.int .i64 (nBig x.data.toList + nRun x.data.toList)) := by rw [Lib.cell_of_heap hn]; rfl
    have c10 : w.cell? ⟨n, 10, none⟩ = some (.pointer l.addr) := by rw [Lib.cell_of_heap hn]; rfl
    have c11 : w.cell? ⟨n, 11, none⟩ = some (.pointer r.addr) := by rw [Lib.cell_of_heap hn]; rfl
    have HS := hide (show S = l.text ++ (x.data.toList ++ r.text) from hS.symm)
    have HL := hide hl
    have HR := hide hr
    have HBY := hide (fun W => bytal3 S way W)
    obtain ⟨cw, hcw⟩ : ∃ cw, cnt way S = cw := ⟨_, rfl⟩
    have hb := cnt_bd way S
    have bl1 := cnt_bd way l.text
    have bx1 := cnt_bd way x.data.toList
    have hxs : x.data.toList.length = x.size := rfl
    rw [hcw] at HBY hb
    have HCW := hide hcw
    clear hn hl hr htx hS hcw
    by_cases h1 : cw ≤ m
    · have g1 : decide (cw ≤ m) = true := decide_eq_true h1
      rw [upL_all way S m (by rw [HCW.out]; exact h1)]
      clear h1 hsum ihl ihr hxs bl1 bx1
      go_enter Tryz.func87, Tryz.ntmps87
      go_wp2_with fail
      refine (HBY.out _).mono ?_
      rintro e w1 ⟨rfl, hb1⟩
      have c0 := cell_later hb1 c0
      go_wp2
      go_ret
      exact ⟨rfl, hb1⟩
    · have g1 : decide (cw ≤ m) = false := decide_eq_false h1
      obtain ⟨cl, hcl⟩ : ∃ cl, cnt way l.text = cl := ⟨_, rfl⟩
      have HAL := hide (fun W (hb : Below w.heap.size w W) => tall_any l W (HL.out.later l hb))
      have HBL := hide (fun W => bytal3 l.text way W)
      rw [hcl] at HBL bl1
      have hrw : IntKind.i64.wrap (m - cl) = m - cl := IntWalk.i64_in _ (by omega)
      by_cases h2 : m - cl < 0
      · have g2 : decide (m - cl < 0) = true := decide_eq_true h2
        rw [HS.out, upL_lo way l.text _ m hm0 (by rw [hcl]; omega)]
        have HI := hide (fun W (hb : Below w.heap.size w W) => ihl m W (HL.out.later l hb) (by omega) hm0 hm1)
        clear hsum ihl ihr hxs bx1 h1 h2 hcl
        go_enter Tryz.func87, Tryz.ntmps87
        go_wp2_with fail
        refine (HBY.out _).mono ?_
        rintro e w1 ⟨rfl, hb1⟩
        have c10 := cell_later hb1 c10
        go_wp2_with fail
        refine (HAL.out _ hb1).mono ?_
        unfold talOf
        rintro e w2 ⟨rfl, hb2⟩
        have hb2 := bl_trans hb1 hb2
        go_wp2_with fail
        refine (HBL.out _).mono ?_
        rintro e w3 ⟨rfl, hb3⟩
        have hb3 := bl_trans hb2 hb3
        have c10 := (hb3.cell (p := ⟨n, 10, none⟩) hnw).trans ‹w.cell? ⟨n, 10, none⟩ = _›
        go_wp2_with fail
        refine (HI.out _ hb3).mono ?_
        rintro e w4 ⟨rfl, hb4⟩
        go_wp2
        go_ret
        exact ⟨rfl, bl_trans hb3 hb4⟩
      · have g2 : decide (m - cl < 0) = false := decide_eq_false h2
        have HSZ := hide (fun W (hb : Below w.heap.size w W) => tsize_any l W (HL.out.later l hb))
        have HBX := hide (fun W => bytal3 x.data.toList way W)
        rw [hxs] at HBX bx1
        obtain ⟨cx, hcx⟩ : ∃ cx, cnt way x.data.toList = cx := ⟨_, rfl⟩
        rw [hcx] at HBX bx1
        have C5 := hide c5
        have C6 := hide c6
        have C7 := hide c7
        have C8 := hide c8
        have C10 := hide c10
        obtain ⟨A, hA⟩ : ∃ A, l.text.length = A := ⟨_, rfl⟩
        rw [hA] at HSZ hsum
        obtain ⟨q, hq⟩ : ∃ q, m - cl = q := ⟨_, rfl⟩
        have hq1 : q ≤ 9223372036854775807 := by omega
        have hrw2 := hrw.trans hq
        clear hrw
        rw [hq] at h2 g2
        by_cases h3 : q < cx
        · have g3 : decide (q < cx) = true := decide_eq_true h3
          have hup : upto way q x.data.toList = (upL way x.data.toList q : Nat) := by unfold upto; rw [if_neg (by omega)]
          have HU := upto_any x way q
          rw [hup] at HU
          obtain ⟨u, hu⟩ : ∃ u, upL way x.data.toList q = u := ⟨_, rfl⟩
          have hub : u ≤ x.size := by rw [← hu, ← hxs]; exact upL_le _ _ _
          have hval : upL way S m = A + u := by rw [HS.out, upL_hi way l.text _ m (by omega), hcl, hA, hq, upL_lo way x.data.toList _ q (by omega) (by rw [hcx]; exact h3), hu]
          rw [hval]
          rw [hu] at HU
          have HUP := hide (fun W => HU W (by omega) hq1)
          have hAu : A + u ≤ 1000000 := by omega
          clear hsum ihl ihr hxs h1 hcl hcx hA hq hup hu hval HU hub
          go_enter Tryz.func87, Tryz.ntmps87
          go_wp2_with fail
          refine (HBY.out _).mono ?_
          rintro e w1 ⟨rfl, hb1⟩
          have c10 := cell_later hb1 c10
          go_wp2_with fail
          refine (HAL.out _ hb1).mono ?_
          unfold talOf
          rintro e w2 ⟨rfl, hb2⟩
          have hb2 := bl_trans hb1 hb2
          go_wp2_with fail
          refine (HBL.out _).mono ?_
          rintro e w3 ⟨rfl, hb3⟩
          have hb3 := bl_trans hb2 hb3
          have c5 := cell_later hb3 c5
          have c6 := cell_later hb3 c6
          have c7 := cell_later hb3 c7
          have c8 := cell_later hb3 c8
          go_wp2_with fail
          refine (HBX.out _).mono ?_
          rintro e w4 ⟨rfl, hb4⟩
          have hb4 := bl_trans hb3 hb4
          have hn4 : n < w4.heap.size := Nat.lt_of_lt_of_le hnw hb4.size
          have c10 := (hb4.cell (p := ⟨n, 10, none⟩) hnw).trans C10.out
          have c4 := (hb4.cell (p := ⟨n, 4, none⟩) hnw).trans c4
          have c11 := (hb4.cell (p := ⟨n, 11, none⟩) hnw).trans c11
          have c5 := (hb4.cell (p := ⟨n, 5, none⟩) hnw).trans C5.out
          have c6 := (hb4.cell (p := ⟨n, 6, none⟩) hnw).trans C6.out
          have c7 := (hb4.cell (p := ⟨n, 7, none⟩) hnw).trans C7.out
          have c8 := (hb4.cell (p := ⟨n, 8, none⟩) hnw).trans C8.out
          go_wp2
          refine wp_region_later (by kernel_rfl) (by kernel_rfl) ?_
          repeat (go_big_quiet_step (first
            | (go_at_call 29; exact later_call_same (HSZ.out _ (bl_trans hb4 (Later.below _))))
            | (go_at_call 86; exact later_call (HUP.out _))
            | exact rfl))
          refine wpQuiet_nil ?_
          rintro w9 ⟨⟨_, hb9⟩, rfl⟩
          go_wp2
          go_ret
          exact ⟨ret_int (by omega), bl_trans hb4 hb9⟩
        · have g3 : decide (q < cx) = false := decide_eq_false h3
          have hqw : IntKind.i64.wrap (q - cx) = q - cx := IntWalk.i64_in _ (by omega)
          obtain ⟨u, hu⟩ : ∃ u, upL way r.text (q - cx) = u := ⟨_, rfl⟩
          have hub : u ≤ r.text.length := by rw [← hu]; exact upL_le _ _ _
          have hval : upL way S m = A + (x.size + u) := by rw [HS.out, upL_hi way l.text _ m (by omega), hcl, hA, hq, upL_hi way x.data.toList _ q (by omega), hcx, hxs, hu]
          rw [hval]
          have HI := hide (fun W (hb : Below w.heap.size w W) => ihr (q - cx) W (HR.out.later r hb) (by omega) (by omega) (by omega))
          rw [hu] at HI
          have hAu : A + (x.size + u) ≤ 1000000 := by omega
          clear hsum ihl ihr hxs h1 hcl hcx hA hq hu hval hub
          go_enter Tryz.func87, Tryz.ntmps87
          go_wp2_with fail
          refine (HBY.out _).mono ?_
          rintro e w1 ⟨rfl, hb1⟩
          have c10 := cell_later hb1 c10
          go_wp2_with fail
          refine (HAL.out _ hb1).mono ?_
          unfold talOf
          rintro e w2 ⟨rfl, hb2⟩
          have hb2 := bl_trans hb1 hb2
          go_wp2_with fail
          refine (HBL.out _).mono ?_
          rintro e w3 ⟨rfl, hb3⟩
          have hb3 := bl_trans hb2 hb3
          have c5 := cell_later hb3 c5
          have c6 := cell_later hb3 c6
          have c7 := cell_later hb3 c7
          have c8 := cell_later hb3 c8
          go_wp2_with fail
          refine (HBX.out _).mono ?_
          rintro e w4 ⟨rfl, hb4⟩
          have hb4 := bl_trans hb3 hb4
          have hn4 : n < w4.heap.size := Nat.lt_of_lt_of_le hnw hb4.size
          have c10 := (hb4.cell (p := ⟨n, 10, none⟩) hnw).trans C10.out
          have c4 := (hb4.cell (p := ⟨n, 4, none⟩) hnw).trans c4
          have c11 := (hb4.cell (p := ⟨n, 11, none⟩) hnw).trans c11
          have c5 := (hb4.cell (p := ⟨n, 5, none⟩) hnw).trans C5.out
          have c6 := (hb4.cell (p := ⟨n, 6, none⟩) hnw).trans C6.out
          have c7 := (hb4.cell (p := ⟨n, 7, none⟩) hnw).trans C7.out
          have c8 := (hb4.cell (p := ⟨n, 8, none⟩) hnw).trans C8.out
          go_wp2
          refine wp_region_later (by kernel_rfl) (by kernel_rfl) ?_
          repeat (go_big_quiet_step (first
            | (go_at_call 29; exact later_call_same (HSZ.out _ (bl_trans hb4 (Later.below _))))
            | (go_at_call 87; exact later_call (HI.out _ (bl_trans hb4 (Later.below _))))
            | (go_at_call 89; exact later_call (HBX.out _))
            | exact rfl))
          refine wpQuiet_nil ?_
          rintro w9 ⟨⟨_, hb9⟩, rfl⟩
          go_wp2
          go_ret
          exact ⟨ret_int (by omega), bl_trans hb4 hb9⟩
end
section
open Go.ChangeShapes Go.WideShapes Go.ChangeAt Go.RowKit
attribute [local go_sem ↓] Go.wp_at_zero Go.wp_at_succ
set_option maxRecDepth 100000
theorem rst_upto {w0 w : World} {D : List (Nat × Nat)} {rs : List Rp} (h : Rst w0 w D rs) {r d : Nat} {t : T} (hq : (r, d, t) ∈ rs) {x : ByteArray} (hx : Tx t x) (way n : Int) (hn : n ≤ 9223372036854775807) (hs : x.size ≤ 1000000) :
    Calls Tryz.prog 60 #[.pointer (some ⟨r, 0, none⟩), .int .i64 way, .int .i64 n] w fun e w' => e = .returned (.int .i64 (upto way n x.data.toList)) ∧ Below w.heap.size w w' := by
  have hlen := hx.len
  have hc := h.rp _ hq
  have hat := (h.at' hq).1
  have HU := hide (upto_any ⟨#[]⟩ way n w (by decide) hn)
  by_cases hb : n < 0 ∨ way < 0 ∨ 3 < way
  · have e0 : upto way n (⟨#[]⟩ : ByteArray).data.toList = -1 := by unfold upto; rw [if_pos hb]
    have e1 : upto way n x.data.toList = -1 := by unfold upto; rw [if_pos hb]
    rw [e1]
    rw [e0] at HU
    clear e0 e1 hb hc hat hlen hx h hq
    go_enter Tryz.func60, Tryz.ntmps60
    go_wp2_with fail
    refine HU.out.mono ?_
    rintro e w1 ⟨rfl, hb1⟩
    go_wp2
    go_ret
    exact ⟨rfl, hb1⟩
  · have e0 : upto way n (⟨#[]⟩ : ByteArray).data.toList = 0 := by unfold upto; rw [if_neg hb]; rfl
    have e1 : upto way n x.data.toList = (upL way t.text n : Nat) := by unfold upto; rw [if_neg hb, hx]
    rw [e1]
    rw [e0] at HU
    have HT := hide (fun W (hb2 : Below w.heap.size w W) => tupto_any way (by omega) t n W (hat.later t hb2) (by rw [hlen]; exact hs) (by omega) hn)
    obtain ⟨c0, c1, _, _⟩ := rp_cells hc
    have hrw := rp_lt hc
    obtain ⟨u, hu⟩ : ∃ u, upL way t.text n = u := ⟨_, rfl⟩
    rw [hu] at HT ⊢
    clear hu e0 e1 hb hc hat hlen hx h hq
    generalize t.addr = ta at *
    go_enter Tryz.func60, Tryz.ntmps60
    go_wp2_with fail
    refine HU.out.mono ?_
    rintro e w1 ⟨rfl, hb1⟩
    have c1 := cell_later hb1 c1
    go_wp2_with fail
    refine (HT.out _ hb1).mono ?_
    rintro e w2 ⟨rfl, hb2⟩
    go_wp2
    go_ret
    exact ⟨rfl, bl_trans hb1 hb2⟩
end
end Go.Proofs.YtjcmbnmejkhcjaaGreat
