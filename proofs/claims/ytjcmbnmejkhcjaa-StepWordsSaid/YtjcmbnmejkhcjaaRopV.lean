/- Ropes and dice beside one another, since a law's first world. -/
import Derived.Test.YtjcmbnmejkhcjaaRopU
namespace Go.Proofs.Ytjcmbnmejkhcjaa
open Go.ChangeShapes Go.WideShapes Go.ChangeAt Go.RowKit
attribute [local go_sem ↓] Go.wp_at_zero Go.wp_at_succ
set_option maxRecDepth 100000
abbrev Rp := Nat × Nat × T
def trs (rs : List Rp) : List T := rs.map (·.2.2)
def RR (D : List (Nat × Nat)) (rs : List Rp) : List Nat := D.map (·.1) ++ (D.map (·.2) ++ rs.map (·.1))
theorem rr_d {D : List (Nat × Nat)} {rs : List Rp} {p : Nat × Nat} (h : p ∈ D) : p.1 ∈ RR D rs := List.mem_append_left _ (List.mem_map_of_mem h)
theorem rr_g {D : List (Nat × Nat)} {rs : List Rp} {p : Nat × Nat} (h : p ∈ D) : p.2 ∈ RR D rs := List.mem_append_right _ (List.mem_append_left _ (List.mem_map_of_mem h))
theorem rr_r {D : List (Nat × Nat)} {rs : List Rp} {q : Rp} (h : q ∈ rs) : q.1 ∈ RR D rs := List.mem_append_right _ (List.mem_append_right _ (List.mem_map_of_mem h))
theorem rr_mem {D : List (Nat × Nat)} {rs : List Rp} {k : Nat} : k ∈ RR D rs ↔ (∃ p ∈ D, p.1 = k) ∨ (∃ p ∈ D, p.2 = k) ∨ ∃ q ∈ rs, q.1 = k := by
  unfold RR
  simp only [List.mem_append, List.mem_map]
/-- Ropes of their own since world w0, the dice that they draw from. -/
structure Rst (w0 w : World) (D : List (Nat × Nat)) (rs : List Rp) : Prop where
  bel : Below w0.heap.size w0 w
  dc : ∀ p ∈ D, ∃ rest last, DiceAt w p.1 p.2 rest last
  rp : ∀ q ∈ rs, RpC w q.1 q.2.1 q.2.2
  rsv : ∀ k ∈ RR D rs, w0.heap.size ≤ k ∧ k < w.heap.size
  nd : (rs.map (·.1)).Nodup
  rd : ∀ q ∈ rs, ∀ p ∈ D, q.1 ≠ p.1 ∧ q.1 ≠ p.2
  dd : D.Pairwise fun p q => p.1 ≠ q.1 ∧ p.1 ≠ q.2 ∧ p.2 ≠ q.1
  own : ∀ t ∈ trs rs, t.At w ∧ Fit t
  tn : (bks (trs rs)).Nodup
  off : ∀ k ∈ bks (trs rs), k ∉ RR D rs
  src : ∀ k ∈ bks (trs rs), w0.heap.size ≤ k
theorem rst_start (w : World) : Rst w w [] [] := ⟨bl_refl w, by simp, by simp, by simp [RR], by simp, by simp, by simp, by simp [trs], by simp [trs, bks], by simp [trs, bks], by simp [trs, bks]⟩
theorem chg_below {w0 w : World} {d : Nat} (h : Chg w0 w [d]) (hd : w0.heap.size ≤ d) : Below w0.heap.size w0 w :=
  ⟨h.os, h.tape, h.output, h.size, fun k hk => h.block k (Nat.lt_of_lt_of_le hk (Nat.le_refl _)) (by rw [List.mem_singleton]; omega)⟩
theorem below_chg {w0 w : World} {d : Nat} (h : Below w0.heap.size w0 w) : Chg w0 w [d] :=
  ⟨h.os, h.tape, h.output, h.size, fun k hk _ => h.block k hk⟩
theorem dd_ne {D : List (Nat × Nat)} (h : D.Pairwise fun p q => p.1 ≠ q.1 ∧ p.1 ≠ q.2 ∧ p.2 ≠ q.1) {p q : Nat × Nat} (hp : p ∈ D) (hq : q ∈ D) (hn : p ≠ q) : p.1 ≠ q.1 ∧ q.2 ≠ p.1 := by
  have hs : ∀ {a b : Nat × Nat}, a ∈ D → b ∈ D → a ≠ b → (a.1 ≠ b.1 ∧ a.1 ≠ b.2 ∧ a.2 ≠ b.1) ∨ (b.1 ≠ a.1 ∧ b.1 ≠ a.2 ∧ b.2 ≠ a.1) := by
    clear hp hq hn
    intro a b ha hb hab
    induction D with
    | nil => cases ha
    | cons c l ih =>
      obtain ⟨h1, h2⟩ := List.pairwise_cons.1 h
      rcases List.mem_cons.1 ha with rfl | ha2
      · rcases List.mem_cons.1 hb with rfl | hb2
        · exact absurd rfl hab
        · exact .inl (h1 b hb2)
      · rcases List.mem_cons.1 hb with rfl | hb2
        · exact .inr (h1 a ha2)
        · exact ih h2 ha2 hb2
  rcases hs hp hq hn with x | x
  · exact ⟨x.1, Ne.symm x.2.1⟩
  · exact ⟨Ne.symm x.1, x.2.2⟩
theorem Rst.live {w0 w : World} {D : List (Nat × Nat)} {rs : List Rp} (h : Rst w0 w D rs) {d g : Nat} (hd : (d, g) ∈ D) : Live w0 [] (RR D rs) d g w (trs rs) :=
  ⟨h.dc _ hd, rr_d hd, rr_g hd, fun k hk => (h.rsv k hk).2, h.own, h.tn, h.off, fun k hk => .inr (h.src k hk), below_chg h.bel⟩
theorem Rst.rpIn {w0 w : World} {D : List (Nat × Nat)} {rs : List Rp} (h : Rst w0 w D rs) {d g : Nat} (hd : (d, g) ∈ D) {q : Rp} (hq : q ∈ rs) : RpIn w0 [] (RR D rs) d g q.1 :=
  ⟨rr_r hq, (h.rd q hq _ hd).1, (h.rd q hq _ hd).2, .inr (h.rsv _ (rr_r hq)).1⟩
/-- What a deed leaves: the ropes as the list now says; what is reserved and not of it as before. -/
theorem Rst.back {w0 w w' : World} {D : List (Nat × Nat)} {rs us : List Rp} (h : Rst w0 w D rs) {d g : Nat} (hd : (d, g) ∈ D) (hl : Live w0 [] (RR D us) d g w' (trs us))
    (hr : ∀ q ∈ us, RpC w' q.1 q.2.1 q.2.2) (hn : (us.map (·.1)).Nodup) (hrd : ∀ q ∈ us, ∀ p ∈ D, q.1 ≠ p.1 ∧ q.1 ≠ p.2) (hs : ∀ q ∈ us, w0.heap.size ≤ q.1)
    (hk : ∀ p ∈ D, p.1 ≠ d → p.2 ≠ d → w'.heap[p.1]? = w.heap[p.1]? ∧ w'.heap[p.2]? = w.heap[p.2]?) : Rst w0 w' D us := by
  have hdw := (h.rsv d (rr_d hd)).1
  refine ⟨chg_below hl.chg hdw, fun p hp => ?_, hr, fun k hk => ⟨?_, hl.hR k hk⟩, hn, hrd, h.dd, hl.own, hl.nd, hl.off, fun k hk => (hl.src k hk).resolve_left (by simp)⟩
  · by_cases hpd : p = (d, g)
    · subst hpd; exact hl.dice
    · obtain ⟨n1, n2⟩ := dd_ne h.dd hd hp (Ne.symm hpd)
      obtain ⟨rest, last, hx⟩ := h.dc p hp
      obtain ⟨k1, k2⟩ := hk p hp (Ne.symm n1) n2
      exact ⟨rest, last, hx.kept k1 k2⟩
  · rcases rr_mem.1 hk with ⟨p, hp, rfl⟩ | ⟨p, hp, rfl⟩ | ⟨q, hq, rfl⟩
    · exact (h.rsv _ (rr_d hp)).1
    · exact (h.rsv _ (rr_g hp)).1
    · exact hs q hq
theorem Rst.bl {w0 w w' : World} {D : List (Nat × Nat)} {rs : List Rp} (h : Rst w0 w D rs) (hb : Below w.heap.size w w') : Rst w0 w' D rs := by
  refine ⟨bl_trans h.bel hb, fun p hp => ?_, fun q hq => rp_bl (h.rp q hq) hb, fun k hk => ⟨(h.rsv k hk).1, Nat.lt_of_lt_of_le (h.rsv k hk).2 hb.size⟩, h.nd, h.rd, h.dd, fun t ht => ⟨(h.own t ht).1.later t hb, (h.own t ht).2⟩, h.tn, h.off, h.src⟩
  obtain ⟨rest, last, hx⟩ := h.dc p hp
  exact ⟨rest, last, hx.kept (hb.block _ (h.rsv _ (rr_d hp)).2) (hb.block _ (h.rsv _ (rr_g hp)).2)⟩
theorem Rst.perm {w0 w : World} {D : List (Nat × Nat)} {rs us : List Rp} (h : Rst w0 w D rs) (hp : rs.Perm us) : Rst w0 w D us := by
  have ht : (trs rs).Perm (trs us) := hp.map _
  have hb : (bks (trs rs)).Perm (bks (trs us)) := ht.flatMap_right _
  have hr : ∀ k, k ∈ RR D us ↔ k ∈ RR D rs := fun k => by rw [rr_mem, rr_mem]; simp only [hp.mem_iff]
  exact ⟨h.bel, h.dc, fun q hq => h.rp q (hp.mem_iff.2 hq), fun k hk => h.rsv k ((hr k).1 hk), (hp.map _).nodup_iff.1 h.nd, fun q hq => h.rd q (hp.mem_iff.2 hq), h.dd, fun t k => h.own t (ht.mem_iff.2 k), hb.nodup_iff.1 h.tn, fun k hk hm => h.off k (hb.mem_iff.2 hk) ((hr k).1 hm), fun k hk => h.src k (hb.mem_iff.2 hk)⟩
theorem Rst.swap {w0 w : World} {D : List (Nat × Nat)} {a b : Rp} {rs : List Rp} (h : Rst w0 w D (a :: b :: rs)) : Rst w0 w D (b :: a :: rs) := h.perm (.swap _ _ _)
theorem Rst.drop {w0 w : World} {D : List (Nat × Nat)} {q : Rp} {rs : List Rp} (h : Rst w0 w D (q :: rs)) : Rst w0 w D rs := by
  have hb : ∀ k ∈ bks (trs rs), k ∈ bks (trs (q :: rs)) := fun k hk => by unfold trs; rw [List.map_cons, bks_cons]; exact List.mem_append_right _ hk
  have hr : ∀ k ∈ RR D rs, k ∈ RR D (q :: rs) := fun k hk => by
    rcases rr_mem.1 hk with x | x | ⟨p, hp, x⟩
    · exact rr_mem.2 (.inl x)
    · exact rr_mem.2 (.inr (.inl x))
    · exact rr_mem.2 (.inr (.inr ⟨p, List.mem_cons_of_mem _ hp, x⟩))
  have htn := h.tn
  unfold trs at htn
  rw [List.map_cons, bks_cons, List.nodup_append] at htn
  exact ⟨h.bel, h.dc, fun p hp => h.rp p (List.mem_cons_of_mem _ hp), fun k hk => h.rsv k (hr k hk), (List.nodup_cons.1 h.nd).2, fun p hp => h.rd p (List.mem_cons_of_mem _ hp), h.dd, fun t ht => h.own t (List.mem_cons_of_mem _ ht), htn.2.1, fun k hk hm => h.off k (hb k hk) (hr k hm), fun k hk => h.src k (hb k hk)⟩
/-- A new dice. -/
theorem Rst.dice {w0 w w' : World} {D : List (Nat × Nat)} {rs : List Rp} (h : Rst w0 w D rs) (hb : Below w.heap.size w w') {d g : Nat} {rest : List Int} {last : Int} (hd : DiceAt w' d g rest last) (h1 : w.heap.size ≤ d) (h2 : w.heap.size ≤ g) (h3 : d < w'.heap.size) (h4 : g < w'.heap.size) : Rst w0 w' ((d, g) :: D) rs := by
  have k := h.bl hb
  have hsz := h.bel.size
  have hlt : ∀ x ∈ RR D rs, x < w.heap.size := fun x hx => (h.rsv x hx).2
  have hcs : ∀ x ∈ RR ((d, g) :: D) rs, x = d ∨ x = g ∨ x ∈ RR D rs := fun x hx => by
    rcases rr_mem.1 hx with ⟨p, hp, rfl⟩ | ⟨p, hp, rfl⟩ | ⟨q, hq, rfl⟩
    · rcases List.mem_cons.1 hp with rfl | hp
      · exact .inl rfl
      · exact .inr (.inr (rr_d hp))
    · rcases List.mem_cons.1 hp with rfl | hp
      · exact .inr (.inl rfl)
      · exact .inr (.inr (rr_g hp))
    · exact .inr (.inr (rr_r hq))
  refine ⟨k.bel, fun p hp => ?_, k.rp, fun x hx => ?_, k.nd, fun q hq p hp => ?_, List.pairwise_cons.2 ⟨fun p hp => ?_, k.dd⟩, k.own, k.tn, fun x hx hm => ?_, k.src⟩
  · rcases List.mem_cons.1 hp with rfl | hp
    · exact ⟨rest, last, hd⟩
    · exact k.dc p hp
  · rcases hcs x hx with rfl | rfl | hx
    · exact ⟨by omega, h3⟩
    · exact ⟨by omega, h4⟩
    · exact k.rsv x hx
  · have hq1 := hlt q.1 (rr_r hq)
    rcases List.mem_cons.1 hp with rfl | hp
    · exact ⟨by simp only; omega, by simp only; omega⟩
    · exact k.rd q hq p hp
  · have h5 := hlt p.1 (rr_d hp)
    have h6 := hlt p.2 (rr_g hp)
    exact ⟨by simp only; omega, by simp only; omega, by simp only; omega⟩
  · rcases hcs x hm with rfl | rfl | hm
    · obtain ⟨t, ht, hk⟩ := List.mem_flatMap.1 hx
      have := (h.own t ht).1.blocks_lt t _ hk
      omega
    · obtain ⟨t, ht, hk⟩ := List.mem_flatMap.1 hx
      have := (h.own t ht).1.blocks_lt t _ hk
      omega
    · exact k.off x hx hm
/-- A tree's text is this string. -/
def Tx (t : T) (x : ByteArray) : Prop := t.text = x.data.toList
theorem Tx.len {t : T} {x : ByteArray} (h : Tx t x) : t.text.length = x.size := by rw [h]; rfl
theorem Tx.str {t : T} {x : ByteArray} (h : Tx t x) : strOf t.text = x := by rw [h]; exact strOf_of x
theorem Tx.of {t : T} {l : List UInt8} {x : ByteArray} (h : t.text = l) (hx : l = x.data.toList) : Tx t x := h.trans hx
theorem exs_cut (x : ByteArray) (a b : Nat) (hab : a ≤ b) : cutL x.data.toList a b = (x.extract a b).data.toList := by
  unfold cutL
  rw [ByteArray.data_extract]
  simp [List.take_drop, show a + (b - a) = b by omega]
theorem keep_dice {D : List (Nat × Nat)} {rs : List Rp} {R : List Nat} {d r : Nat} {w w' : World} (hR : ∀ k ∈ RR D rs, k ∈ R) (hr : ∀ p ∈ D, r ≠ p.1 ∧ r ≠ p.2) (hk : Keep2 R d r w w') : ∀ p ∈ D, p.1 ≠ d → p.2 ≠ d → w'.heap[p.1]? = w.heap[p.1]? ∧ w'.heap[p.2]? = w.heap[p.2]? :=
  fun p hp h1 h2 => ⟨hk _ (hR _ (rr_d hp)) h1 (Ne.symm (hr p hp).1), hk _ (hR _ (rr_g hp)) h2 (Ne.symm (hr p hp).2)⟩
theorem rst_one {w0 w w' : World} {D : List (Nat × Nat)} {r d g : Nat} {t t' : T} {rs : List Rp} (h : Rst w0 w D ((r, d, t) :: rs)) (hd : (d, g) ∈ D) (hl : Live w0 [] (RR D ((r, d, t) :: rs)) d g w' (t' :: trs rs)) (hc : RpC w' r d t') (hk : Keep2 (RR D ((r, d, t) :: rs)) d r w w') : Rst w0 w' D ((r, d, t') :: rs) := by
  refine h.back hd hl (fun q hq => ?_) h.nd (fun q hq => ?_) (fun q hq => ?_) (keep_dice (fun _ x => x) (h.rd (r, d, t) List.mem_cons_self) hk)
  · rcases List.mem_cons.1 hq with rfl | hq
    · exact hc
    · have hne : q.1 ≠ r := fun e => (List.nodup_cons.1 h.nd).1 (by simp only; rw [← e]; exact List.mem_map_of_mem hq)
      exact (hk q.1 (rr_r (List.mem_cons_of_mem _ hq)) (h.rd q (List.mem_cons_of_mem _ hq) _ hd).1 hne).trans (h.rp q (List.mem_cons_of_mem _ hq))
  · rcases List.mem_cons.1 hq with rfl | hq
    · exact h.rd (r, d, t) List.mem_cons_self
    · exact h.rd q (List.mem_cons_of_mem _ hq)
  · rcases List.mem_cons.1 hq with rfl | hq
    · exact (h.rsv r (rr_r (q := (r, d, t)) List.mem_cons_self)).1
    · exact (h.rsv _ (rr_r (List.mem_cons_of_mem _ hq))).1
/-- What Insert and Delete leave. -/
def OnePost (w0 : World) (D : List (Nat × Nat)) (r d : Nat) (rs : List Rp) (x : ByteArray) (e : Ending) (w' : World) : Prop := ∃ t, e = .returned (.int .i64 0) ∧ Tx t x ∧ Rst w0 w' D ((r, d, t) :: rs)
/-- One rope more. -/
theorem rst_more {w0 w w' : World} {D : List (Nat × Nat)} {r d g : Nat} {t : T} {rs us : List Rp} (h : Rst w0 w D rs) (hd : (d, g) ∈ D) (hr : w.heap.size ≤ r) (hus : us.map (·.1) = rs.map (·.1)) (hl : Live w0 [] (r :: RR D rs) d g w' (trs ((r, d, t) :: us))) (hc : RpC w' r d t) (hrp : ∀ q ∈ us, RpC w' q.1 q.2.1 q.2.2)
    (hk : ∀ p ∈ D, p.1 ≠ d → p.2 ≠ d → w'.heap[p.1]? = w.heap[p.1]? ∧ w'.heap[p.2]? = w.heap[p.2]?) : Rst w0 w' D ((r, d, t) :: us) := by
  have hlt : ∀ x ∈ RR D rs, x < w.heap.size := fun x hx => (h.rsv x hx).2
  have hmem : ∀ q ∈ us, ∃ q' ∈ rs, q'.1 = q.1 := fun q hq => by
    have h1 : q.1 ∈ us.map (·.1) := List.mem_map_of_mem hq
    rw [hus] at h1
    exact List.mem_map.1 h1
  have hrr : ∀ k, k ∈ RR D ((r, d, t) :: us) ↔ k ∈ r :: RR D rs := fun k => by
    unfold RR
    rw [List.map_cons, hus]
    simp only [List.mem_append, List.mem_cons]
    constructor
    · rintro (x | x | x | x)
      · exact .inr (.inl x)
      · exact .inr (.inr (.inl x))
      · exact .inl x
      · exact .inr (.inr (.inr x))
    · rintro (x | x | x | x)
      · exact .inr (.inr (.inl x))
      · exact .inl x
      · exact .inr (.inl x)
      · exact .inr (.inr (.inr x))
  have hl2 : Live w0 [] (RR D ((r, d, t) :: us)) d g w' (trs ((r, d, t) :: us)) := ⟨hl.dice, rr_d hd, rr_g hd, fun k hk => hl.hR k ((hrr k).1 hk), hl.own, hl.nd, fun k hk hm => hl.off k hk ((hrr k).1 hm), hl.src, hl.chg⟩
  refine h.back hd hl2 (fun q hq => ?_) ?_ (fun q hq p hp => ?_) (fun q hq => ?_) hk
  · rcases List.mem_cons.1 hq with rfl | hq
    · exact hc
    · exact hrp q hq
  · rw [List.map_cons, hus, List.nodup_cons]
    refine ⟨fun hm => ?_, h.nd⟩
    obtain ⟨q, hq, e⟩ := List.mem_map.1 hm
    have := hlt q.1 (rr_r hq)
    simp only at e
    omega
  · rcases List.mem_cons.1 hq with rfl | hq
    · have h5 := hlt p.1 (rr_d hp)
      have h6 := hlt p.2 (rr_g hp)
      exact ⟨by simp only; omega, by simp only; omega⟩
    · obtain ⟨q', hq', e⟩ := hmem q hq
      rw [← e]
      exact h.rd q' hq' p hp
  · have hsz := h.bel.size
    rcases List.mem_cons.1 hq with rfl | hq
    · simp only; omega
    · obtain ⟨q', hq', e⟩ := hmem q hq
      rw [← e]
      exact (h.rsv _ (rr_r hq')).1
def CutsPost (w0 : World) (D : List (Nat × Nat)) (r d : Nat) (rs : List Rp) (x y : ByteArray) (e : Ending) (w' : World) : Prop := ∃ (o : Nat) (a b : T), e = .returned (.tuple #[.pointer (some ⟨o, 0, none⟩), .int .i64 0]) ∧ o ≠ r ∧ Tx a x ∧ Tx b y ∧ Rst w0 w' D ((o, d, b) :: (r, d, a) :: rs)
def NewsPost (w0 : World) (D : List (Nat × Nat)) (d : Nat) (rs : List Rp) (x : ByteArray) (e : Ending) (w' : World) : Prop := ∃ (r : Nat) (t : T), e = .returned (.tuple #[.pointer (some ⟨r, 0, none⟩), .int .i64 0]) ∧ (∀ q ∈ rs, q.1 ≠ r) ∧ Tx t x ∧ Rst w0 w' D ((r, d, t) :: rs)
theorem rst_new {w0 w : World} {D : List (Nat × Nat)} {d g : Nat} {rs : List Rp} (h : Rst w0 w D rs) (hd : (d, g) ∈ D) (p off c : Nat) (xs : List ByteArray) (hp : p < w.heap.size) (hcells : ∀ (j : Nat) z, xs[j]? = some z → w.cell? ⟨p, off + j, none⟩ = some (.string z)) (hc : xs.length ≤ c) (hn : xs.length ≤ 1000) (x : ByteArray) (hx : cat xs = x.data.toList) (hlen : x.size ≤ 65536) :
    Calls Try.prog 20 #[.pointer (some ⟨d, 0, none⟩), .slice (some ⟨p, off, none⟩) xs.length c] w (NewsPost w0 D d rs x) := by
  refine (new_r (h.live hd) p off c xs hp hcells hc hn (by rw [hx]; exact hlen)).mono ?_
  rintro e w' ⟨r, t, rfl, hr, ht, hl, hco, hk⟩
  refine ⟨r, t, rfl, fun q hq e => ?_, Tx.of ht hx, rst_more (us := rs) h hd hr rfl hl hco (fun q hq => ?_) (keep_dice (r := w.heap.size) (fun _ x => x) (fun p hp => ?_) (keep2_of hk _))⟩
  · have := (h.rsv _ (rr_r hq)).2; omega
  · exact (hk q.1 (rr_r hq) (h.rd q hq _ hd).1).trans (h.rp q hq)
  · have h5 := (h.rsv _ (rr_d hp)).2
    have h6 := (h.rsv _ (rr_g hp)).2
    exact ⟨by omega, by omega⟩
def JoinsPost (w0 : World) (D : List (Nat × Nat)) (r d o d2 : Nat) (rs : List Rp) (x : ByteArray) (e : Ending) (w' : World) : Prop := ∃ t : T, e = .returned (.int .i64 0) ∧ Tx t x ∧ Rst w0 w' D ((r, d, t) :: (o, d2, .nil) :: rs)
theorem Rst.at' {w0 w : World} {D : List (Nat × Nat)} {rs : List Rp} (h : Rst w0 w D rs) {q : Rp} (hq : q ∈ rs) : q.2.2.At w ∧ Fit q.2.2 := h.own _ (List.mem_map_of_mem hq)
theorem rst_len {w0 w : World} {D : List (Nat × Nat)} {rs : List Rp} (h : Rst w0 w D rs) {r d : Nat} {t : T} (hq : (r, d, t) ∈ rs) {x : ByteArray} (hx : Tx t x) :
    Calls Try.prog 24 #[.pointer (some ⟨r, 0, none⟩)] w fun e w' => e = .returned (.int .i64 x.size) ∧ w = w' := by
  have := len_r (h.rp _ hq) (h.at' hq).1
  rw [hx.len] at this
  exact this
theorem T.ps_le (t : T) (h : ∀ q ∈ t.ps, PcOk q) : t.ps.length ≤ t.text.length := by
  have h2 := t.text_ps
  rw [h2]
  clear h2
  generalize t.ps = l at *
  induction l with
  | nil => simp
  | cons a l ih =>
    have h3 := ih (fun q hq => h q (List.mem_cons_of_mem _ hq))
    have h4 := (h a List.mem_cons_self).1.1
    have h5 : a.2.1.data.toList.length = a.2.1.size := rfl
    simp only [txP, List.flatMap_cons, List.length_append, List.length_cons] at h3 ⊢
    omega
end Go.Proofs.Ytjcmbnmejkhcjaa
