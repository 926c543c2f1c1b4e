/- Trees of pieces of their own, beside one another, and the dice they draw from: how they go on together. -/
import Derived.Test.YtjcmbnmejkhcjaaGreatTreeF
namespace Go.Proofs.YtjcmbnmejkhcjaaGreat
open Go.ChangeShapes Go.WideShapes Go.ChangeAt Go.RowKit
def bks (ts : List T) : List Nat := ts.flatMap T.blocks
theorem bks_cons (t : T) (ts : List T) : bks (t :: ts) = t.blocks ++ bks ts := by simp [bks]
theorem bks_app (ts us : List T) : bks (ts ++ us) = bks ts ++ bks us := by simp [bks]
theorem bks_nil : bks [] = [] := rfl
/-- What is reserved (the dice's blocks, ropes) but for the dice's cell stays. -/
def Keeps (R : List Nat) (d : Nat) (w w' : World) : Prop := ∀ k ∈ R, k ≠ d → w'.heap[k]? = w.heap[k]?
/-- Trees of pieces that go on since world w0, where the blocks S0 were theirs; R is reserved, the dice lies in d and g. -/
structure Live (w0 : World) (S0 R : List Nat) (d g : Nat) (w : World) (ts : List T) : Prop where
  dice : ∃ rest last, DiceAt w d g rest last
  dR : d ∈ R
  gR : g ∈ R
  hR : ∀ k ∈ R, k < w.heap.size
  own : ∀ t ∈ ts, t.At w ∧ Fit t
  nd : (bks ts).Nodup
  off : ∀ k ∈ bks ts, k ∉ R
  src : ∀ k ∈ bks ts, k ∈ S0 ∨ w0.heap.size ≤ k
  chg : Chg w0 w (d :: S0)
theorem keeps_refl (R : List Nat) (d : Nat) (w : World) : Keeps R d w w := fun _ _ _ => rfl
theorem Keeps.trans {R : List Nat} {d : Nat} {a b c : World} (h : Keeps R d a b) (k : Keeps R d b c) : Keeps R d a c := fun x hx hn => (k x hx hn).trans (h x hx hn)
theorem bks_mem {ts : List T} {t : T} (h : t ∈ ts) {k : Nat} (hk : k ∈ t.blocks) : k ∈ bks ts := List.mem_flatMap.2 ⟨t, h, hk⟩
theorem Live.perm {w0 : World} {S0 R : List Nat} {d g : Nat} {w : World} {ts us : List T} (h : Live w0 S0 R d g w ts) (hp : ts.Perm us) : Live w0 S0 R d g w us := by
  have hb : (bks ts).Perm (bks us) := hp.flatMap_right _
  exact ⟨h.dice, h.dR, h.gR, h.hR, fun t ht => h.own t (hp.mem_iff.2 ht), hb.nodup_iff.1 h.nd, fun k hk => h.off k (hb.mem_iff.2 hk), fun k hk => h.src k (hb.mem_iff.2 hk), h.chg⟩
theorem Live.drop {w0 : World} {S0 R : List Nat} {d g : Nat} {w : World} {ts : List T} {t : T} (h : Live w0 S0 R d g w (t :: ts)) : Live w0 S0 R d g w ts := by
  have hb : ∀ k ∈ bks ts, k ∈ bks (t :: ts) := fun k hk => by rw [bks_cons]; exact List.mem_append_right _ hk
  have hnd := h.nd
  rw [bks_cons, List.nodup_append] at hnd
  exact ⟨h.dice, h.dR, h.gR, h.hR, fun s hs => h.own s (List.mem_cons_of_mem _ hs), hnd.2.1, fun k hk => h.off k (hb k hk), fun k hk => h.src k (hb k hk), h.chg⟩
theorem Live.at' {w0 : World} {S0 R : List Nat} {d g : Nat} {w : World} {ts : List T} {t : T} (h : Live w0 S0 R d g w ts) (ht : t ∈ ts) : t.At w := (h.own t ht).1
theorem live_lt {w0 : World} {S0 R : List Nat} {d g : Nat} {w : World} {ts : List T} (h : Live w0 S0 R d g w ts) : ∀ k ∈ bks ts, k < w.heap.size := fun k hk => by
  obtain ⟨t, ht, hk⟩ := List.mem_flatMap.1 hk
  exact (h.at' ht).blocks_lt t k hk
/-- Some trees become others; all else stays. -/
theorem Live.step {w0 : World} {S0 R : List Nat} {d g : Nat} {w w' : World} {old new ts : List T} (h : Live w0 S0 R d g w (old ++ ts)) (hc : Chg w w' (bks old)) (hn : ∀ t ∈ new, t.At w' ∧ Fit t) (hb : (bks new).Nodup) (hs : ∀ k ∈ bks new, k ∈ bks old ∨ w.heap.size ≤ k) :
    Live w0 S0 R d g w' (new ++ ts) ∧ Keeps R d w w' := by
  have hnd := h.nd
  rw [bks_app, List.nodup_append] at hnd
  obtain ⟨_, h2, h3⟩ := hnd
  have hlt := live_lt h
  have hoff : ∀ k ∈ R, k ∉ bks old := fun k hk hm => h.off k (by rw [bks_app]; exact List.mem_append_left _ hm) hk
  have hk : Keeps R d w w' := fun k hk _ => hc.block k (h.hR k hk) (hoff k hk)
  have hts : ∀ k ∈ bks ts, k ∉ bks old := fun k hk hm => h3 k hm k hk rfl
  refine ⟨⟨?_, h.dR, h.gR, fun k hk => Nat.lt_of_lt_of_le (h.hR k hk) hc.size, fun t ht => ?_, ?_, fun k hk => ?_, fun k hk => ?_, ?_⟩, hk⟩
  · obtain ⟨rest, last, hd⟩ := h.dice
    exact ⟨rest, last, hd.kept (hc.block d (h.hR d h.dR) (hoff d h.dR)) (hc.block g (h.hR g h.gR) (hoff g h.gR))⟩
  · rcases List.mem_append.1 ht with ht | ht
    · exact hn t ht
    · obtain ⟨h4, h5⟩ := h.own t (List.mem_append_right _ ht)
      exact ⟨h4.chg hc (fun k hk => hts k (bks_mem ht hk)), h5⟩
  · rw [bks_app, List.nodup_append]
    refine ⟨hb, h2, fun a ha b hb' e => ?_⟩
    subst e
    rcases hs a ha with h4 | h4
    · exact hts a hb' h4
    · have := hlt a (by rw [bks_app]; exact List.mem_append_right _ hb'); omega
  · rw [bks_app] at hk
    rcases List.mem_append.1 hk with hk | hk
    · rcases hs k hk with h4 | h4
      · exact h.off k (by rw [bks_app]; exact List.mem_append_left _ h4)
      · exact fun hm => by have := h.hR k hm; omega
    · exact h.off k (by rw [bks_app]; exact List.mem_append_right _ hk)
  · rw [bks_app] at hk
    rcases List.mem_append.1 hk with hk | hk
    · rcases hs k hk with h4 | h4
      · exact h.src k (by rw [bks_app]; exact List.mem_append_left _ h4)
      · exact .inr (Nat.le_trans h.chg.size h4)
    · exact h.src k (by rw [bks_app]; exact List.mem_append_right _ hk)
  · refine h.chg.trans hc (fun x hx => ?_)
    rcases h.src x (by rw [bks_app]; exact List.mem_append_left _ hx) with h4 | h4
    · exact .inl (List.mem_cons_of_mem _ h4)
    · exact .inr h4
/-- The dice tells a number, a new tree comes. -/
theorem Live.leaf {w0 : World} {S0 R : List Nat} {d g : Nat} {w w' : World} {t : T} {ts : List T} (h : Live w0 S0 R d g w ts) (hg : w.grownBy w' (some d)) (hd : ∃ rest last, DiceAt w' d g rest last) (ht : t.At w') (hf : Fit t) (hb : t.blocks.Nodup) (hs : ∀ k ∈ t.blocks, w.heap.size ≤ k) :
    Live w0 S0 R d g w' (t :: ts) ∧ Keeps R d w w' := by
  have hlt := live_lt h
  have hdo : ∀ k ∈ bks ts, k ≠ d := fun k hk e => h.off k hk (e ▸ h.dR)
  have hk : Keeps R d w w' := fun k hk hn => hg.block k (h.hR k hk) (fun e => hn (Option.some.inj e))
  have hc : Chg w w' [d] := ⟨hg.os, hg.tape, hg.output, hg.size, fun k hk hn => hg.block k hk (fun e => hn (by rw [List.mem_singleton]; exact (Option.some.inj e)))⟩
  refine ⟨⟨hd, h.dR, h.gR, fun k hk => Nat.lt_of_lt_of_le (h.hR k hk) hc.size, fun s hs' => ?_, ?_, fun k hk => ?_, fun k hk => ?_, ?_⟩, hk⟩
  · rcases List.mem_cons.1 hs' with rfl | hs'
    · exact ⟨ht, hf⟩
    · obtain ⟨h4, h5⟩ := h.own s hs'
      exact ⟨h4.chg hc (fun k hk hm => by rw [List.mem_singleton] at hm; exact hdo k (bks_mem hs' hk) hm), h5⟩
  · rw [bks_cons, List.nodup_append]
    refine ⟨hb, h.nd, fun a ha b hb' e => ?_⟩
    subst e
    have h1 := hs a ha
    have h2 := hlt a hb'
    omega
  · rw [bks_cons] at hk
    rcases List.mem_append.1 hk with hk | hk
    · have h1 := hs k hk
      exact fun hm => by have := h.hR k hm; omega
    · exact h.off k hk
  · rw [bks_cons] at hk
    rcases List.mem_append.1 hk with hk | hk
    · exact .inr (Nat.le_trans h.chg.size (hs k hk))
    · exact h.src k hk
  · exact h.chg.trans hc (fun x hx => by rw [List.mem_singleton] at hx; exact .inl (by rw [hx]; exact List.mem_cons_self))
theorem pick_perm {α : Type} : ∀ (l : List α) (i : Nat) (h : i < l.length), l.Perm (l[i] :: l.eraseIdx i)
  | a :: l, 0, _ => by simp
  | a :: l, i + 1, h => by
    have h1 : i < l.length := by simpa using h
    have h2 := (pick_perm l i h1).cons a
    simp only [List.getElem_cons_succ, List.eraseIdx_cons_succ]
    exact h2.trans (.swap _ _ _)
/-- Two trees out of a list, first. -/
theorem Live.two {w0 : World} {S0 R : List Nat} {d g : Nat} {w : World} {ts : List T} (h : Live w0 S0 R d g w ts) (i j : Nat) (hi : i < ts.length) (hj : j < (ts.eraseIdx i).length) : Live w0 S0 R d g w (ts[i] :: (ts.eraseIdx i)[j] :: (ts.eraseIdx i).eraseIdx j) :=
  (h.perm (pick_perm ts i hi)).perm ((pick_perm (ts.eraseIdx i) j hj).cons _)
theorem bks_two (a b : T) : bks [a, b] = a.blocks ++ b.blocks := by simp [bks]
theorem bks_one (a : T) : bks [a] = a.blocks := by simp [bks]
/-- How much text trees have together. -/
def txl (ts : List T) : Nat := (ts.map fun t => t.text.length).sum
theorem live_nil {w0 : World} {S0 R : List Nat} {d g : Nat} {w : World} {ts : List T} (h : Live w0 S0 R d g w ts) : Live w0 S0 R d g w (.nil :: ts) :=
  ⟨h.dice, h.dR, h.gR, h.hR, fun t ht => by
    rcases List.mem_cons.1 ht with rfl | ht
    · exact ⟨trivial, fit_nil⟩
    · exact h.own t ht, by rw [bks_cons]; exact h.nd, fun k hk => h.off k (by rw [bks_cons] at hk; exact hk), fun k hk => h.src k (by rw [bks_cons] at hk; exact hk), h.chg⟩
/-- merge among trees. -/
theorem merge_live {w0 : World} {S0 R : List Nat} {d g : Nat} {w : World} {a b : T} {ts : List T} (h : Live w0 S0 R d g w (a :: b :: ts)) (hlen : a.text.length + b.text.length ≤ 1000000)
    (hj : ∀ x y, a.ps.getLast? = some x → b.ps.head? = some y → 64 < x.2.1.size + y.2.1.size) :
    Calls Tryz.prog 48 #[.pointer a.addr, .pointer b.addr] w fun e w' => ∃ t : T, e = .returned (.pointer t.addr) ∧ MrgT a b t ∧ Live w0 S0 R d g w' (t :: ts) ∧ Keeps R d w w' := by
  have hnd := h.nd
  have e1 : bks (a :: b :: ts) = (a.blocks ++ b.blocks) ++ bks ts := by rw [bks_cons, bks_cons, List.append_assoc]
  rw [e1, List.nodup_append] at hnd
  refine (merge_any _ a b w (Nat.le_refl _) (h.own a (by simp)).1 (h.own b (by simp)).1 hnd.1 hlen).mono ?_
  rintro e w' ⟨t, rfl, ht, hm, hc⟩
  have hb := mrg_blocks hm
  obtain ⟨h1, h2⟩ := Live.step (old := [a, b]) (new := [t]) (ts := ts) h (by rw [bks_two]; exact hc) (fun s hs => by
    rw [List.mem_singleton] at hs
    subst hs
    exact ⟨ht, fit_mrg hm (h.own a (by simp)).2 (h.own b (by simp)).2 hj⟩) (by rw [bks_one, hb]; exact hnd.1) (fun k hk => by rw [bks_one, hb] at hk; rw [bks_two]; exact .inl hk)
  exact ⟨t, rfl, hm, h1, h2⟩
/-- leaf among trees. -/
theorem leaf_live {w0 : World} {S0 R : List Nat} {d g : Nat} {w : World} {ts : List T} (h : Live w0 S0 R d g w ts) (r : Nat) (hrd : r ≠ d) (hr : w.cell? ⟨r, 0, none⟩ = some (.pointer (some ⟨d, 0, none⟩))) (s : ByteArray) (hs1 : 1 ≤ s.size) (hs2 : s.size ≤ 64) :
    Calls Tryz.prog 49 #[.pointer (some ⟨r, 0, none⟩), .string s] w fun e w' => ∃ (n : Nat) (p : Int), e = .returned (.pointer (some ⟨n, 0, none⟩)) ∧ (0 ≤ p ∧ p < 4294967296) ∧ Live w0 S0 R d g w' (.node .nil n s p .nil :: ts) ∧ Keeps R d w w' := by
  obtain ⟨rest, last, hd⟩ := h.dice
  have hp : 0 ≤ nxt rest last ∧ nxt rest last < 4294967296 := by
    cases rest with
    | nil => simp only [nxt]; omega
    | cons y q => exact hd.2.1 y (by simp)
  refine (rleaf_at w r d g rest last s (by omega) hr hrd hd (h.hR d h.dR) (h.hR g h.gR)).mono ?_
  rintro e w' ⟨n, rfl, hn, hn2, hcell, hd', hg⟩
  have htx : (T.node .nil n s (nxt rest last) .nil).text = s.data.toList := by simp [T.text]
  have hat : (T.node .nil n s (nxt rest last) .nil).At w' := by
    refine ⟨?_, trivial, trivial⟩
    rw [hcell, htx]
    unfold nodeCells leafCells
    simp [T.addr]
  obtain ⟨h1, h2⟩ := h.leaf hg ⟨_, _, hd'⟩ hat (fit_leaf n s _ ⟨⟨hs1, hs2⟩, hp⟩) (by simp [T.blocks]) (fun k hk => by simp [T.blocks] at hk; omega)
  exact ⟨n, _, rfl, hp, h1, h2⟩
end Go.Proofs.YtjcmbnmejkhcjaaGreat
