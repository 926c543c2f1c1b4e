/- Contract: what a format's reader has read of text becomes a part (reader.flush). Condition: a text that is not too long. -/
import Derived.Test.YtbphckblbbbakaaDoorFmV
import Derived.Test.YtbphckblbbbakaaDoorApp
import Derived.Deep.AppendLies
import Derived.Deep.RegionLaw
namespace Go.Proofs.YtbphckblbbbakaaDoor
open Go.ChangeShapes Go.WideShapes Go.ChangeAt Go.RowKit
attribute [local go_sem ↓] Go.wp_at_zero Go.wp_at_succ
set_option maxRecDepth 100000
set_option linter.unusedVariables false
theorem info_fm : (Tryd.prog.info? 41).map (fun i => (i.zero, i.size, i.bytes)) = some (some (.agg #[.int .i64 0, .int .i64 0, .int .i64 0, .string ⟨#[]⟩, .string ⟨#[]⟩]), 5, 56) := by kernel_rfl
theorem info_by : (Tryd.prog.info? 5).map (fun i => (i.zero, i.size, i.bytes)) = some (some (.int .u8 0), 1, 1) := by kernel_rfl
def fmC1 (d : Fm) : List Value := [.int .i64 d.k, .int .i64 d.n, .int .i64 d.c, .string d.th, .string d.el]
def fmC (l : List Fm) : List Value := l.flatMap fmC1
theorem fmC_app (l m : List Fm) : fmC (l ++ m) = fmC l ++ fmC m := List.flatMap_append
theorem fmC_one (d : Fm) : fmC [d] = fmC1 d := by simp [fmC]
/-- A reader, all of it: its text, its place, its parts, the text behind them. -/
structure RdF (w : World) (b : Nat) (s : ByteArray) (k : Nat) (t : List UInt8) (ps : List Fm) (g : List UInt8) (pv tv : Value) : Prop where
  rd : RdC w b s k g
  cp : w.cell? ⟨b, 2, none⟩ = some pv
  ct : w.cell? ⟨b, 3, none⟩ = some tv
  own : w.ownsRow (b + 1) 41 5 pv ps.length (fmC ps)
  txt : w.ownsRow (b + 1) 5 1 tv t.length (Lib.byteCells t)
  dis : ∀ n, pv.ownBlock = some n → tv.ownBlock ≠ some n
theorem own_ne {w : World} {b : Nat} {e : TypeId} {size n : Nat} {v : Value} {xs : List Value} (h : w.ownsRow (b + 1) e size v n xs) : v.ownBlock = none ∨ v.ownBlock ≠ some b := by
  rcases hv : v.ownBlock with _ | m
  · exact .inl rfl
  · right
    have := (h.lt m hv).1
    intro e; injection e with e; omega
theorem RdF.rdr {w w' : World} {b : Nat} {s : ByteArray} {k k' : Nat} {t : List UInt8} {ps : List Fm} {g g' : List UInt8} {pv tv : Value} (h : RdF w b s k t ps g pv tv) (hr : Rdr w w' b k' g') : RdF w' b s k' t ps g' pv tv :=
  ⟨hr.at h.rd, (hr.cells 2 (by decide) (by decide)).trans h.cp, (hr.cells 3 (by decide) (by decide)).trans h.ct, h.own.kept hr.grown (own_ne h.own), h.txt.kept hr.grown (own_ne h.txt), h.dis⟩
theorem RdF.bl {w w' : World} {b : Nat} {s : ByteArray} {k : Nat} {t : List UInt8} {ps : List Fm} {g : List UInt8} {pv tv : Value} (h : RdF w b s k t ps g pv tv) (hb : Below w.heap.size w w') : RdF w' b s k t ps g pv tv := h.rdr (rdr_bl hb h.rd.pos h.rd.gone)
/-- Its parts have grown in their row, or in a new one. -/
theorem RdF.setP {w w' : World} {b : Nat} {s : ByteArray} {k : Nat} {t : List UInt8} {ps : List Fm} {g : List UInt8} {pv tv pv' : Value} {ps' : List Fm} (h : RdF w b s k t ps g pv tv) (hg : w.grownBy w' pv.ownBlock) (ho : w'.ownsRow (b + 1) 41 5 pv' ps'.length (fmC ps')) (ha : pv'.ownBlock = pv.ownBlock ∨ ∃ n, pv'.ownBlock = some n ∧ w.heap.size ≤ n) : RdF (w'.setCell ⟨b, 2, none⟩ pv') b s k t ps' g pv' tv := by
  have hlt := h.rd.lt
  have hnb : some b ≠ pv.ownBlock := fun e => (own_ne h.own).elim (fun q => by rw [q] at e; cases e) (fun q => q e.symm)
  have hbk := hg.block b hlt hnb
  have hc : ∀ q, w'.cell? ⟨b, q, none⟩ = w.cell? ⟨b, q, none⟩ := fun q => World.cell?_of_block (a := ⟨b, q, none⟩) hbk
  have hcs : ∀ q, q ≠ 2 → (w'.setCell ⟨b, 2, none⟩ pv').cell? ⟨b, q, none⟩ = w.cell? ⟨b, q, none⟩ := fun q hq => (World.cell?_setCell_other _ _ _ _ (fun e => hq (by injection e with _ e; exact e.symm))).trans (hc q)
  have hk : w.ownsRow (b + 1) 5 1 tv t.length (Lib.byteCells t) := h.txt
  have hdis : tv.ownBlock = none ∨ tv.ownBlock ≠ pv.ownBlock := by
    rcases hv : tv.ownBlock with _ | m
    · exact .inl rfl
    · refine .inr (fun e => ?_)
      exact h.dis m e.symm hv
  refine ⟨⟨(hcs 0 (by decide)).trans h.rd.text, (hcs 1 (by decide)).trans h.rd.pos, (hcs 4 (by decide)).trans h.rd.gone, fun q => by rw [World.frozen?_setCell]; exact (World.frozen?_of_block (a := ⟨b, q, none⟩) hbk).trans (h.rd.froz q)⟩, World.cell?_setCell_same _ _ _ ((hc 2).trans h.cp), (hcs 3 (by decide)).trans h.ct, ?_, ?_, ?_⟩
  · exact ownsRow_setCell_below ho (Nat.lt_succ_self b) _
  · exact ownsRow_setCell_below (h.txt.kept hg hdis) (Nat.lt_succ_self b) _
  · intro n hn
    rcases ha with ha | ⟨m, ha, hm⟩
    · exact h.dis n (ha ▸ hn)
    · intro e
      have := (h.txt.lt n e).2
      rw [ha] at hn
      injection hn with hn
      omega
/-- Its text has grown in its row, or in a new one; or is none now. -/
theorem RdF.setT {w w' : World} {b : Nat} {s : ByteArray} {k : Nat} {t : List UInt8} {ps : List Fm} {g : List UInt8} {pv tv tv' : Value} {t' : List UInt8} (h : RdF w b s k t ps g pv tv) (hg : w.grownBy w' tv.ownBlock) (ho : w'.ownsRow (b + 1) 5 1 tv' t'.length (Lib.byteCells t')) (ha : tv'.ownBlock = tv.ownBlock ∨ tv'.ownBlock = none ∨ ∃ n, tv'.ownBlock = some n ∧ w.heap.size ≤ n) : RdF (w'.setCell ⟨b, 3, none⟩ tv') b s k t' ps g pv tv' := by
  have hlt := h.rd.lt
  have hnb : some b ≠ tv.ownBlock := fun e => (own_ne h.txt).elim (fun q => by rw [q] at e; cases e) (fun q => q e.symm)
  have hbk := hg.block b hlt hnb
  have hc : ∀ q, w'.cell? ⟨b, q, none⟩ = w.cell? ⟨b, q, none⟩ := fun q => World.cell?_of_block (a := ⟨b, q, none⟩) hbk
  have hcs : ∀ q, q ≠ 3 → (w'.setCell ⟨b, 3, none⟩ tv').cell? ⟨b, q, none⟩ = w.cell? ⟨b, q, none⟩ := fun q hq => (World.cell?_setCell_other _ _ _ _ (fun e => hq (by injection e with _ e; exact e.symm))).trans (hc q)
  have hdis : pv.ownBlock = none ∨ pv.ownBlock ≠ tv.ownBlock := by
    rcases hv : pv.ownBlock with _ | m
    · exact .inl rfl
    · exact .inr (fun e => h.dis m hv e.symm)
  refine ⟨⟨(hcs 0 (by decide)).trans h.rd.text, (hcs 1 (by decide)).trans h.rd.pos, (hcs 4 (by decide)).trans h.rd.gone, fun q => by rw [World.frozen?_setCell]; exact (World.frozen?_of_block (a := ⟨b, q, none⟩) hbk).trans (h.rd.froz q)⟩, (hcs 2 (by decide)).trans h.cp, World.cell?_setCell_same _ _ _ ((hc 3).trans h.ct), ?_, ?_, ?_⟩
  · exact ownsRow_setCell_below (h.own.kept hg hdis) (Nat.lt_succ_self b) _
  · exact ownsRow_setCell_below ho (Nat.lt_succ_self b) _
  · intro n hn
    rcases ha with ha | ha | ⟨m, ha, hm⟩
    · rw [ha]; exact h.dis n hn
    · rw [ha]; intro e; cases e
    · rw [ha]; intro e
      have := (h.own.lt n hn).2
      injection e with e
      omega
theorem RdF.farP {w w' : World} {b : Nat} {s : ByteArray} {k : Nat} {t : List UInt8} {ps : List Fm} {g : List UInt8} {pv tv : Value} (h : RdF w b s k t ps g pv tv) (hg : w.grownBy w' pv.ownBlock) : w'.cell? ⟨b, 2, none⟩ = some pv ∧ w'.frozen? ⟨b, 2, none⟩ = false := by
  have hbk := hg.block b h.rd.lt (fun e => (own_ne h.own).elim (fun q => by rw [q] at e; cases e) (fun q => q e.symm))
  exact ⟨(World.cell?_of_block (a := ⟨b, 2, none⟩) hbk).trans h.cp, (World.frozen?_of_block (a := ⟨b, 2, none⟩) hbk).trans (h.rd.froz 2)⟩
theorem RdF.farT {w w' : World} {b : Nat} {s : ByteArray} {k : Nat} {t : List UInt8} {ps : List Fm} {g : List UInt8} {pv tv : Value} (h : RdF w b s k t ps g pv tv) (hg : w.grownBy w' tv.ownBlock) : w'.cell? ⟨b, 3, none⟩ = some tv ∧ w'.frozen? ⟨b, 3, none⟩ = false := by
  have hbk := hg.block b h.rd.lt (fun e => (own_ne h.txt).elim (fun q => by rw [q] at e; cases e) (fun q => q e.symm))
  exact ⟨(World.cell?_of_block (a := ⟨b, 3, none⟩) hbk).trans h.ct, (World.frozen?_of_block (a := ⟨b, 3, none⟩) hbk).trans (h.rd.froz 3)⟩
theorem RdF.below {w w' : World} {b : Nat} {s : ByteArray} {k : Nat} {t : List UInt8} {ps : List Fm} {g : List UInt8} {pv tv : Value} (h : RdF w b s k t ps g pv tv) (hg : w.grownBy w' pv.ownBlock) : Below b w w' :=
  (Below.refl b w).grown hg (Nat.le_of_lt h.rd.lt) (fun n hn => Nat.le_of_succ_le (h.own.lt n hn).1)
theorem RdF.belowT {w w' : World} {b : Nat} {s : ByteArray} {k : Nat} {t : List UInt8} {ps : List Fm} {g : List UInt8} {pv tv : Value} (h : RdF w b s k t ps g pv tv) (hg : w.grownBy w' tv.ownBlock) : Below b w w' :=
  (Below.refl b w).grown hg (Nat.le_of_lt h.rd.lt) (fun n hn => Nat.le_of_succ_le (h.txt.lt n hn).1)
def FlPost (w : World) (b k : Nat) (s : ByteArray) (ps : List Fm) (g : List UInt8) (pv0 : Value) (e : Ending) (w' : World) : Prop := e = .returned (.tuple #[]) ∧ (∀ n, n < w.heap.size → n ≠ b → pv0.ownBlock ≠ some n → w'.heap[n]? = w.heap[n]?) ∧ ∃ pv tv, RdF w' b s k [] ps g pv tv ∧ Below b w w'
set_option maxHeartbeats 8000000 in
theorem flush_any {w : World} {b k : Nat} {s : ByteArray} {t : List UInt8} {ps : List Fm} {g : List UInt8} {pv tv : Value} (h : RdF w b s k t ps g pv tv) (ht : t.length ≤ 1000000) (hp : ps.length ≤ 1000000) :
    Calls Tryd.prog 31 #[.pointer (some ⟨b, 0, none⟩)] w (FlPost w b k s (flushF ps t) g pv) := by
  obtain ⟨i0, hi0, hz0', hz1, hz2⟩ := info_parts info_fm
  have H := hide h
  obtain ⟨tA, tc, rfl⟩ := own_slice h.txt
  obtain ⟨pA, pc, rfl⟩ := own_slice h.own
  have hlt := h.rd.lt
  by_cases h0 : t = []
  · subst h0
    have c3 := h.ct
    have g0 : decide ((0 : Int) < ((([] : List UInt8).length : Nat) : Int)) = false := by decide
    simp only [List.length_nil] at c3 g0
    clear h
    go_enter Tryd.func31, Tryd.ntmps31
    go_wp2
    go_end0
    exact ⟨rfl, fun _ _ _ _ => rfl, _, _, H.out, Below.refl _ _⟩
  · have hpos : 0 < t.length := List.length_pos_iff.2 h0
    have hfl : flushF ps t = ps ++ [⟨0, 0, 0, mkB t, nilB⟩] := by unfold flushF; rw [if_neg h0]
    rw [hfl]
    obtain ⟨tg, hta, htb, htl, hcells⟩ : ∃ tg, tA = some ⟨tg, 0, none⟩ ∧ b + 1 ≤ tg ∧ tg < w.heap.size ∧ ∀ j u, (Lib.byteCells t)[j]? = some u → w.cell? ⟨tg, j, none⟩ = some u := by
      rcases own_form h.txt with ⟨_, hn, _⟩ | ⟨g1, c1, hv, q1, q2, _, _, q5⟩
      · omega
      · injection hv with hv; exact ⟨g1, hv, q1, q2, q5⟩
    subst hta
    have hcv := Go.run_convert_bytes_back (P := Tryd.prog) w.drew 43 9 5 ⟨tg, 0, none⟩ tc t Tryd.underlying43 Tryd.underlying5 Tryd.underlying9 (fun j hj => by
      have := hcells j (.int .u8 (t[j].toNat : Int)) (by simp [Lib.byteCells, hj])
      rw [addr_add]
      simpa using this)
    have c2 := h.cp
    have c3 := h.ct
    obtain ⟨n, hn⟩ : ∃ n, t.length = n := ⟨_, rfl⟩
    have hsz := size_mk t
    rw [hn] at hcv c3 hpos ht hsz
    obtain ⟨T, hT⟩ : ∃ T, mkB t = T := ⟨_, rfl⟩
    rw [show (⟨t.toArray⟩ : ByteArray) = T from hT] at hcv
    rw [hT] at hsz ⊢
    have g0 : decide ((0 : Int) < (n : Int)) = true := decide_eq_true (by omega)
    have g0' : decide (0 < n) = true := decide_eq_true (by omega)
    have hf2 := h.rd.froz 2
    have hf3 := h.rd.froz 3
    have HCV := hide hcv
    have HN := hide hn
    clear h hcells hT hn hcv hfl h0
    go_enter Tryd.func31, Tryd.ntmps31
    go_wp2
    have hcv := HCV.out
    rw [HN.out] at H
    have HD := hide (H.out.bl (bl_drew (bl_alloc (bl_refl w) (.cells #[.int .i64 0, .int .i64 0, .int .i64 0, .string T, .string ⟨#[]⟩] 41))))
    have HB := hide (Nat.le_trans (Nat.succ_le_of_lt hlt) (Nat.le_succ w.heap.size))
    go_region_law (refine step_append_lies _ (by rfl) (.tmp 12) (.tmp 19) 22 (by rfl) (b + 1) 41 i0 (.agg #[.int .i64 0, .int .i64 0, .int .i64 0, .string ⟨#[]⟩, .string ⟨#[]⟩]) 5 56 Tryd.underlying22 hi0 hz0' hz1 hz2 rfl (by decide) (.slice pA ps.length pc) ps.length (fmC ps) (by rfl) HD.out.own ⟨w.heap.size, 0, none⟩ 1 1 [.int .i64 0, .int .i64 0, .int .i64 0, .string T, .string ⟨#[]⟩] (by rfl) (by rfl) (World.news_of_block (heap_drew (heap_alloc_new w _))) (by simp [Value.oneCell']) (by decide) (by unfold maxLen; omega) (by omega) (by simp; omega) (w.heap.size + 1) (by simp) ?_; intro g3 cap3 w3 ho3 hg3 ha3 hlt3; obtain ⟨k2, kf2⟩ := HD.out.farP hg3)
    all_goals
      have hz := HD.out.setP (pv' := .slice (some ⟨g3, 0, none⟩) (ps.length + 1) cap3) (ps' := ps ++ [⟨0, 0, 0, T, nilB⟩]) hg3 (by rw [List.length_append, fmC_app, fmC_one]; exact ho3) (ha3.imp (fun h => h.symm) (fun h => ⟨g3, rfl, by rw [h]; simp⟩))
      have hbz : Below b w (w3.setCell ⟨b, 2, none⟩ (.slice (some ⟨g3, 0, none⟩) (ps.length + 1) cap3)) := (((bl_drew (bl_alloc (bl_refl w) _)).mono (Nat.le_of_lt hlt)).trans (HD.out.below hg3)).setCell (p := ⟨b, 2, none⟩) (Nat.le_refl b) _
      have hkept : ∀ n, n < w.heap.size → n ≠ b → (Value.slice pA ps.length pc).ownBlock ≠ some n → w3.heap[n]? = w.heap[n]? := fun n h1 _ h2 => (hg3.block n (by simp; omega) (fun e => h2 e.symm)).trans (Below.heap_alloc w _ n h1)
      have HKEPT := hide hkept
      clear hkept
      have HZ := hide hz
      have HBZ := hide hbz
      have k3 := hz.ct
      have kf3 := hz.rd.froz 3
      clear hz hbz hcv k2 kf2 ho3 hg3 ha3 hlt3
      go_wp2
      go_end0
      exact ⟨rfl, fun n h1 h2 h3 => (Below.heap_setCell _ _ _ n h2).trans ((Below.heap_setCell _ _ _ n h2).trans (HKEPT.out n h1 h2 h3)), _, _, HZ.out.setT (t' := []) (grown_refl _ _) (World.ownsRow_nil _ _ _ _) (.inr (.inl rfl)), HBZ.out.setCell (p := ⟨b, 3, none⟩) (Nat.le_refl b) _⟩
end Go.Proofs.YtbphckblbbbakaaDoor
