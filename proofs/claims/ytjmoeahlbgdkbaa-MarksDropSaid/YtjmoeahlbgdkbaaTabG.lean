/- Contracts of package marks at a table: Add, Pose. No condition but that ids rise and are few. -/
import Derived.Test.YtjmoeahlbgdkbaaTabF
import Derived.Test.YtjmoeahlbgdkbaaSpanC
import Derived.Test.YtjmoeahlbgdkbaaSpanB
import Derived.Test.YtjmoeahlbgdkbaaApp
import Derived.Deep.RegionLaw
import Derived.BigRegion
namespace Go.Proofs.Ytjmoeahlbgdkbaa
open Go.ChangeShapes Go.WideShapes Go.ChangeAt Go.RowKit
open SpanM
attribute [local go_sem ↓] Go.wp_at_zero Go.wp_at_succ
set_option maxRecDepth 100000
theorem Tab.last' {w : World} {base tb : Nat} {last : Int} {v : Value} {l : List Mk} (h : Tab w base tb last v l) (x : Int) : Tab (w.setCell ⟨tb, 0, none⟩ (.int .i64 x)) base tb x v l :=
  ⟨h.low, heap_set h.at0 0 _, h.own.kept (grown_set (grown_refl w (some tb)) 0 _) (.inr h.off), h.off⟩
theorem Tab.row' {w w' : World} {base tb : Nat} {last : Int} {v v' : Value} {l l' : List Mk} (h : Tab w base tb last v l) (hg : w.grownBy w' v.ownBlock) (hv : w'.ownsRow base 82 6 v' l'.length (flatM l')) (ha : v'.ownBlock = v.ownBlock ∨ ∃ k, v'.ownBlock = some k ∧ w.heap.size ≤ k) :
    Tab (w'.setCell ⟨tb, 1, none⟩ v') base tb last v' l' := by
  have ho : v'.ownBlock ≠ some tb := by
    rcases ha with ha | ⟨k, ha, hk⟩
    · rw [ha]; exact h.off
    · rw [ha]; intro e; injection e with e; have := h.lt; omega
  have h1 : w'.heap[tb]? = some (.cells #[.int .i64 last, v] 75 (0, 0)) := by rw [hg.block tb h.lt (Ne.symm h.off)]; exact h.at0
  exact ⟨h.low, heap_set h1 1 _, hv.kept (grown_set (grown_refl w' (some tb)) 1 _) (.inr ho), ho⟩
/-- A record's fields are written, the row lies where it lay. -/
theorem Tab.put {w : World} {base tb : Nat} {last : Int} {l : List Mk} {g c : Nat} (h : Tab w base tb last (.slice (some ⟨g, 0, none⟩) l.length c) l) (i k : Nat) (hk : k < 6) (u : Value) (f : Mk → Mk) (hf : ∀ r, (encM r).set k u = encM (f r)) :
    Tab (w.setCell ⟨g, i * 6 + k, none⟩ u) base tb last (.slice (some ⟨g, 0, none⟩) (l.modify i f).length c) (l.modify i f) := by
  have h1 := (World.ownsRow.stored h.own (i * 6 + k) u).1
  rw [flatM_set l i k hk u f hf] at h1
  have hg : g ≠ tb := fun e => h.off (by rw [e]; rfl)
  exact ⟨h.low, by rw [List.length_modify]; exact (Below.heap_setCell w _ u tb (Ne.symm hg)).trans h.at0, by rw [List.length_modify]; exact h1, fun e => hg (by simpa [Value.ownBlock] using e)⟩
set_option maxHeartbeats 4000000 in
theorem pose_any (base tb : Nat) (last : Int) (v : Value) (l : List Mk) (x : Int) (fr tr : Bool) (w : World) (h : Tab w base tb last v l) (hs : RiseM l) (hl : l.length ≤ 100000) (hB : base ≤ w.heap.size) :
    Calls Try.prog 29 #[.pointer (some ⟨tb, 0, none⟩), .int .i64 x, .bool fr, .bool tr] w fun e w' => ((∃ (i : Nat) (hi : i < l.length), l[i].id = x ∧ e = .returned (.int .i64 0) ∧ Tab w' base tb last v (l.modify i fun r => { r with b := fr, c := tr })) ∨ ((∀ r ∈ l, r.id ≠ x) ∧ e = .returned (.int .i64 6) ∧ Tab w' base tb last v l)) ∧ Below base w w' := by
  have HC := hide (find_any base tb last v l x w h hs hl)
  have H := hide h
  clear h hs
  go_enter Try.func29, Try.ntmps29
  go_wp2_with fail
  refine HC.out.mono ?_
  rintro e w1 ⟨⟨i, ok, rfl, hfo⟩, hb1⟩
  have H1 := H.out.later hb1
  have hbB : Below base w w1 := hb1.mono hB
  clear HC
  rcases hfo with ⟨rfl, hi, hid⟩ | ⟨rfl, hno⟩
  · rcases H1.form with ⟨rfl, rfl⟩ | ⟨g, c, rfl, hg1, hg2, hg3, hg4, hg5⟩
    · simp at hi
    unfold maxLen at hg4
    obtain ⟨x0, x1, x2, x3, x4, x5⟩ := H1.cell i hi
    obtain ⟨d0, d1, _, _⟩ := cells2 H1.at0
    have fz1 := H1.frozen (i * 6 + 3)
    have fz2 := H1.frozen (i * 6 + 4)
    have hfin := (H1.put i 3 (by omega) (.bool fr) (fun r => { r with b := fr }) (fun r => rfl)).put i 4 (by omega) (.bool tr) (fun r => { r with c := tr }) (fun r => rfl)
    rw [List.modify_modify_eq, List.length_modify] at hfin
    have hbf : Below base w ((w1.setCell ⟨g, i * 6 + 3, none⟩ (.bool fr)).setCell ⟨g, i * 6 + 4, none⟩ (.bool tr)) := (hbB.setCell (p := ⟨g, i * 6 + 3, none⟩) hg1 _).setCell (p := ⟨g, i * 6 + 4, none⟩) hg1 _
    have HID := hide (show ∃ h : i < l.length, l[i].id = x from ⟨hi, hid⟩)
    have HF := hide (show Tab ((w1.setCell ⟨g, i * 6 + 3, none⟩ (.bool fr)).setCell ⟨g, i * 6 + 4, none⟩ (.bool tr)).drew base tb last (.slice (some ⟨g, 0, none⟩) l.length c) (l.modify i fun r => { r with b := fr, c := tr }) from hfin.later (bl_drew (bl_refl _)))
    clear hid H1 hfin
    generalize l[i] = r at *
    obtain ⟨id0, f0, t0, b0, c0, p0⟩ := r
    simp only at x0 x1 x2 x3 x4 x5
    go_wp2
    go_region
    all_goals
      go_wp2
      go_ret
      obtain ⟨h1, h2⟩ := HID.out
      exact ⟨.inl ⟨i, h1, h2, rfl, HF.out⟩, hbf.drew⟩
  · go_wp2
    go_ret
    exact ⟨.inr ⟨hno, rfl, H1⟩, hbB⟩
/-- What Add asks of the parent. -/
def ParM (l : List Mk) (f t p : Int) : Int :=
  if p = 0 then 0 else match l.find? (fun r => r.id == p) with
  | none => 6
  | some r => if withinB (f, t) (r.f, r.t) then 0 else 2
theorem find_at {l : List Mk} (hs : RiseM l) (x : Int) (i : Nat) (h : i < l.length) (hid : l[i].id = x) : l.find? (fun r => r.id == x) = some l[i] := by
  rw [List.find?_eq_some_iff_getElem]
  refine ⟨by simp [hid], i, h, rfl, fun j hj => ?_⟩
  have := rise_at hs j i hj h
  simp
  omega
theorem find_none {l : List Mk} {x : Int} (h : ∀ r ∈ l, r.id ≠ x) : l.find? (fun r => r.id == x) = none := by
  rw [List.find?_eq_none]
  intro r hr
  simp [h r hr]
/-- What Add answers, and leaves. -/
def addM (last : Int) (l : List Mk) (f t : Int) (b c : Bool) (p : Int) : Int × Int × Int × List Mk :=
  if mayB (f, t) 65536 = false then (0, 3, last, l) else
  if ParM l f t p ≠ 0 then (0, ParM l f t p, last, l) else
  if 256 ≤ l.length then (0, 7, last, l) else (last + 1, 0, last + 1, l ++ [⟨last + 1, f, t, b, c, p⟩])
set_option maxHeartbeats 4000000 in
/-- Add without a parent. -/
theorem add_any (base tb : Nat) (last : Int) (v : Value) (l : List Mk) (f t : Int) (fr tr : Bool) (w : World) (h : Tab w base tb last v l) (hlast : 0 ≤ last ∧ last ≤ 1000000) (hB : base ≤ w.heap.size) (hm : mayB (f, t) 65536 = true) (hl : l.length < 256) :
    Calls Try.prog 27 #[.pointer (some ⟨tb, 0, none⟩), .agg #[.int .i64 f, .int .i64 t, .bool fr, .bool tr, .int .i64 0]] w fun e w' => e = .returned (.tuple #[.int .i64 (last + 1), .int .i64 0]) ∧ (∃ v', Tab w' base tb (last + 1) v' (l ++ [⟨last + 1, f, t, fr, tr, 0⟩])) ∧ Below base w w' := by
  obtain ⟨i0, hi0, hz0', hz1, hz2⟩ := info_parts info_rec
  have hba : Below w.heap.size w (w.alloc (.cells #[.int .i64 f, .int .i64 t, .bool fr, .bool tr, .int .i64 0] 43)) := bl_alloc (bl_refl w) _
  have H := hide h
  obtain ⟨c0, c1, f0, f1⟩ := cells2 (h.later hba).at0
  have hlt := h.lt
  obtain ⟨aA, cA, rfl⟩ := own_slice h.own
  clear h
  go_enter Try.func27, Try.ntmps27
  go_wp2_with fail
  refine (may_any (f, t) 65536 _).mono ?_
  rw [hm]
  rintro e w1 ⟨rfl, hb1⟩
  have hf := (hb1.block w.heap.size (by simp)).trans (heap_alloc_new w (.cells #[.int .i64 f, .int .i64 t, .bool fr, .bool tr, .int .i64 0] 43))
  obtain ⟨e0, e1, e2, e3, e4, ef⟩ := box5 hf
  have H1 := H.out.later (bl_trans hba hb1)
  obtain ⟨d0, d1, g0, g1⟩ := cells2 H1.at0
  have hl2 : decide ((256 : Int) ≤ (l.length : Int)) = false := by simp; omega
  have hne : w.heap.size ≠ tb := by omega
  have H2 := H1.last' (last + 1)
  have hb2 : Below base w (w1.setCell ⟨tb, 0, none⟩ (.int .i64 (last + 1))) := ((bl_trans hba hb1).mono hB).setCell (p := ⟨tb, 0, none⟩) H.out.low _
  have hf2 := (Below.heap_setCell w1 ⟨tb, 0, none⟩ (.int .i64 (last + 1)) w.heap.size hne).trans hf
  have hw1 : w.heap.size < w1.heap.size := (Array.getElem?_eq_some_iff.1 hf).1
  have hs2 : (w1.setCell ⟨tb, 0, none⟩ (.int .i64 (last + 1))).heap.size = w1.heap.size := by simp [World.setCell]
  go_wp2
  obtain ⟨w2, hw2⟩ : ∃ w2, w1.setCell ⟨tb, 0, none⟩ (.int .i64 (last + 1)) = w2 := ⟨_, rfl⟩
  rw [hw2] at H2 hb2 hf2 hs2 ⊢
  clear c0 c1 f0 f1 e0 e1 e2 e3 e4 ef d0 d1 g0 g1 hw2 H1 hf hb1
  obtain ⟨e0, e1, e2, e3, e4, ef⟩ := box5 hf2
  obtain ⟨d0, d1, g0, g1⟩ := cells2 H2.at0
  have hB2 : base ≤ w2.heap.size := Nat.le_trans hB hb2.size
  have hfin : ∀ W v', (w2.alloc (.cells #[.int .i64 (last + 1), .int .i64 f, .int .i64 t, .bool fr, .bool tr, .int .i64 0] 82)).drew = W → ∀ W', W'.ownsRow base 82 6 v' (l.length + 1) (flatM l ++ [.int .i64 (last + 1), .int .i64 f, .int .i64 t, .bool fr, .bool tr, .int .i64 0]) → W.grownBy W' (Value.slice aA l.length cA).ownBlock → (v'.ownBlock = (Value.slice aA l.length cA).ownBlock ∨ ∃ k, v'.ownBlock = some k ∧ W.heap.size ≤ k) →
      Tab (W'.setCell ⟨tb, 1, none⟩ v') base tb (last + 1) v' (l ++ [⟨last + 1, f, t, fr, tr, 0⟩]) ∧ Below base w (W'.setCell ⟨tb, 1, none⟩ v') := by
    rintro W v' rfl W' ho hg ha
    have hb3 : Below w2.heap.size w2 (w2.alloc (.cells #[.int .i64 (last + 1), .int .i64 f, .int .i64 t, .bool fr, .bool tr, .int .i64 0] 82)).drew := bl_drew (bl_alloc (bl_refl w2) _)
    have H3 := H2.later hb3
    refine ⟨H3.row' hg (by rw [List.length_append, flatM_app]; exact ho) ha, ?_⟩
    refine Below.setCell (p := ⟨tb, 1, none⟩) ?_ H.out.low _
    exact (hb2.trans (hb3.mono hB2)).grown hg (Nat.le_trans hB2 hb3.size) (fun k hk => (H3.own.lt k hk).1)
  have HFIN := hide hfin
  have HOWN := hide H2.own
  have HAT := hide H2.at0
  have hlt2 := H2.lt
  have HOFF := hide H2.off
  clear hfin H2 hs2
  go_region_law (refine step_append_lies _ (by rfl) (.tmp 49) (.tmp 56) 73 (by rfl) base 82 i0 (.agg #[.int .i64 0, .int .i64 0, .int .i64 0, .bool false, .bool false, .int .i64 0]) 6 40 Try.underlying73 hi0 hz0' hz1 hz2 rfl (by decide) (.slice aA l.length cA) l.length (flatM l) (by rfl) (own_below HOWN.out (bl_drew (bl_alloc (bl_refl w2) _))) ⟨w2.heap.size, 0, none⟩ 1 1 [.int .i64 (last + 1), .int .i64 f, .int .i64 t, .bool fr, .bool tr, .int .i64 0] (by rfl) (by rfl) (World.news_of_block (heap_drew (heap_alloc_new w2 _))) (by simp [Value.oneCell']) (by decide) (by unfold maxLen; omega) (by omega) (by simp; omega) (w2.heap.size + 1) (by simp) ?_; intro g3 cap3 w3 ho3 hg3 ha3 hlt3; obtain ⟨k0, k1, k2, k3⟩ := cells2 (heap_kept hg3 (heap_drew (heap_old (o := .cells #[.int .i64 (last + 1), .int .i64 f, .int .i64 t, .bool fr, .bool tr, .int .i64 0] 82) HAT.out)) HOFF.out))
  all_goals
    have hz := HFIN.out _ _ rfl _ ho3 hg3 (ha3.imp (fun h => h.symm) (fun h => ⟨g3, rfl, by rw [h]; simp⟩))
    obtain ⟨j0, j1, j2, j3⟩ := cells2 hz.1.at0
    have HZ := hide hz
    clear hz HFIN
    go_wp2
    go_ret2
    exact ⟨rfl, ⟨_, HZ.out.1⟩, HZ.out.2⟩
end Go.Proofs.Ytjmoeahlbgdkbaa
