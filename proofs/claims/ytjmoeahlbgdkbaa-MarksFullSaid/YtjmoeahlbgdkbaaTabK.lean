/- Contracts of package marks at a table: Add with its frame, Add at a full table, Ids. No condition but few records. -/
import Derived.Test.YtjmoeahlbgdkbaaTabD
import Derived.Deep.RegionLaw
import Derived.BigRegion
namespace Go.Proofs.Ytjmoeahlbgdkbaa
open Go.ChangeShapes Go.WideShapes Go.ChangeAt Go.RowKit
open SpanM
attribute [local go_sem ↓] Go.wp_at_zero Go.wp_at_succ
set_option maxRecDepth 100000
theorem kp_of {w w1 : World} {tb : Nat} {v : Value} (h : Below w.heap.size w w1) : Kp w w1 tb v := ⟨h.os, h.tape, h.output, h.size, fun k hk _ _ => h.block k hk⟩
theorem kp_set {w a : World} {tb : Nat} {v : Value} (h : Kp w a tb v) (j : Nat) (u : Value) : Kp w (a.setCell ⟨tb, j, none⟩ u) tb v :=
  ⟨h.os, h.tape, h.output, by simpa [World.setCell] using h.size, fun k hk h1 h2 => (Below.heap_setCell a _ u k h1).trans (h.block k hk h1 h2)⟩
theorem kp_below {w a b : World} {tb : Nat} {v : Value} (h : Kp w a tb v) (hb : Below a.heap.size a b) : Kp w b tb v :=
  ⟨hb.os.trans h.os, hb.tape.trans h.tape, hb.output.trans h.output, Nat.le_trans h.size hb.size, fun k hk h1 h2 => (hb.block k (Nat.lt_of_lt_of_le hk h.size)).trans (h.block k hk h1 h2)⟩
theorem kp_grown {w a b : World} {tb : Nat} {v : Value} (h : Kp w a tb v) (hg : a.grownBy b v.ownBlock) : Kp w b tb v :=
  ⟨hg.os.trans h.os, hg.tape.trans h.tape, hg.output.trans h.output, Nat.le_trans h.size hg.size, fun k hk h1 h2 => (hg.block k (Nat.lt_of_lt_of_le hk h.size) (fun e => h2 e.symm)).trans (h.block k hk h1 h2)⟩
theorem own_kp {w w' : World} {base n tb : Nat} {e : TypeId} {sz : Nat} {u v : Value} {xs : List Value} (h : w.ownsRow base e sz u n xs) (hk : Kp w w' tb v) (hn : ∀ k, u.ownBlock = some k → k ≠ tb ∧ v.ownBlock ≠ some k) : w'.ownsRow base e sz u n xs := by
  obtain ⟨h1, h2⟩ := h
  refine ⟨h1, ?_⟩
  rcases h2 with h2 | ⟨g, cap, cur, hv, hg, hh, r⟩
  · exact .inl h2
  · have hgb : u.ownBlock = some g := by rw [hv]; rfl
    exact .inr ⟨g, cap, cur, hv, hg, by rw [hk.block g (Array.getElem?_eq_some_iff.1 hh).1 (hn g hgb).1 (hn g hgb).2]; exact hh, r⟩
theorem Tab.kp {w w' : World} {B tb tb2 : Nat} {last : Int} {v v2 : Value} {l : List Mk} (h : Tab w B tb2 last v2 l) (hk : Kp w w' tb v) (h1 : tb2 ≠ tb) (h2 : v.ownBlock ≠ some tb2) (h3 : ∀ k, v2.ownBlock = some k → k ≠ tb ∧ v.ownBlock ≠ some k) : Tab w' B tb2 last v2 l :=
  ⟨h.low, (hk.block tb2 h.lt h1 h2).trans h.at0, own_kp h.own hk h3, h.off⟩
set_option maxHeartbeats 4000000 in
/-- Add without a parent, with its frame. -/
theorem add_fr (base tb : Nat) (last : Int) (v : Value) (l : List Mk) (f t : Int) (fr tr : Bool) (w : World) (h : Tab w base tb last v l) (hlast : 0 ≤ last ∧ last ≤ 1000000) (hB : base ≤ w.heap.size) (hm : mayB (f, t) 65536 = true) (hl : l.length < 256) :
    Calls Try.prog 27 #[.pointer (some ⟨tb, 0, none⟩), .agg #[.int .i64 f, .int .i64 t, .bool fr, .bool tr, .int .i64 0]] w fun e w' => e = .returned (.tuple #[.int .i64 (last + 1), .int .i64 0]) ∧ (∃ v', Tab w' base tb (last + 1) v' (l ++ [⟨last + 1, f, t, fr, tr, 0⟩])) ∧ Kp w w' tb v := by
  obtain ⟨i0, hi0, hz0', hz1, hz2⟩ := info_parts info_rec
  have hba : Below w.heap.size w (w.alloc (.cells #[.int .i64 f, .int .i64 t, .bool fr, .bool tr, .int .i64 0] 43)) := bl_alloc (bl_refl w) _
  have H := hide h
  obtain ⟨c0, c1, f0, f1⟩ := cells2 (h.later hba).at0
  have hlt := h.lt
  obtain ⟨aA, cA, rfl⟩ := own_slice h.own
  clear h
  go_enter Try.func27, Try.ntmps27
  go_wp2_with fail
  refine (may_any (f, t) 65536 _).mono ?_
  rw [hm]
  rintro e w1 ⟨rfl, hb1⟩
  have hf := (hb1.block w.heap.size (by simp)).trans (heap_alloc_new w (.cells #[.int .i64 f, .int .i64 t, .bool fr, .bool tr, .int .i64 0] 43))
  obtain ⟨e0, e1, e2, e3, e4, ef⟩ := box5 hf
  have H1 := H.out.later (bl_trans hba hb1)
  obtain ⟨d0, d1, g0, g1⟩ := cells2 H1.at0
  have hl2 : decide ((256 : Int) ≤ (l.length : Int)) = false := by simp; omega
  have hne : w.heap.size ≠ tb := by omega
  have H2 := H1.last' (last + 1)
  have hb2 : Kp w (w1.setCell ⟨tb, 0, none⟩ (.int .i64 (last + 1))) tb (.slice aA l.length cA) := kp_set (kp_of (bl_trans hba hb1)) 0 _
  have hf2 := (Below.heap_setCell w1 ⟨tb, 0, none⟩ (.int .i64 (last + 1)) w.heap.size hne).trans hf
  have hw1 : w.heap.size < w1.heap.size := (Array.getElem?_eq_some_iff.1 hf).1
  have hs2 : (w1.setCell ⟨tb, 0, none⟩ (.int .i64 (last + 1))).heap.size = w1.heap.size := by simp [World.setCell]
  go_wp2
  obtain ⟨w2, hw2⟩ : ∃ w2, w1.setCell ⟨tb, 0, none⟩ (.int .i64 (last + 1)) = w2 := ⟨_, rfl⟩
  rw [hw2] at H2 hb2 hf2 hs2 ⊢
  clear c0 c1 f0 f1 e0 e1 e2 e3 e4 ef d0 d1 g0 g1 hw2 H1 hf hb1
  obtain ⟨e0, e1, e2, e3, e4, ef⟩ := box5 hf2
  obtain ⟨d0, d1, g0, g1⟩ := cells2 H2.at0
  have hB2 : base ≤ w2.heap.size := Nat.le_trans hB hb2.size
  have hfin : ∀ W v', (w2.alloc (.cells #[.int .i64 (last + 1), .int .i64 f, .int .i64 t, .bool fr, .bool tr, .int .i64 0] 82)).drew = W → ∀ W', W'.ownsRow base 82 6 v' (l.length + 1) (flatM l ++ [.int .i64 (last + 1), .int .i64 f, .int .i64 t, .bool fr, .bool tr, .int .i64 0]) → W.grownBy W' (Value.slice aA l.length cA).ownBlock → (v'.ownBlock = (Value.slice aA l.length cA).ownBlock ∨ ∃ k, v'.ownBlock = some k ∧ W.heap.size ≤ k) →
      Tab (W'.setCell ⟨tb, 1, none⟩ v') base tb (last + 1) v' (l ++ [⟨last + 1, f, t, fr, tr, 0⟩]) ∧ Kp w (W'.setCell ⟨tb, 1, none⟩ v') tb (.slice aA l.length cA) := by
    rintro W v' rfl W' ho hg ha
    have hb3 : Below w2.heap.size w2 (w2.alloc (.cells #[.int .i64 (last + 1), .int .i64 f, .int .i64 t, .bool fr, .bool tr, .int .i64 0] 82)).drew := bl_drew (bl_alloc (bl_refl w2) _)
    have H3 := H2.later hb3
    refine ⟨H3.row' hg (by rw [List.length_append, flatM_app]; exact ho) ha, ?_⟩
    exact kp_set (kp_grown (kp_below hb2 hb3) hg) 1 _
  have HFIN := hide hfin
  have HOWN := hide H2.own
  have HAT := hide H2.at0
  have hlt2 := H2.lt
  have HOFF := hide H2.off
  clear hfin H2 hs2
  go_region_law (refine step_append_lies _ (by rfl) (.tmp 49) (.tmp 56) 73 (by rfl) base 82 i0 (.agg #[.int .i64 0, .int .i64 0, .int .i64 0, .bool false, .bool false, .int .i64 0]) 6 40 Try.underlying73 hi0 hz0' hz1 hz2 rfl (by decide) (.slice aA l.length cA) l.length (flatM l) (by rfl) (own_below HOWN.out (bl_drew (bl_alloc (bl_refl w2) _))) ⟨w2.heap.size, 0, none⟩ 1 1 [.int .i64 (last + 1), .int .i64 f, .int .i64 t, .bool fr, .bool tr, .int .i64 0] (by rfl) (by rfl) (World.news_of_block (heap_drew (heap_alloc_new w2 _))) (by simp [Value.oneCell']) (by decide) (by unfold maxLen; omega) (by omega) (by simp; omega) (w2.heap.size + 1) (by simp) ?_; intro g3 cap3 w3 ho3 hg3 ha3 hlt3; obtain ⟨k0, k1, k2, k3⟩ := cells2 (heap_kept hg3 (heap_drew (heap_old (o := .cells #[.int .i64 (last + 1), .int .i64 f, .int .i64 t, .bool fr, .bool tr, .int .i64 0] 82) HAT.out)) HOFF.out))
  all_goals
    have hz := HFIN.out _ _ rfl _ ho3 hg3 (ha3.imp (fun h => h.symm) (fun h => ⟨g3, rfl, by rw [h]; simp⟩))
    obtain ⟨j0, j1, j2, j3⟩ := cells2 hz.1.at0
    have HZ := hide hz
    clear hz HFIN
    go_wp2
    go_ret2
    exact ⟨rfl, ⟨_, HZ.out.1⟩, HZ.out.2⟩
set_option maxHeartbeats 4000000 in
/-- Add at a full table. -/
theorem add_full (base tb : Nat) (last : Int) (v : Value) (l : List Mk) (f t : Int) (fr tr : Bool) (w : World) (h : Tab w base tb last v l) (hm : mayB (f, t) 65536 = true) (hl : 256 ≤ l.length) :
    Calls Try.prog 27 #[.pointer (some ⟨tb, 0, none⟩), .agg #[.int .i64 f, .int .i64 t, .bool fr, .bool tr, .int .i64 0]] w fun e w' => e = .returned (.tuple #[.int .i64 0, .int .i64 7]) ∧ Below w.heap.size w w' := by
  have hba : Below w.heap.size w (w.alloc (.cells #[.int .i64 f, .int .i64 t, .bool fr, .bool tr, .int .i64 0] 43)) := bl_alloc (bl_refl w) _
  have H := hide h
  obtain ⟨c0, c1, f0, f1⟩ := cells2 (h.later hba).at0
  obtain ⟨aA, cA, rfl⟩ := own_slice h.own
  clear h
  go_enter Try.func27, Try.ntmps27
  go_wp2_with fail
  refine (may_any (f, t) 65536 _).mono ?_
  rw [hm]
  rintro e w1 ⟨rfl, hb1⟩
  have hf := (hb1.block w.heap.size (by simp)).trans (heap_alloc_new w (.cells #[.int .i64 f, .int .i64 t, .bool fr, .bool tr, .int .i64 0] 43))
  obtain ⟨e0, e1, e2, e3, e4, ef⟩ := box5 hf
  have H1 := H.out.later (bl_trans hba hb1)
  obtain ⟨d0, d1, g0, g1⟩ := cells2 H1.at0
  have hl2 : decide ((256 : Int) ≤ (l.length : Int)) = true := by simp; omega
  have hbz := bl_trans hba hb1
  go_wp2
  go_ret2
  exact ⟨rfl, hbz⟩
theorem infoI : (Try.prog.info? 3).map (fun i => (i.zero, i.size, i.bytes)) = some (some (.int .i64 0), 1, 8) := by kernel_rfl
theorem ids1_any (r : Mk) (w : World) : Calls Try.prog 42 #[.agg #[.int .i64 r.id, .int .i64 r.f, .int .i64 r.t, .bool r.b, .bool r.c, .int .i64 r.p]] w fun e w' => e = .returned (.bool true) ∧ Below w.heap.size w w' := by
  obtain ⟨id, f, t, rb, rc, p⟩ := r
  go_enter Try.func42, Try.ntmps42
  go_wp2
  go_ret
  exact ⟨rfl, bl_alloc (bl_refl w) _⟩
def IdsInv (l : List Mk) (w : World) (s i : Value) (wr : World) : Prop :=
  ∃ k : Nat, i = .int .i64 k ∧ k ≤ l.length ∧ Hid (wr.ownsRow w.heap.size 3 1 s k ((l.take k).map fun r => .int .i64 r.id)) ∧ Below w.heap.size w wr
set_option maxHeartbeats 4000000 in
theorem idsall_any (base tb : Nat) (last : Int) (v : Value) (l : List Mk) (w : World) (h : Tab w base tb last v l) (hl : l.length ≤ 100000) :
    Calls Try.prog 41 #[.pointer (some ⟨tb, 0, none⟩), .func (.func 42) #[] #[]] w fun e w' => (∃ v', e = .returned v' ∧ w'.ownsRow w.heap.size 3 1 v' l.length (l.map fun r => .int .i64 r.id)) ∧ Below w.heap.size w w' := by
  obtain ⟨i0, hi0, hz0', hz1, hz2⟩ := info_parts infoI
  obtain ⟨c0, c1, f0, f1⟩ := cells2 h.at0
  have H := hide h
  rcases h.form with ⟨rfl, rfl⟩ | ⟨g, c, rfl, hg1, hg2, hg3, hg4, hg5⟩
  · clear h
    go_enter Try.func41, Try.ntmps41
    go_wp2
    refine wp_loop_rounds 1 ?_
    rw [rounds_succ]
    go_wp2
    go_ret
    exact ⟨⟨_, rfl, ⟨rfl, .inl ⟨rfl, rfl⟩⟩⟩, bl_refl w⟩
  unfold maxLen at hg4
  clear h
  go_enter Try.func41, Try.ntmps41
  go_wp2
  go_loopw [5, 15] (fun s i wr => IdsInv l w s i wr) (fun _ i _ => l.length - (intOf i).toNat)
  case atStart => exact ⟨0, rfl, Nat.zero_le _, hide ⟨rfl, .inl ⟨rfl, rfl⟩⟩, bl_refl w⟩
  case round =>
    obtain ⟨k, rfl, hk, HK, hbl⟩ := hrel
    obtain ⟨aV, cV, hkv⟩ := own_slice HK.out
    subst hkv
    by_cases hlt : k < l.length
    · obtain ⟨x0, x1, x2, x3, x4, x5⟩ := (H.out.later hbl).cell k hlt
      have hfin : ∀ (v' : Value) (W : World), W.ownsRow w.heap.size 3 1 v' (k + 1) (((l.take k).map fun r => Value.int .i64 r.id) ++ [.int .i64 l[k].id]) → Hid (W.ownsRow w.heap.size 3 1 v' (k + 1) ((l.take (k + 1)).map fun r => .int .i64 r.id)) := fun v' W h => hide (by rw [List.take_succ_eq_append_getElem hlt, List.map_append]; exact h)
      have HFIN := hide hfin
      have hcall := fun W => ids1_any l[k] W
      clear hfin
      generalize l[k] = r at *
      obtain ⟨id, f, t, rb, rc, p⟩ := r
      simp only at x0 x1 x2 x3 x4 x5
      have HCALL := hide hcall
      clear hcall
      go_wp2_with fail
      refine (HCALL.out _).mono ?_
      rintro e w2 ⟨rfl, hb2⟩
      have hba : Below wr.heap.size wr w2 := bl_trans (bl_alloc (bl_refl wr) (.cells #[.int .i64 id, .int .i64 f, .int .i64 t, .bool rb, .bool rc, .int .i64 p] 82)) hb2
      have hf := (hb2.block wr.heap.size (by simp)).trans (heap_alloc_new wr (.cells #[.int .i64 id, .int .i64 f, .int .i64 t, .bool rb, .bool rc, .int .i64 p] 82))
      have z0 : w2.cell? ⟨wr.heap.size, 0, none⟩ = some (.int .i64 id) := by rw [cell_of_row w2 wr.heap.size 0 _ _ _ hf]; rfl
      have hrow := own_below HK.out hba
      have hbe2 := bl_trans hbl hba
      have hlz : w.heap.size ≤ w2.heap.size := hbe2.size
      clear hf HCALL
      go_wp2_with (at_builtin; (refine wpList_push w2 rfl _ _ 28 rfl w.heap.size 3 i0 (.int .i64 0) 1 8 Try.underlying28 hi0 hz0' hz1 hz2 rfl (by decide) (.slice aV k cV) k ((l.take k).map fun r => .int .i64 r.id) rfl hrow 1 #[.int .i64 id] rfl rfl (by simp [Value.oneCell']) (by omega) (by decide) (by omega) ?_); intro v' w4 hv4 hgr4 hat)
      have hb4 : Below w.heap.size w w4 := bl_own hbe2 hrow hgr4 (Nat.le_refl _)
      refine ⟨?_, by first | (simp [intOf]; done) | (simp [intOf]; omega)⟩
      exact ⟨k + 1, by go_num, by omega, HFIN.out _ _ hv4, hb4⟩
    · obtain rfl : k = l.length := by omega
      have hfin : Hid (wr.ownsRow w.heap.size 3 1 (.slice aV l.length cV) l.length (l.map fun r => .int .i64 r.id)) := hide (by have := HK.out; rw [List.take_length] at this; exact this)
      clear HK
      go_wp2
      go_ret
      exact ⟨⟨_, rfl, hfin.out⟩, hbl⟩
theorem idsT_any (base tb : Nat) (last : Int) (v : Value) (l : List Mk) (w : World) (h : Tab w base tb last v l) (hl : l.length ≤ 100000) :
    Calls Try.prog 19 #[.pointer (some ⟨tb, 0, none⟩)] w fun e w' => (∃ v', e = .returned v' ∧ w'.ownsRow w.heap.size 3 1 v' l.length (l.map fun r => .int .i64 r.id)) ∧ Below w.heap.size w w' := by
  have HC := hide (idsall_any base tb last v l w h hl)
  clear h
  go_enter Try.func19, Try.ntmps19
  go_wp2_with fail
  refine HC.out.mono ?_
  rintro e w1 ⟨⟨v', rfl, ho⟩, hb1⟩
  have HO := hide ho
  obtain ⟨a, c, rfl⟩ := own_slice ho
  clear ho
  go_wp2
  go_ret
  exact ⟨⟨_, rfl, HO.out⟩, hb1⟩
end Go.Proofs.Ytjmoeahlbgdkbaa
