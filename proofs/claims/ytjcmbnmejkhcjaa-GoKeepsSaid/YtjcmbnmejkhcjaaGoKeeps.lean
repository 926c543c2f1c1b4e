/- Extended, no anchor is lost, and each is covered; else all are carets; there are no more than there were. Conditions: none beyond the form's own. -/
import Derived.Test.YtjcmbnmejkhcjaaRows
import Derived.Test.YtjcmbnmejkhcjaaArgs
import Derived.Test.YtjcmbnmejkhcjaaGoB
import Derived.Test.YtjcmbnmejkhcjaaSelArgs
import Derived.Test.YtjcmbnmejkhcjaaPrArgs
import Derived.Test.YtjcmbnmejkhcjaaLow
import Derived.Deep.RegionHeld3
import Derived.BigQuiet
namespace Go.Proofs.Ytjcmbnmejkhcjaa.goKeeps
open Go.Proofs.Ytjcmbnmejkhcjaa
open Go.ChangeShapes Go.WideShapes Go.ChangeAt Go.RowKit Go.Deep
open Go.ChangeMaps (open_string shut_string)
set_option linter.unusedVariables false

theorem own : ownKnob Try.prog.godebug = none := by kernel_rfl
theorem laidOut : laidOutB Try.prog = true := by kernel_rfl
-- opt:16000000
open SpanM SelM
attribute [local go_sem ↓] Go.wp_at_zero Go.wp_at_succ
def inB (s : Sp) (x : Int) : Bool := decide ((ky s).1 ≤ x ∧ x ≤ (ky s).2)
def inS (l : List Sp) (k : Int) (n : Nat) : Bool := (l.take n).any fun s => inB s k
theorem inS_zero (l : List Sp) (k : Int) : inS l k 0 = false := by simp [inS]
theorem inS_next (l : List Sp) (k : Int) (n : Nat) (h : n < l.length) : inS l k (n + 1) = (inS l k n || inB l[n] k) := by
  unfold inS
  rw [List.take_succ_eq_append_getElem h, List.any_append]; simp
theorem inS_iff (l : List Sp) (k : Int) : inS l k l.length = true ↔ InL l k := by
  unfold inS InL inB
  rw [List.take_of_length_le (Nat.le_refl _), List.any_eq_true]
  simp only [decide_eq_true_eq]
def lowG (n : Nat) (s : Sp) : Sp := ((lowN s.1 (n + 1) : Nat), (lowN s.2 (n + 1) : Nat))
theorem lowG_wi (n : Nat) (s : Sp) : Wi 0 n (lowG n s) := by
  have h1 := lowN_lt s.1 (n + 1) (by omega)
  have h2 := lowN_lt s.2 (n + 1) (by omega)
  unfold Wi lowG ky
  dsimp only
  omega
theorem go_has (L : List UInt8) (way : Int) (U : List Sp) (n : Nat) (h : n < U.length) : inS (mrgF (sortL (U.map (goM L way true)))) U[n].1 (mrgF (sortL (U.map (goM L way true)))).length = true := by
  rw [inS_iff, norm_in]
  refine ⟨goM L way true U[n], List.mem_map.2 ⟨_, List.getElem_mem h, rfl⟩, ?_⟩
  have e : goM L way true U[n] = (U[n].1, ((stepM L U[n].2.toNat way : Nat) : Int)) := rfl
  rw [e]
  unfold ky
  dsimp only
  omega
theorem go_car (L : List UInt8) (way : Int) (U : List Sp) : ∀ x ∈ mrgF (sortL (U.map (goM L way false))), x.1 = x.2 := by
  refine norm_car _ ?_
  intro x hx
  obtain ⟨t, _, rfl⟩ := List.mem_map.1 hx
  rfl
def KpInv (n : Nat) (l : List Sp) (w0 : World) (m i : Value) (wr : World) : Prop :=
  ∃ k : Nat, i = .int .i64 k ∧ k ≤ l.length ∧ Hid (wr.ownsRow w0.heap.size 44 2 m k (flat ((l.take k).map (lowG n)))) ∧ Hid (Below w0.heap.size w0 wr)
set_option maxRecDepth 100000 in
set_option maxHeartbeats 16000000 in
theorem walk (a0 : ByteArray) (a1 : Value) (l1 : List SpanM.Sp) (a2 : Int) (w : World) (w0 : a0.size ≤ maxLen) (w1 : SpAt w a1 l1) (b1 : ∀ s ∈ l1, Wf s) (w2 : (Lit.int .i64 a2).wf = true) :
    Calls Try.prog 8 #[.string a0, a1, .int .i64 a2] w fun e w' => e = .returned (.bool true) ∧ Below w.heap.size w w' := by
  obtain ⟨i0, hi0, hz0', hz1, hz2⟩ := info_parts info_sl
  obtain ⟨vA, vc, rfl⟩ := spat_len w1
  by_cases h120 : 120 < a0.size
  · have g0 : decide (120 < (a0.size : Int)) = true := decide_eq_true (by omega)
    clear w1 b1 h120
    go_enter Try.func8, Try.ntmps8
    go_wp2_with fail
    refine (awake9_any _).mono ?_
    rintro e w9 ⟨rfl, hb⟩
    go_wp2
    go_ret
    exact ⟨rfl, hb⟩
  have g0 : decide (120 < (a0.size : Int)) = false := decide_eq_false (by omega)
  by_cases h0 : l1.length = 0
  · have g1 : ((l1.length : Int) == 0) = true := beq_iff_eq.2 (by omega)
    have g1' : (l1.length == 0) = true := beq_iff_eq.2 (by omega)
    clear w1 b1 h120 h0
    go_enter Try.func8, Try.ntmps8
    go_wp2_with fail
    refine (awake9_any _).mono ?_
    rintro e w9 ⟨rfl, hb⟩
    go_wp2
    go_ret
    exact ⟨rfl, hb⟩
  have g1 : ((l1.length : Int) == 0) = false := beq_eq_false_iff_ne.2 (by omega)
  have g1' : (l1.length == 0) = false := beq_eq_false_iff_ne.2 (by omega)
  by_cases h8 : 8 < l1.length
  · have g2 : decide (8 < (l1.length : Int)) = true := decide_eq_true (by omega)
    have g2' : decide (8 < l1.length) = true := decide_eq_true (by omega)
    clear w1 b1 h120 h0 h8
    go_enter Try.func8, Try.ntmps8
    go_wp2_with fail
    refine (awake9_any _).mono ?_
    rintro e w9 ⟨rfl, hb⟩
    go_wp2
    go_ret
    exact ⟨rfl, hb⟩
  have g2 : decide (8 < (l1.length : Int)) = false := decide_eq_false (by omega)
  have g2' : decide (8 < l1.length) = false := decide_eq_false (by omega)
  have H1 := hide w1
  have hlw : ∀ W, Calls Try.prog 14 #[.int .i64 a2, .int .i64 10] W fun e w' => e = .returned (.int .i64 (lowN a2 10)) ∧ W = w' := fun W => low_any a2 10 W (by omega) (by omega)
  have hk := lowN_lt a2 10 (by omega)
  generalize lowN a2 10 = k at *
  have HLW := hide hlw
  obtain ⟨l, hl⟩ : ∃ l, l1.map (lowG a0.size) = l := ⟨_, rfl⟩
  have hll : l.length = l1.length := by rw [← hl]; simp
  have hwi : ∀ s ∈ l, Wi 0 a0.size s := by
    rw [← hl]
    intro s hs
    obtain ⟨t, _, rfl⟩ := List.mem_map.1 hs
    exact lowG_wi _ t
  obtain ⟨e1, e2⟩ := nr_good a0.size l (by omega) (by omega) (fun j hj => may_wi (hwi _ (List.getElem_mem hj)))
  have hn1 := fun (W : World) (v : Value) (h : SpAt W v l) => norm_any stab20 v l a0.size W h (.inl (by omega))
  rw [e1, e2] at hn1
  have hwu := norm_wi 0 a0.size l hwi
  have hle := norm_len l
  have hpo := norm_pos l (by omega)
  have hse := norm_self _ (norm_apt l)
  obtain ⟨U, hU⟩ : ∃ U, mrgF (sortL l) = U := ⟨_, rfl⟩
  rw [hU] at hn1 hwu hle hpo hse
  have hU8 : U.length ≤ 8 := by omega
  obtain ⟨VA, hVA⟩ : ∃ V, mrgF (sortL (U.map (goM a0.data.toList (1 + (k : Int)) true))) = V := ⟨_, rfl⟩
  obtain ⟨VB, hVB⟩ : ∃ V, mrgF (sortL (U.map (goM a0.data.toList (1 + (k : Int)) false))) = V := ⟨_, rfl⟩
  have hga := fun (W : World) (r : Nat) (v : Value) (hL : LnAt W r a0) (hv : SpAt W v U) => go_any hL (by omega) v U (1 + (k : Int)) true (by omega) (by omega) hv hpo (by omega) hwu VA (by rw [hse]; exact hVA)
  have hgb := fun (W : World) (r : Nat) (v : Value) (hL : LnAt W r a0) (hv : SpAt W v U) => go_any hL (by omega) v U (1 + (k : Int)) false (by omega) (by omega) hv hpo (by omega) hwu VB (by rw [hse]; exact hVB)
  have hhas := fun n (h : n < U.length) => go_has a0.data.toList (1 + (k : Int)) U n h
  rw [hVA] at hhas
  have hcar := go_car a0.data.toList (1 + (k : Int)) U
  rw [hVB] at hcar
  have hA1 := norm_len (U.map (goM a0.data.toList (1 + (k : Int)) true))
  have hA2 := norm_pos (U.map (goM a0.data.toList (1 + (k : Int)) true)) (by rw [List.length_map]; exact hpo)
  have hB1 := norm_len (U.map (goM a0.data.toList (1 + (k : Int)) false))
  have hB2 := norm_pos (U.map (goM a0.data.toList (1 + (k : Int)) false)) (by rw [List.length_map]; exact hpo)
  rw [hVA] at hA1 hA2
  rw [hVB] at hB1 hB2
  rw [List.length_map] at hA1 hB1
  have t1 : ((VA.length : Int) == 0) = false := beq_eq_false_iff_ne.2 (by omega)
  have t1' : (VA.length == 0) = false := beq_eq_false_iff_ne.2 (by omega)
  have t2 : ((VB.length : Int) == 0) = false := beq_eq_false_iff_ne.2 (by omega)
  have t2' : (VB.length == 0) = false := beq_eq_false_iff_ne.2 (by omega)
  have t3 : decide ((U.length : Int) < (VA.length : Int)) = false := decide_eq_false (by omega)
  have t3' : decide (U.length < VA.length) = false := decide_eq_false (by omega)
  have t4 : decide ((U.length : Int) < (VB.length : Int)) = false := decide_eq_false (by omega)
  have t4' : decide (U.length < VB.length) = false := decide_eq_false (by omega)
  have T34 := hide (And.intro t3 (And.intro t3' (And.intro t4 t4')))
  have HN1 := hide hn1
  have HGA := hide hga
  have HGB := hide hgb
  have HHAS := hide hhas
  have HCAR := hide hcar
  have HL1 := hide (And.intro hl hll)
  have hl18 : l1.length ≤ 8 := by omega
  have hs120 : a0.size ≤ 120 := by omega
  have hA8 : VA.length ≤ 8 := by omega
  have hB8 : VB.length ≤ 8 := by omega
  clear hlw hn1 hga hgb hhas hcar hwi hwu hse hU hVA hVB e1 e2 hA1 hA2 hB1 hB2 hl hll hle hpo h120 h0 h8 w1 b1 t3 t3' t4 t4'
  go_enter Try.func8, Try.ntmps8
  go_wp2_with fail
  refine (of9_b a0 _ (by omega)).mono ?_
  rintro e w1 ⟨r, rfl, hL, hb1, _⟩
  have c0 := ln_c0 w1 r
  have HB := hide (bl_trans hb1 (ln_b0 w1 r))
  have HL := hide (hL.bl (ln_b0 w1 r))
  clear hL hb1 g0 g1 g1' g2 g2'
  go_wp2
  generalize (w1.alloc (.cells #[.pointer (some ⟨r, 0, none⟩)] 25)) = wa at *
  go_loopw [9, 10] (fun m i wr => KpInv a0.size l1 wa m i wr) (fun _ i _ => l1.length - (intOf i).toNat)
  case atStart => exact ⟨0, rfl, Nat.zero_le _, hide ⟨rfl, .inl ⟨rfl, rfl⟩⟩, hide (bl_refl wa)⟩
  case round =>
    obtain ⟨n, rfl, hn, HV, HBL⟩ := hrel
    obtain ⟨aV, cV, rfl⟩ := own_slice HV.out
    by_cases hlt : n < l1.length
    · have gl : decide (n < l1.length) = true := decide_eq_true hlt
      obtain ⟨b1, o1, c1', hv1, hc1, hm1, hlb1, hcell1⟩ := spat_some H1.out (by omega)
      injection hv1 with hv1 _ hv1c
      subst hv1 hv1c
      unfold maxLen at hm1
      have hBs := HB.out.size
      have x1 := cell_later HBL.out (cell_later HB.out (hcell1 n hlt).1)
      have x2 := cell_later HBL.out (cell_later HB.out (hcell1 n hlt).2)
      have ag : (Value.slice aV n cV).ownBlock ≠ some b1 := fun h => by have := (World.ownsRow.lt HV.out _ h).1; omega
      have hsu : flat ((l1.take n).map (lowG a0.size)) ++ [Value.int .i64 (lowG a0.size l1[n]).1, .int .i64 (lowG a0.size l1[n]).2] = flat ((l1.take (n + 1)).map (lowG a0.size)) := by
        rw [List.take_succ_eq_append_getElem hlt, List.map_append, flat_app]; rfl
      clear hcell1 hm1
      generalize l1[n] = s at *
      obtain ⟨s1, s2⟩ := s
      have q0 : IntKind.i64.wrap ((a0.size : Int) + 1) = (a0.size : Int) + 1 := by rw [IntKind.wrap_i64]; omega
      have HX1 : Hid (∀ W, Calls Try.prog 14 #[.int .i64 s1, .int .i64 ((a0.size : Int) + 1)] W fun e w' => e = .returned (.int .i64 (lowG a0.size (s1, s2)).1) ∧ W = w') := hide (fun W => low_any s1 (a0.size + 1) W (by omega) (by omega))
      have HX2 : Hid (∀ W, Calls Try.prog 14 #[.int .i64 s2, .int .i64 ((a0.size : Int) + 1)] W fun e w' => e = .returned (.int .i64 (lowG a0.size (s1, s2)).2) ∧ W = w') := hide (fun W => low_any s2 (a0.size + 1) W (by omega) (by omega))
      generalize (lowG a0.size (s1, s2)).1 = y1 at *
      generalize (lowG a0.size (s1, s2)).2 = y2 at *
      have HSU := hide hsu
      have hws := HBL.out.size
      have HKEEP := hide (fun W (hh : Below wr.heap.size wr W) => And.intro (cell_later hh x1) (cell_later hh x2))
      clear hsu c0
      go_wp2
      go_region_held3 (fun W => W.cell? ⟨b1, o1 + n * 2, none⟩ = some (.int .i64 s1) ∧ W.cell? ⟨b1, o1 + n * 2 + 1, none⟩ = some (.int .i64 s2))
        (first
          | go_keep
          | (refine HKEEP.out _ ?_; first | assumption | exact bl_refl _ | exact bl_drew (bl_refl _) | exact bl_alloc (bl_refl _) _ | exact bl_drew (bl_alloc (bl_refl _) _) | exact bl_alloc (bl_drew (bl_refl _)) _)
          | (go_split_ands
             refine ⟨?_, ?_⟩
             · (rw [hg8.cell_far _ (by simp; omega) (Ne.symm ag)]; assumption)
             · (rw [hg8.cell_far _ (by simp; omega) (Ne.symm ag)]; assumption)))
        (first
          | (go_at_call 14
             first
               | ((with_reducible refine (HX1.out _).mono ?_); rintro e wx ⟨rfl, hwx⟩; subst hwx)
               | ((with_reducible refine (HX2.out _).mono ?_); rintro e wx ⟨rfl, hwx⟩; subst hwx))
          | (refine step_src _ (by rfl) (.tmp 48) (.tmp 68) 41 (by rfl) wa.heap.size 44 i0 (.agg #[.int .i64 0, .int .i64 0]) 2 16 Try.underlying41 hi0 hz0' hz1 hz2 rfl (by decide) (.slice aV n cV) n (flat ((l1.take n).map (lowG a0.size))) (by rfl) (own_below HV.out (by repeat (first | exact bl_refl _ | refine bl_drew ?_ | refine bl_alloc ?_ _))) (some ⟨_, 0, none⟩) 1 1 [.int .i64 y1, .int .i64 y2] (by rfl) (src_block (cs := #[.int .i64 y1, .int .i64 y2]) (by (try refine heap_drew ?_); first | exact heap_new (by simp) | exact heap_old (heap_new (by simp))) rfl) (by simp [Value.oneCell']) (by omega) (by decide) (by simp; omega) ?_; intro v8 w8 hv8 hg8; have B8 := bl_grown (a := wa) (bl_trans HBL.out (by repeat (first | exact bl_refl _ | refine bl_drew ?_ | refine bl_alloc ?_ _))) hg8 (fun j hj => (World.ownsRow.lt HV.out j hj).1))
          | fail)
      all_goals
        rw [HSU.out] at hv8
        have HV8 := hide hv8
        have HB8 := hide B8
        clear hv8 hg8 B8
        go_wp2
        refine ⟨?_, by first | (simp [intOf]; done) | (simp [intOf]; omega)⟩
        exact ⟨n + 1, by go_num, by omega, HV8, HB8⟩
    · obtain rfl : n = l1.length := by omega
      have gl : decide (l1.length < l1.length) = false := by simp
      have hv9 := HV.out
      rw [List.take_of_length_le (Nat.le_refl _), HL1.out.1] at hv9
      have S2 := own_spatL (l := l) (by rw [HL1.out.2]; exact hv9)
      have HC := hide (HN1.out _ _ S2)
      have c0 := cell_later HBL.out c0
      have HL := hide (HL.out.bl HBL.out)
      have HB := hide (bl_trans HB.out HBL.out)
      clear hv9 HV HN1 H1 hlt S2 HBL
      go_wp2_with fail
      refine HC.out.mono ?_
      rintro e w5 ⟨v5, rfl, hb5, ho5⟩
      have SU := own_spatL ho5
      have hpU : 0 < U.length := by
        have := T34.out.2.2
        rcases Nat.eq_zero_or_pos U.length with h | h
        · have h2 := of_decide_eq_false T34.out.1
          have h3 := of_decide_eq_false T34.out.2.1
          have h4 := beq_eq_false_iff_ne.1 t1'
          omega
        · exact h
      obtain ⟨xU, oU, cU, rfl, _, _, _, hcU⟩ := spat_some SU hpU
      have c0 := cell_later hb5 c0
      have HB5 := hide (bl_trans HB.out hb5)
      have HL5 := hide (HL.out.bl hb5)
      have HCU := hide (fun (W : World) (hh : Below w5.heap.size w5 W) n (h : n < U.length) => And.intro (cell_later hh (hcU n h).1) (cell_later hh (hcU n h).2))
      have HGA5 := hide (fun (W : World) (hh : Below w5.heap.size w5 W) => HGA.out W r _ (HL5.out.bl hh) (spat_below SU hh))
      have HGB5 := hide (fun (W : World) (hh : Below w5.heap.size w5 W) => HGB.out W r _ (HL5.out.bl hh) (spat_below SU hh))
      have qk : IntKind.i64.wrap (1 + (k : Int)) = 1 + (k : Int) := by rw [IntKind.wrap_i64]; omega
      clear ho5 SU hcU HGA HGB HC HL HB hb5
      go_wp2
      go_region_held3 (fun W => W.cell? ⟨w1.heap.size, 0, none⟩ = some (.pointer (some ⟨r, 0, none⟩)))
        (first | go_keep | assumption)
        (first
          | (go_at_call 14; (with_reducible refine (HLW.out _).mono ?_); rintro e wx ⟨rfl, hwx⟩; subst hwx)
          | (go_at_call 18
             refine (HGA5.out _ (by repeat (first | exact bl_refl _ | refine bl_drew ?_ | refine bl_alloc ?_ _))).mono ?_
             rintro e w6 ⟨v6, rfl, hb6, ho6⟩
             have B6 : Below w5.heap.size w5 w6 := bl_trans (by repeat (first | exact bl_refl _ | refine bl_drew ?_ | refine bl_alloc ?_ _)) hb6
             have c6 := cell_later B6 c0
             clear hb6)
          | fail)
      all_goals
        have SA := own_spatL ho6
        have hpA : 0 < VA.length := by
          have h4 := beq_eq_false_iff_ne.1 t1'
          omega
        obtain ⟨xA, oA, cA, rfl, _, _, _, hcA⟩ := spat_some SA hpA
        have HB6 := hide B6
        clear ho6 c0 B6
        go_wp2
        go_region_held3 (fun W => W.cell? ⟨w1.heap.size, 0, none⟩ = some (.pointer (some ⟨r, 0, none⟩)))
          (first | go_keep | assumption)
          (first
            | (go_at_call 14; (with_reducible refine (HLW.out _).mono ?_); rintro e wx ⟨rfl, hwx⟩; subst hwx)
            | (go_at_call 18
               refine (HGB5.out _ (bl_trans HB6.out (by repeat (first | exact bl_refl _ | refine bl_drew ?_ | refine bl_alloc ?_ _)))).mono ?_
               rintro e w7 ⟨v7, rfl, hb7, ho7⟩
               have B7 : Below w6.heap.size w6 w7 := bl_trans (by repeat (first | exact bl_refl _ | refine bl_drew ?_ | refine bl_alloc ?_ _)) hb7
               have c7 := cell_later B7 c6
               clear hb7)
            | fail)
        all_goals
          have SB := own_spatL ho7
          have hpB : 0 < VB.length := by
            have h4 := beq_eq_false_iff_ne.1 t2'
            omega
          obtain ⟨xB, oB, cB, rfl, _, _, _, hcB⟩ := spat_some SB hpB
          have HCB := hide (fun (W : World) (hh : Below w7.heap.size w7 W) n (h : n < VB.length) => And.intro (cell_later hh (hcB n h).1) (cell_later hh (hcB n h).2))
          have HCA := hide (fun (W : World) (hh : Below w7.heap.size w7 W) n (h : n < VA.length) => And.intro (cell_later hh (cell_later B7 (hcA n h).1)) (cell_later hh (cell_later B7 (hcA n h).2)))
          have HB7 := hide (bl_trans HB6.out B7)
          have HB9 := hide (bl_trans HB5.out HB7.out)
          obtain ⟨t3, t3', t4, t4'⟩ := T34.out
          clear ho7 c6 c7 B7 SA SB hcA hcB HB5 HB6 T34 HGA5 HGB5 HL5 HLW
          go_wp2
          clear t1 t1' t2 t2' t3 t3' t4 t4'
          go_loopw [17] (fun i wr => ∃ n m : Nat, i = .int .i64 n ∧ n ≤ U.length ∧ Hid (w7.drewN m = wr)) (fun i _ => U.length - (intOf i).toNat)
          case atStart => exact ⟨0, 0, rfl, Nat.zero_le _, hide rfl⟩
          case round =>
            obtain ⟨n, md, rfl, hn, HD⟩ := hrel
            have hd := HD.out
            have hbd : Below w7.heap.size w7 wr := by rw [← hd]; exact bl_drewN (bl_refl w7) md
            by_cases hlt : n < U.length
            · have gl : decide (n < U.length) = true := decide_eq_true hlt
              have hUc := (HCU.out _ (bl_trans HB7.out hbd) n hlt).1
              have HH := hide (HHAS.out n hlt)
              have HUC := hide hUc
              generalize U[n].1 = pp at *
              clear hUc
              go_wp2
              go_loopw [18, 19] (fun f i w' => ∃ k m : Nat, i = .int .i64 k ∧ k ≤ VA.length ∧ f = .bool (inS VA pp k) ∧ Hid (wr.drewN m = w') ∧ Hid (Below wr.heap.size wr w')) (fun _ i _ => VA.length - (intOf i).toNat)
              case atStart => exact ⟨0, 0, rfl, Nat.zero_le _, by rw [inS_zero], hide rfl, hide (bl_refl _)⟩
              case round =>
                obtain ⟨q, mq, rfl, hq, rfl, HE, HBE⟩ := hrel
                by_cases hlq : q < VA.length
                · have glq : decide (q < VA.length) = true := decide_eq_true hlq
                  have hnx := inS_next VA pp q hlq
                  rcases hf : inS VA pp q with _ | _
                  · rw [hf, Bool.false_or] at hnx
                    have hbe := bl_trans hbd HBE.out
                    obtain ⟨y1, y2⟩ := HCA.out _ hbe q hlq
                    have y0 := cell_later HBE.out HUC.out
                    clear hf hbe hd hbd
                    generalize VA[q] = s at *
                    obtain ⟨s1, s2⟩ := s
                    dsimp only at y1 y2
                    unfold inB ky at hnx
                    dsimp only at hnx
                    rcases Int.lt_trichotomy s1 s2 with hc | hc | hc
                    · have m1 : min s1 s2 = s1 := by omega
                      have m2 : max s1 s2 = s2 := by omega
                      have d1 : s1 ≤ s2 := by omega
                      have d2 : ¬ s2 < s1 := by omega
                      have d3 : ¬ s2 ≤ s1 := by omega
                      rw [m1, m2] at hnx
                      by_cases k1 : s1 ≤ pp
                      · by_cases k2 : pp ≤ s2
                        · have r1 : decide (s1 ≤ pp) = true := decide_eq_true k1
                          have r2 : decide (pp ≤ s2) = true := decide_eq_true k2
                          rw [decide_eq_true ⟨k1, k2⟩] at hnx
                          have HNX := hide hnx
                          clear hnx k1 k2 hc
                          go_wp2
                          go_quiet (fail)
                          go_wp2
                          refine ⟨?_, by first | (simp [intOf]; done) | (simp [intOf]; omega)⟩
                          exact ⟨q + 1, mq + nq, by go_num, by omega, by rw [HNX.out], hide (by rw [← HE.out, World.drewN_drewN]), hide (bl_drewN HBE.out _)⟩
                        · have r1 : decide (s1 ≤ pp) = true := decide_eq_true k1
                          have r2 : decide (pp ≤ s2) = false := decide_eq_false k2
                          rw [decide_eq_false (fun h => k2 h.2)] at hnx
                          have HNX := hide hnx
                          clear hnx k1 k2 hc
                          go_wp2
                          go_quiet (fail)
                          go_wp2
                          refine ⟨?_, by first | (simp [intOf]; done) | (simp [intOf]; omega)⟩
                          exact ⟨q + 1, mq + nq, by go_num, by omega, by rw [HNX.out], hide (by rw [← HE.out, World.drewN_drewN]), hide (bl_drewN HBE.out _)⟩
                      · have r1 : decide (s1 ≤ pp) = false := decide_eq_false k1
                        rw [decide_eq_false (fun h => k1 h.1)] at hnx
                        have HNX := hide hnx
                        clear hnx k1 hc
                        go_wp2
                        go_quiet (fail)
                        go_wp2
                        refine ⟨?_, by first | (simp [intOf]; done) | (simp [intOf]; omega)⟩
                        exact ⟨q + 1, mq + nq, by go_num, by omega, by rw [HNX.out], hide (by rw [← HE.out, World.drewN_drewN]), hide (bl_drewN HBE.out _)⟩
                    · subst hc
                      have m1 : min s1 s1 = s1 := by omega
                      have m2 : max s1 s1 = s1 := by omega
                      have d2 : ¬ s1 < s1 := by omega
                      rw [m1, m2] at hnx
                      by_cases k1 : s1 ≤ pp
                      · by_cases k2 : pp ≤ s1
                        · have r1 : decide (s1 ≤ pp) = true := decide_eq_true k1
                          have r2 : decide (pp ≤ s1) = true := decide_eq_true k2
                          rw [decide_eq_true ⟨k1, k2⟩] at hnx
                          have HNX := hide hnx
                          clear hnx k1 k2
                          go_wp2
                          go_quiet (fail)
                          go_wp2
                          refine ⟨?_, by first | (simp [intOf]; done) | (simp [intOf]; omega)⟩
                          exact ⟨q + 1, mq + nq, by go_num, by omega, by rw [HNX.out], hide (by rw [← HE.out, World.drewN_drewN]), hide (bl_drewN HBE.out _)⟩
                        · have r1 : decide (s1 ≤ pp) = true := decide_eq_true k1
                          have r2 : decide (pp ≤ s1) = false := decide_eq_false k2
                          rw [decide_eq_false (fun h => k2 h.2)] at hnx
                          have HNX := hide hnx
                          clear hnx k1 k2
                          go_wp2
                          go_quiet (fail)
                          go_wp2
                          refine ⟨?_, by first | (simp [intOf]; done) | (simp [intOf]; omega)⟩
                          exact ⟨q + 1, mq + nq, by go_num, by omega, by rw [HNX.out], hide (by rw [← HE.out, World.drewN_drewN]), hide (bl_drewN HBE.out _)⟩
                      · have r1 : decide (s1 ≤ pp) = false := decide_eq_false k1
                        rw [decide_eq_false (fun h => k1 h.1)] at hnx
                        have HNX := hide hnx
                        clear hnx k1
                        go_wp2
                        go_quiet (fail)
                        go_wp2
                        refine ⟨?_, by first | (simp [intOf]; done) | (simp [intOf]; omega)⟩
                        exact ⟨q + 1, mq + nq, by go_num, by omega, by rw [HNX.out], hide (by rw [← HE.out, World.drewN_drewN]), hide (bl_drewN HBE.out _)⟩
                    · have m1 : min s1 s2 = s2 := by omega
                      have m2 : max s1 s2 = s1 := by omega
                      have d1 : s2 ≤ s1 := by omega
                      have d2 : ¬ s1 < s2 := by omega
                      have d3 : ¬ s1 ≤ s2 := by omega
                      rw [m1, m2] at hnx
                      by_cases k1 : s2 ≤ pp
                      · by_cases k2 : pp ≤ s1
                        · have r1 : decide (s2 ≤ pp) = true := decide_eq_true k1
                          have r2 : decide (pp ≤ s1) = true := decide_eq_true k2
                          rw [decide_eq_true ⟨k1, k2⟩] at hnx
                          have HNX := hide hnx
                          clear hnx k1 k2 hc
                          go_wp2
                          go_quiet (fail)
                          go_wp2
                          refine ⟨?_, by first | (simp [intOf]; done) | (simp [intOf]; omega)⟩
                          exact ⟨q + 1, mq + nq, by go_num, by omega, by rw [HNX.out], hide (by rw [← HE.out, World.drewN_drewN]), hide (bl_drewN HBE.out _)⟩
                        · have r1 : decide (s2 ≤ pp) = true := decide_eq_true k1
                          have r2 : decide (pp ≤ s1) = false := decide_eq_false k2
                          rw [decide_eq_false (fun h => k2 h.2)] at hnx
                          have HNX := hide hnx
                          clear hnx k1 k2 hc
                          go_wp2
                          go_quiet (fail)
                          go_wp2
                          refine ⟨?_, by first | (simp [intOf]; done) | (simp [intOf]; omega)⟩
                          exact ⟨q + 1, mq + nq, by go_num, by omega, by rw [HNX.out], hide (by rw [← HE.out, World.drewN_drewN]), hide (bl_drewN HBE.out _)⟩
                      · have r1 : decide (s2 ≤ pp) = false := decide_eq_false k1
                        rw [decide_eq_false (fun h => k1 h.1)] at hnx
                        have HNX := hide hnx
                        clear hnx k1 hc
                        go_wp2
                        go_quiet (fail)
                        go_wp2
                        refine ⟨?_, by first | (simp [intOf]; done) | (simp [intOf]; omega)⟩
                        exact ⟨q + 1, mq + nq, by go_num, by omega, by rw [HNX.out], hide (by rw [← HE.out, World.drewN_drewN]), hide (bl_drewN HBE.out _)⟩
                  · rw [hf, Bool.true_or] at hnx
                    have HNX := hide hnx
                    clear hnx hf
                    go_wp2
                    go_quiet (fail)
                    go_wp2
                    refine ⟨?_, by first | (simp [intOf]; done) | (simp [intOf]; omega)⟩
                    exact ⟨q + 1, mq + nq, by go_num, by omega, by rw [HNX.out], hide (by rw [← HE.out, World.drewN_drewN]), hide (bl_drewN HBE.out _)⟩
                · obtain rfl : q = VA.length := by omega
                  have glq : decide (VA.length < VA.length) = false := by simp
                  have hh := HH.out
                  rw [hh]
                  go_wp2
                  refine ⟨?_, by first | (simp [intOf]; done) | (simp [intOf]; omega)⟩
                  exact ⟨n + 1, md + mq, by go_num, by omega, hide (by rw [← HE.out, ← HD.out, World.drewN_drewN])⟩
            · obtain rfl : n = U.length := by omega
              have gl : decide (U.length < U.length) = false := by simp
              have HB9 := hide (bl_trans HB9.out hbd)
              clear hd HD hlt HHAS HCU HCA HB7
              go_wp2
              go_loopw [20] (fun i w' => ∃ n m : Nat, i = .int .i64 n ∧ n ≤ VB.length ∧ Hid (wr.drewN m = w') ∧ Hid (Below wr.heap.size wr w')) (fun i _ => VB.length - (intOf i).toNat)
              case atStart => exact ⟨0, 0, rfl, Nat.zero_le _, hide rfl, hide (bl_refl _)⟩
              case round =>
                obtain ⟨q, mq, rfl, hq, HE, HBE⟩ := hrel
                by_cases hlq : q < VB.length
                · have glq : decide (q < VB.length) = true := decide_eq_true hlq
                  obtain ⟨y1, y2⟩ := HCB.out _ (bl_trans hbd HBE.out) q hlq
                  have hcar := HCAR.out _ (List.getElem_mem hlq)
                  generalize VB[q] = s at *
                  obtain ⟨s1, s2⟩ := s
                  dsimp only at y1 y2 hcar
                  subst hcar
                  clear hbd
                  go_wp2
                  go_quiet (fail)
                  go_wp2
                  refine ⟨?_, by first | (simp [intOf]; done) | (simp [intOf]; omega)⟩
                  exact ⟨q + 1, mq + nq, by go_num, by omega, hide (by rw [← HE.out, World.drewN_drewN]), hide (bl_drewN HBE.out _)⟩
                · obtain rfl : q = VB.length := by omega
                  have glq : decide (VB.length < VB.length) = false := by simp
                  have HB10 := hide (bl_trans HB9.out HBE.out)
                  clear HE HBE hbd HCB HCAR
                  go_wp2_with fail
                  refine (awake9_any _).mono ?_
                  rintro e w9 ⟨rfl, hb⟩
                  go_wp2
                  go_ret
                  exact ⟨rfl, bl_trans HB10.out hb⟩

set_option maxRecDepth 100000 in
theorem lifted (os : Os) (started : os.Started) (H : Type) (enc : TypeId × Value → H) :
    ReturnsInHanded {} Try.checked os 8 .any (Rows.goKeepsSpec.pre6 enc Try.prog Try.f8 Rows.goKeepsRow.domain false) (Rows.goKeepsSpec.post enc Try.prog Try.f8 false true false false) := by
  refine returnsInHanded_of_change (C := Try.checked) own started (by kernel_rfl) Try.func8
    (ChangeSpec.witness6 (enc := enc) (C := Try.checked) false ⟨#[], #[.string ByteArray.empty, .slice none 0 0, .int .i64 0], []⟩ 8 (by kernel_rfl) (by kernel_rfl) (by kernel_rfl) (by kernel_rfl)) ?_
  intro W base args ds gs before hval0 hW hcnd _
  have hval : ∀ (j : Nat) t v, Try.f8.params[j]? = some t → args[j]? = some v → Value.okWide Try.prog W .any base t v := hval0
  have hW' := hW
  obtain ⟨p, q, hA0, hV, rfl, hfz, hnd⟩ := hW
  have hA : DataW.TrodAll enc Try.prog W 0 (fun _ => true) true Try.f8.params.toList args.toList ds p := hA0
  rw [Try.params8] at hA hval
  obtain ⟨v0, vs0, d0, ds0, p0, q0, hargs, rfl, rfl, h0, r0⟩ := trodAll_cons hA
  obtain ⟨v1, vs1, d1, ds1, p1, q1, rfl, rfl, rfl, h1, r1⟩ := trodAll_cons r0
  obtain ⟨v2, vs2, d2, ds2, p2, q2, rfl, rfl, rfl, h2, r2⟩ := trodAll_cons r1
  obtain ⟨rfl, rfl, rfl⟩ := trodAll_nil r2
  obtain rfl : args = #[v0, v1, v2] := by cases args; simp_all
  obtain ⟨rfl, rfl⟩ := trodVars_none hV
  have k0 := h0
  have lt0 : ∀ x ∈ p0, x.block < W.heap.size := by obtain ⟨m, hm⟩ := k0; exact DataW.trod_lt m _ _ _ hm
  obtain ⟨a0, rfl, hd0, hp0, w0⟩ := open_string Try.underlying9 (hval 0 9 v0 rfl rfl) h0
  have k1 := h1
  have lt1 : ∀ x ∈ p1, x.block < W.heap.size := by obtain ⟨m, hm⟩ := k1; exact DataW.trod_lt m _ _ _ hm
  obtain ⟨l1, w1, b1⟩ := open_pairs (hval 1 40 v1 rfl rfl) h1
  have k2 := h2
  have lt2 : ∀ x ∈ p2, x.block < W.heap.size := by obtain ⟨m, hm⟩ := k2; exact DataW.trod_lt m _ _ _ hm
  obtain ⟨a2, rfl, hd2, hp2, w2⟩ := open_int Try.underlying3 (hval 2 3 v2 rfl rfl) h2
  clear hA0 hval0
  refine (walk a0 v1 l1 a2 W w0 w1 b1 w2).mono fun e W' ⟨he, bel⟩ => ?_
  subst he
  exact ⟨_, rfl, _, _, _, [], _, [], hW', trodAll_mk1 (shut_bool Try.underlying4 _), (trodAll_cons_mk (Below.trod laidOut (by kernel_rfl) (of_decide_eq_true (by kernel_rfl)) k0 bel lt0) (trodAll_cons_mk (Below.trod laidOut (by kernel_rfl) (of_decide_eq_true (by kernel_rfl)) k1 bel lt1) (trodAll_cons_mk (Below.trod laidOut (by kernel_rfl) (of_decide_eq_true (by kernel_rfl)) k2 bel lt2) trodAll_mk0))), rfl, bel.frame _, fun h => by cases h⟩

theorem over : Rows.goKeepsRow.holds Try.pinned (OpenSpec.ofChange Rows.goKeepsSpec) :=
  OpenClaim.holds_of_wide 8 Try.f8 rfl rfl rfl rfl rfl rfl rfl ⟨rfl, rfl, rfl, rfl, rfl⟩ rfl rfl rfl rfl rfl (by kernel_rfl) Try.func8 (by kernel_rfl)
    (of_decide_eq_true (by kernel_rfl)) (by unfold Func.isWrapper; first | (rw [if_pos (by decide +kernel)]; kernel_rfl) | (rw [if_neg (by decide +kernel)]; exact ⟨rfl, rfl⟩))
    (fun os started H enc _ => lifted os started H enc)

theorem proved : Rows.GoKeepsSaid := over
end Go.Proofs.Ytjcmbnmejkhcjaa.goKeeps
