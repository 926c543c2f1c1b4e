/- Any selections go, or are refused, as the document tells. Conditions: none beyond the form's own. -/
import Derived.Test.YtjcmbnmejkhcjaaGreatRows
import Derived.Test.YtjcmbnmejkhcjaaGreatArgs
import Derived.Test.YtjcmbnmejkhcjaaGreatGoR
import Derived.Test.YtjcmbnmejkhcjaaGreatSelArgs
import Derived.Test.YtjcmbnmejkhcjaaGreatPrArgs
import Derived.Test.YtjcmbnmejkhcjaaGreatSelQZ
import Derived.Test.YtjcmbnmejkhcjaaGreatLow
import Derived.Deep.RegionHeld3
import Derived.BigQuiet
namespace Go.Proofs.YtjcmbnmejkhcjaaGreat.goTells
open Go.Proofs.YtjcmbnmejkhcjaaGreat
open Go.ChangeShapes Go.WideShapes Go.ChangeAt Go.RowKit Go.Deep
open Go.ChangeMaps (open_string shut_string)
set_option linter.unusedVariables false

theorem own : ownKnob Tryz.prog.godebug = none := by kernel_rfl
theorem laidOut : laidOutB Tryz.prog = true := by kernel_rfl
-- opt:16000000
open SpanM SelM
attribute [local go_sem ↓] Go.wp_at_zero Go.wp_at_succ
def lowG (n : Nat) (s : Sp) : Sp := ((lowN s.1 (n + 1) : Nat), (lowN s.2 (n + 1) : Nat))
theorem nrL_len (n : Int) (l : List Sp) : (nrL n l).length ≤ l.length := by
  unfold nrL
  split
  · exact norm_len l
  · simp
theorem goL_len (x : ByteArray) (way : Int) (ext : Bool) (l : List Sp) : (goL x way ext l).length ≤ l.length := by
  unfold goL
  split
  · split
    · have h1 := nrL_len x.size ((nrL x.size l).map (goM x.data.toList way ext))
      have h2 := nrL_len x.size l
      rw [List.length_map] at h1
      omega
    · simp
  · simp
def KpInv (n : Nat) (l : List Sp) (w0 : World) (m i : Value) (wr : World) : Prop :=
  ∃ k : Nat, i = .int .i64 k ∧ k ≤ l.length ∧ Hid (wr.ownsRow w0.heap.size 33 2 m k (flat ((l.take k).map (lowG n)))) ∧ Hid (Below w0.heap.size w0 wr)
set_option maxRecDepth 100000 in
set_option maxHeartbeats 16000000 in
theorem walk (a0 : ByteArray) (a1 : Int) (a2 : Bool) (a3 : Value) (l3 : List SpanM.Sp) (a4 : Value) (l4 : List SpanM.Sp) (w : World) (w0 : a0.size ≤ maxLen) (w1 : (Lit.int .i64 a1).wf = true) (w3 : SpAt w a3 l3) (b3 : ∀ s ∈ l3, Wf s) (w4 : SpAt w a4 l4) (b4 : ∀ s ∈ l4, Wf s) :
    Calls Tryz.prog 3 #[.string a0, .int .i64 a1, .bool a2, a3, a4] w fun e w' => e = .returned (.bool true) ∧ Below w.heap.size w w' := by
  obtain ⟨i0, hi0, hz0', hz1, hz2⟩ := info_parts info_sl
  obtain ⟨vA, vc, rfl⟩ := spat_len w3
  obtain ⟨uA, uc, rfl⟩ := spat_len w4
  by_cases h0 : 200 < a0.size
  · have g0 : decide ((200 : Int) < (a0.size : Int)) = true := decide_eq_true (by omega)
    have g0' : decide (200 < a0.size) = true := decide_eq_true h0
    clear w3 w4 b3 b4 h0
    go_enter Tryz.func3, Tryz.ntmps3
    go_wp2_with fail
    refine (awake9_any _).mono ?_
    rintro e w9 ⟨rfl, hb9⟩
    go_wp2
    go_ret
    exact ⟨rfl, hb9⟩
  have g0 : decide ((200 : Int) < (a0.size : Int)) = false := decide_eq_false (by omega)
  have g0' : decide (200 < a0.size) = false := decide_eq_false h0
  by_cases h3 : 12 < l3.length
  · have g3 : decide ((12 : Int) < (l3.length : Int)) = true := decide_eq_true (by omega)
    have g3' : decide (12 < l3.length) = true := decide_eq_true h3
    clear w3 w4 b3 b4 h0 h3
    go_enter Tryz.func3, Tryz.ntmps3
    go_wp2_with fail
    refine (awake9_any _).mono ?_
    rintro e w9 ⟨rfl, hb9⟩
    go_wp2
    go_ret
    exact ⟨rfl, hb9⟩
  have g3 : decide ((12 : Int) < (l3.length : Int)) = false := decide_eq_false (by omega)
  have g3' : decide (12 < l3.length) = false := decide_eq_false h3
  by_cases h4 : 12 < l4.length
  · have g4 : decide ((12 : Int) < (l4.length : Int)) = true := decide_eq_true (by omega)
    have g4' : decide (12 < l4.length) = true := decide_eq_true h4
    clear w3 w4 b3 b4 h0 h3 h4
    go_enter Tryz.func3, Tryz.ntmps3
    go_wp2_with fail
    refine (awake9_any _).mono ?_
    rintro e w9 ⟨rfl, hb9⟩
    go_wp2
    go_ret
    exact ⟨rfl, hb9⟩
  have g4 : decide ((12 : Int) < (l4.length : Int)) = false := decide_eq_false (by omega)
  have g4' : decide (12 < l4.length) = false := decide_eq_false h4
  have H1 := hide w4
  have H3 := hide w3
  have hs200 : a0.size ≤ 200 := by omega
  have hl12 : l3.length ≤ 12 := by omega
  have hl12' : l4.length ≤ 12 := by omega
  have hlw : ∀ W, Calls Tryz.prog 6 #[.int .i64 a1, .int .i64 10] W fun e w' => e = .returned (.int .i64 (lowN a1 10)) ∧ W = w' := fun W => low_any a1 10 W (by omega) (by omega)
  have hk10 := lowN_lt a1 10 (by omega)
  generalize lowN a1 10 = kw at *
  have HLW := hide hlw
  have gkw : IntKind.i64.wrap (1 + (kw : Int)) = 1 + (kw : Int) := by rw [IntKind.wrap_i64]; omega
  obtain ⟨l, hl⟩ : ∃ l, l4.map (lowG a0.size) = l := ⟨_, rfl⟩
  have hll : l.length = l4.length := by rw [← hl]; simp
  have HL1 := hide (And.intro hl hll)
  have hu1 := goL_len a0 a1 a2 l3
  have hu2 := goL_len a0 (1 + (kw : Int)) a2 l
  have hN1 := fun (W : World) (r : Nat) (v : Value) (hL : LnAt W r a0) (h : SpAt W v l3) => go_all hL (by omega) v l3 a1 a2 h (by omega)
  have hN2 := fun (W : World) (v : Value) (h : SpAt W v l3) => rgo_all (w := W) (x := a0) (by omega) v l3 a1 a2 h (by omega)
  have hN3 := fun (W : World) (r : Nat) (v : Value) (hL : LnAt W r a0) (h : SpAt W v l) => go_all hL (by omega) v l (1 + (kw : Int)) a2 h (by omega)
  have hN4 := fun (W : World) (v : Value) (h : SpAt W v l) => rgo_all (w := W) (x := a0) (by omega) v l (1 + (kw : Int)) a2 h (by omega)
  generalize goL a0 a1 a2 l3 = U1 at *
  generalize goE a0 a1 a2 l3 = E1 at *
  generalize goL a0 (1 + (kw : Int)) a2 l = U2 at *
  generalize goE a0 (1 + (kw : Int)) a2 l = E2 at *
  have hq1 := fun (W : World) (v u : Value) (h : SpAt W v U1) (g : SpAt W u U1) => sels_any v u U1 U1 W h g (by omega) (by omega)
  have hq2 := fun (W : World) (v u : Value) (h : SpAt W v U2) (g : SpAt W u U2) => sels_any v u U2 U2 W h g (by omega) (by omega)
  rw [show decide (U1 = U1) = true by simp] at hq1
  rw [show decide (U2 = U2) = true by simp] at hq2
  have HN1 := hide hN1
  have HN2 := hide hN2
  have HN3 := hide hN3
  have HN4 := hide hN4
  have HQ1 := hide hq1
  have HQ2 := hide hq2
  have t1 : (E1 == E1) = true := beq_self_eq_true _
  have t2 : (E2 == E2) = true := beq_self_eq_true _
  clear hN1 hN2 hN3 hN4 hq1 hq2 hu1 hu2 hlw hl hll h0 h3 h4 w3 w4 b3 b4
  go_enter Tryz.func3, Tryz.ntmps3
  go_wp2_with fail
  refine (of9_b a0 _ (by omega)).mono ?_
  rintro e w1 ⟨r, rfl, hL, hb1, _⟩
  have c0 := ln_c0 w1 r
  have HB := hide (bl_trans hb1 (ln_b0 w1 r))
  have HL := hide (hL.bl (ln_b0 w1 r))
  clear hL hb1 g0 g0' g3 g3' g4 g4'
  go_wp2
  generalize (w1.alloc (.cells #[.pointer (some ⟨r, 0, none⟩)] 27)) = wa at *
  go_loopw [13, 14] (fun m i wr => KpInv a0.size l4 wa m i wr) (fun _ i _ => l4.length - (intOf i).toNat)
  case atStart => exact ⟨0, rfl, Nat.zero_le _, hide ⟨rfl, .inl ⟨rfl, rfl⟩⟩, hide (bl_refl wa)⟩
  case round =>
    obtain ⟨n, rfl, hn, HV, HBL⟩ := hrel
    obtain ⟨aV, cV, rfl⟩ := own_slice HV.out
    by_cases hlt : n < l4.length
    · have gl : decide (n < l4.length) = true := decide_eq_true hlt
      obtain ⟨b1, o1, c1', hv1, hc1, hm1, hlb1, hcell4⟩ := spat_some H1.out (by omega)
      injection hv1 with hv1 _ hv1c
      subst hv1 hv1c
      unfold maxLen at hm1
      have hBs := HB.out.size
      have x1 := cell_later HBL.out (cell_later HB.out (hcell4 n hlt).1)
      have x2 := cell_later HBL.out (cell_later HB.out (hcell4 n hlt).2)
      have ag : (Value.slice aV n cV).ownBlock ≠ some b1 := fun h => by have := (World.ownsRow.lt HV.out _ h).1; omega
      have hsu : flat ((l4.take n).map (lowG a0.size)) ++ [Value.int .i64 (lowG a0.size l4[n]).1, .int .i64 (lowG a0.size l4[n]).2] = flat ((l4.take (n + 1)).map (lowG a0.size)) := by
        rw [List.take_succ_eq_append_getElem hlt, List.map_append, flat_app]; rfl
      clear hcell4 hm1
      generalize l4[n] = s at *
      obtain ⟨s1, s2⟩ := s
      have q0 : IntKind.i64.wrap ((a0.size : Int) + 1) = (a0.size : Int) + 1 := by rw [IntKind.wrap_i64]; omega
      have HX1 : Hid (∀ W, Calls Tryz.prog 6 #[.int .i64 s1, .int .i64 ((a0.size : Int) + 1)] W fun e w' => e = .returned (.int .i64 (lowG a0.size (s1, s2)).1) ∧ W = w') := hide (fun W => low_any s1 (a0.size + 1) W (by omega) (by omega))
      have HX2 : Hid (∀ W, Calls Tryz.prog 6 #[.int .i64 s2, .int .i64 ((a0.size : Int) + 1)] W fun e w' => e = .returned (.int .i64 (lowG a0.size (s1, s2)).2) ∧ W = w') := hide (fun W => low_any s2 (a0.size + 1) W (by omega) (by omega))
      generalize (lowG a0.size (s1, s2)).1 = y1 at *
      generalize (lowG a0.size (s1, s2)).2 = y2 at *
      have HSU := hide hsu
      have hws := HBL.out.size
      have HKEEP := hide (fun W (hh : Below wr.heap.size wr W) => And.intro (cell_later hh x1) (cell_later hh x2))
      clear hsu c0
      go_wp2
      go_region_held3 (fun W => W.cell? ⟨b1, o1 + n * 2, none⟩ = some (.int .i64 s1) ∧ W.cell? ⟨b1, o1 + n * 2 + 1, none⟩ = some (.int .i64 s2))
        (first
          | go_keep
          | (refine HKEEP.out _ ?_; first | assumption | exact bl_refl _ | exact bl_drew (bl_refl _) | exact bl_alloc (bl_refl _) _ | exact bl_drew (bl_alloc (bl_refl _) _) | exact bl_alloc (bl_drew (bl_refl _)) _)
          | (go_split_ands
             refine ⟨?_, ?_⟩
             · (rw [hg8.cell_far _ (by simp; omega) (Ne.symm ag)]; assumption)
             · (rw [hg8.cell_far _ (by simp; omega) (Ne.symm ag)]; assumption)))
        (first
          | (go_at_call 6
             first
               | ((with_reducible refine (HX1.out _).mono ?_); rintro e wx ⟨rfl, hwx⟩; subst hwx)
               | ((with_reducible refine (HX2.out _).mono ?_); rintro e wx ⟨rfl, hwx⟩; subst hwx))
          | (refine step_src _ (by rfl) (.tmp 50) (.tmp 70) 22 (by rfl) wa.heap.size 33 i0 (.agg #[.int .i64 0, .int .i64 0]) 2 16 Tryz.underlying22 hi0 hz0' hz1 hz2 rfl (by decide) (.slice aV n cV) n (flat ((l4.take n).map (lowG a0.size))) (by rfl) (own_below HV.out (by repeat (first | exact bl_refl _ | refine bl_drew ?_ | refine bl_alloc ?_ _))) (some ⟨_, 0, none⟩) 1 1 [.int .i64 y1, .int .i64 y2] (by rfl) (src_block (cs := #[.int .i64 y1, .int .i64 y2]) (by (try refine heap_drew ?_); first | exact heap_new (by simp) | exact heap_old (heap_new (by simp))) rfl) (by simp [Value.oneCell']) (by omega) (by decide) (by simp; omega) ?_; intro v8 w8 hv8 hg8; have B8 := bl_grown (a := wa) (bl_trans HBL.out (by repeat (first | exact bl_refl _ | refine bl_drew ?_ | refine bl_alloc ?_ _))) hg8 (fun j hj => (World.ownsRow.lt HV.out j hj).1))
          | fail)
      all_goals
        rw [HSU.out] at hv8
        have HV8 := hide hv8
        have HB8 := hide B8
        clear hv8 hg8 B8
        go_wp2
        refine ⟨?_, by first | (simp [intOf]; done) | (simp [intOf]; omega)⟩
        exact ⟨n + 1, by go_num, by omega, HV8, HB8⟩
    · obtain rfl : n = l4.length := by omega
      have gl : decide (l4.length < l4.length) = false := by simp
      have hv9 := HV.out
      rw [List.take_of_length_le (Nat.le_refl _), HL1.out.1] at hv9
      have M1 := own_spatL (l := l) (by rw [HL1.out.2]; exact hv9)
      have S3 := spat_below H3.out (bl_trans HB.out HBL.out)
      have c0 := cell_later HBL.out c0
      have HL := hide (HL.out.bl HBL.out)
      have HB := hide (bl_trans HB.out HBL.out)
      clear hv9 HV H1 H3 hlt HBL
      go_wp2_with fail
      refine (HN1.out _ r _ HL.out S3).mono ?_
      rintro e w5 ⟨v5, rfl, hb5, ho5⟩
      have R1 := own_spatL ho5
      obtain ⟨a5, c5, rfl⟩ := own_slice ho5
      have M1 := spat_below M1 hb5
      have S3 := spat_below S3 hb5
      have c0 := cell_later hb5 c0
      have HL := hide (HL.out.bl hb5)
      have HB := hide (bl_trans HB.out hb5)
      clear ho5 hb5 HN1
      go_wp2_with fail
      refine (HN2.out _ _ S3).mono ?_
      rintro e w6 ⟨v6, rfl, hb6, ho6⟩
      have R2 := own_spatL ho6
      obtain ⟨a6, c6, rfl⟩ := own_slice ho6
      have M1 := spat_below M1 hb6
      have R1 := spat_below R1 hb6
      have c0 := cell_later hb6 c0
      have HL := hide (HL.out.bl hb6)
      have HB := hide (bl_trans HB.out hb6)
      clear ho6 hb6 HN2 S3
      go_wp2
      have HN3 := hide (fun W (hh : Below w6.heap.size w6 W) => HN3.out W r _ (HL.out.bl hh) (spat_below M1 hh))
      have HKEEP := hide (fun W (hh : Below w6.heap.size w6 W) => cell_later hh c0)
      have HM1 := hide M1
      have HR1 := hide R1
      have HR2 := hide R2
      clear M1 R1 R2
      go_region_held3 (fun W => W.cell? ⟨w1.heap.size, 0, none⟩ = some (.pointer (some ⟨r, 0, none⟩)))
        (first
          | (refine HKEEP.out _ ?_; first | assumption | exact bl_refl _ | exact bl_drew (bl_refl _) | (refine bl_drew ?_; assumption)))
        (first
          | (go_at_call 6; (with_reducible refine (HLW.out _).mono ?_); rintro e wx ⟨rfl, hwx⟩; subst hwx)
          | (go_at_call 7; (with_reducible refine (HN3.out _ (by repeat (first | assumption | exact bl_refl _ | refine bl_drew ?_))).mono ?_); rintro e w7 ⟨v7, rfl, hb7, ho7⟩; have hbz : Below w6.heap.size w6 w7 := bl_trans (by repeat (first | assumption | exact bl_refl _ | refine bl_drew ?_)) hb7; have R3 := own_spatL ho7; clear ho7 hb7)
          | fail)
      all_goals
        obtain ⟨a7, c7, rfl⟩ := spat_len R3
        have M1 := spat_below HM1.out hbz
        have R1 := spat_below HR1.out hbz
        have R2 := spat_below HR2.out hbz
        have HB := hide (bl_trans HB.out hbz)
        clear HKEEP HN3 HM1 HR1 HR2 HL hbz c0
        go_wp2_with fail
        refine (HLW.out _).mono ?_
        rintro e wx ⟨rfl, hwx⟩
        subst hwx
        go_wp2_with fail
        refine (HN4.out _ _ (by first | exact M1 | exact spat_below M1 (bl_drew (bl_refl _)))).mono ?_
        rintro e w8 ⟨v8, rfl, hb8, ho8⟩
        have R4 := own_spatL ho8
        obtain ⟨a8, c8, rfl⟩ := own_slice ho8
        have hbd : Below w7.heap.size w7 w8 := by first | exact hb8 | exact bl_trans (bl_drew (bl_refl _)) hb8
        have R1 := spat_below R1 hbd
        have R2 := spat_below R2 hbd
        have R3 := spat_below R3 hbd
        have HB := hide (bl_trans HB.out hbd)
        clear ho8 hb8 hbd HN4 M1 HLW
        go_wp2_with fail
        refine (HQ1.out _ _ _ R1 R2).mono ?_
        rintro e wb ⟨rfl, n1, rfl⟩
        have R3 := spat_below R3 (bl_drewN (bl_refl _) n1)
        have R4 := spat_below R4 (bl_drewN (bl_refl _) n1)
        clear R1 R2 HQ1
        go_wp2_with fail
        refine (HQ2.out _ _ _ R3 R4).mono ?_
        rintro e wc ⟨rfl, n2, rfl⟩
        clear R3 R4 HQ2
        go_wp2_with fail
        refine (awake9_any _).mono ?_
        rintro e w9 ⟨rfl, hb9⟩
        go_wp2
        go_ret
        exact ⟨rfl, bl_trans (bl_drewN HB.out (n1 + n2)) hb9⟩

set_option maxRecDepth 100000 in
theorem lifted (os : Os) (started : os.Started) (H : Type) (enc : TypeId × Value → H) :
    ReturnsInHanded {} Tryz.checked os 3 .any (Rows.goTellsSpec.pre6 enc Tryz.prog Tryz.f3 Rows.goTellsRow.domain false) (Rows.goTellsSpec.post enc Tryz.prog Tryz.f3 false true false false) := by
  refine returnsInHanded_of_change (C := Tryz.checked) own started (by kernel_rfl) Tryz.func3
    (ChangeSpec.witness6 (enc := enc) (C := Tryz.checked) false ⟨#[], #[.string ByteArray.empty, .int .i64 0, .bool false, .slice none 0 0, .slice none 0 0], []⟩ 8 (by kernel_rfl) (by kernel_rfl) (by kernel_rfl) (by kernel_rfl)) ?_
  intro W base args ds gs before hval0 hW hcnd _
  have hval : ∀ (j : Nat) t v, Tryz.f3.params[j]? = some t → args[j]? = some v → Value.okWide Tryz.prog W .any base t v := hval0
  have hW' := hW
  obtain ⟨p, q, hA0, hV, rfl, hfz, hnd⟩ := hW
  have hA : DataW.TrodAll enc Tryz.prog W 0 (fun _ => true) true Tryz.f3.params.toList args.toList ds p := hA0
  rw [Tryz.params3] at hA hval
  obtain ⟨v0, vs0, d0, ds0, p0, q0, hargs, rfl, rfl, h0, r0⟩ := trodAll_cons hA
  obtain ⟨v1, vs1, d1, ds1, p1, q1, rfl, rfl, rfl, h1, r1⟩ := trodAll_cons r0
  obtain ⟨v2, vs2, d2, ds2, p2, q2, rfl, rfl, rfl, h2, r2⟩ := trodAll_cons r1
  obtain ⟨v3, vs3, d3, ds3, p3, q3, rfl, rfl, rfl, h3, r3⟩ := trodAll_cons r2
  obtain ⟨v4, vs4, d4, ds4, p4, q4, rfl, rfl, rfl, h4, r4⟩ := trodAll_cons r3
  obtain ⟨rfl, rfl, rfl⟩ := trodAll_nil r4
  obtain rfl : args = #[v0, v1, v2, v3, v4] := by cases args; simp_all
  obtain ⟨rfl, rfl⟩ := trodVars_none hV
  have k0 := h0
  have lt0 : ∀ x ∈ p0, x.block < W.heap.size := by obtain ⟨m, hm⟩ := k0; exact DataW.trod_lt m _ _ _ hm
  obtain ⟨a0, rfl, hd0, hp0, w0⟩ := open_string Tryz.underlying9 (hval 0 9 v0 rfl rfl) h0
  have k1 := h1
  have lt1 : ∀ x ∈ p1, x.block < W.heap.size := by obtain ⟨m, hm⟩ := k1; exact DataW.trod_lt m _ _ _ hm
  obtain ⟨a1, rfl, hd1, hp1, w1⟩ := open_int Tryz.underlying3 (hval 1 3 v1 rfl rfl) h1
  have k2 := h2
  have lt2 : ∀ x ∈ p2, x.block < W.heap.size := by obtain ⟨m, hm⟩ := k2; exact DataW.trod_lt m _ _ _ hm
  obtain ⟨a2, rfl, hd2, hp2⟩ := open_bool Tryz.underlying4 (hval 2 4 v2 rfl rfl) h2
  have k3 := h3
  have lt3 : ∀ x ∈ p3, x.block < W.heap.size := by obtain ⟨m, hm⟩ := k3; exact DataW.trod_lt m _ _ _ hm
  obtain ⟨l3, w3, b3⟩ := open_spans (hval 3 22 v3 rfl rfl) h3
  have k4 := h4
  have lt4 : ∀ x ∈ p4, x.block < W.heap.size := by obtain ⟨m, hm⟩ := k4; exact DataW.trod_lt m _ _ _ hm
  obtain ⟨l4, w4, b4⟩ := open_pairs (hval 4 23 v4 rfl rfl) h4
  clear hA0 hval0
  refine (walk a0 a1 a2 v3 l3 v4 l4 W w0 w1 w3 b3 w4 b4).mono fun e W' ⟨he, bel⟩ => ?_
  subst he
  exact ⟨_, rfl, _, _, _, [], _, [], hW', trodAll_mk1 (shut_bool Tryz.underlying4 _), (trodAll_cons_mk (Below.trod laidOut (by kernel_rfl) (of_decide_eq_true (by kernel_rfl)) k0 bel lt0) (trodAll_cons_mk (Below.trod laidOut (by kernel_rfl) (of_decide_eq_true (by kernel_rfl)) k1 bel lt1) (trodAll_cons_mk (Below.trod laidOut (by kernel_rfl) (of_decide_eq_true (by kernel_rfl)) k2 bel lt2) (trodAll_cons_mk (Below.trod laidOut (by kernel_rfl) (of_decide_eq_true (by kernel_rfl)) k3 bel lt3) (trodAll_cons_mk (Below.trod laidOut (by kernel_rfl) (of_decide_eq_true (by kernel_rfl)) k4 bel lt4) trodAll_mk0))))), rfl, bel.frame _, fun h => by cases h⟩

theorem over : Rows.goTellsRow.holds Tryz.pinned (OpenSpec.ofChange Rows.goTellsSpec) :=
  OpenClaim.holds_of_wide 3 Tryz.f3 rfl rfl rfl rfl rfl rfl rfl ⟨rfl, rfl, rfl, rfl, rfl⟩ rfl rfl rfl rfl rfl (by kernel_rfl) Tryz.func3 (by kernel_rfl)
    (of_decide_eq_true (by kernel_rfl)) (by unfold Func.isWrapper; first | (rw [if_pos (by decide +kernel)]; kernel_rfl) | (rw [if_neg (by decide +kernel)]; exact ⟨rfl, rfl⟩))
    (fun os started H enc _ => lifted os started H enc)

theorem proved : Rows.GoTellsSaid := over
end Go.Proofs.YtjcmbnmejkhcjaaGreat.goTells
