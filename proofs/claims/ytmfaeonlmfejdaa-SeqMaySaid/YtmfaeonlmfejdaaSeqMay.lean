/- What is made of trees that may be may be; it has their parts, one more at most, less one for each that is taken apart. Conditions: none beyond the form's own. -/
import Derived.Test.YtmfaeonlmfejdaaRows
import Derived.Test.YtmfaeonlmfejdaaArgs
import Derived.Test.YtmfaeonlmfejdaaSmA
import Derived.Test.YtmfaeonlmfejdaaRyH
namespace Go.Proofs.Ytmfaeonlmfejdaa.seqMay
open Go.Proofs.Ytmfaeonlmfejdaa
open Go.ChangeShapes Go.WideShapes Go.ChangeAt Go.RowKit Go.Deep
open Go.ChangeMaps (open_string shut_string)
set_option linter.unusedVariables false

theorem own : ownKnob Try.prog.godebug = none := by kernel_rfl
theorem laidOut : laidOutB Try.prog = true := by kernel_rfl
-- opt: 16000000
open SetM
attribute [local go_sem ↓] Go.wp_at_zero Go.wp_at_succ
attribute [local go_sem] later_cell later_frozen
set_option maxRecDepth 100000 in
set_option maxHeartbeats 16000000 in
theorem walk (a0 : Option Addr) (len0 cap0 : Nat) (z0 : List ByteArray) (w : World) (w0 : IsStrs w a0 len0 cap0 z0) :
    Calls Try.prog 6 #[.slice a0 len0 cap0] w fun e w' => e = .returned (.bool true) ∧ Below w.heap.size w w' := by
  obtain ⟨i0, hi0, hz0', hz1, hz2⟩ := info_parts info_rx
  have HLONG := hide (fun W (h : IsStrs W a0 len0 cap0 z0) => long_any W 100 a0 len0 cap0 z0 h (by decide) (by decide))
  have HST := hide w0
  by_cases h8 : 8 < len0
  case pos =>
    have d8 : decide ((8 : Int) < (len0 : Int)) = true := decide_eq_true (by omega)
    have d8' : decide (8 < len0) = true := decide_eq_true h8
    clear h8
    go_enter Try.func6, Try.ntmps6
    go_wp2_with fail
    refine (awake13_any _).mono ?_
    rintro e w99 ⟨rfl, hb99⟩
    have HBE := hide (bl_trans (bl_refl w) hb99)
    clear hb99
    go_wp2
    go_ret
    exact ⟨rfl, HBE.out⟩
  have d8 : decide ((8 : Int) < (len0 : Int)) = false := decide_eq_false (by omega)
  have d8' : decide (8 < len0) = false := decide_eq_false h8
  obtain ⟨q, hq⟩ : ∃ q, longL 100 (z0.take len0) = q := ⟨_, rfl⟩
  rw [hq] at HLONG
  cases q
  rotate_left
  · clear h8 hq
    go_enter Try.func6, Try.ntmps6
    go_wp2_with fail
    refine (HLONG.out _ HST.out).mono ?_
    rintro e w1 ⟨rfl, rfl⟩
    go_wp2_with fail
    refine (awake13_any _).mono ?_
    rintro e w99 ⟨rfl, hb99⟩
    have HBE := hide (bl_trans (bl_refl w) hb99)
    clear hb99
    go_wp2
    go_ret
    exact ⟨rfl, HBE.out⟩
  have HTR := hide (trees_any a0 len0 cap0 z0 w HST.out (by omega) hq)
  unfold TrsPost at HTR
  clear h8 hq
  go_enter Try.func6, Try.ntmps6
  go_wp2_with fail
  refine (HLONG.out _ HST.out).mono ?_
  rintro e w1 ⟨rfl, rfl⟩
  go_wp2_with fail
  refine HTR.out.mono ?_
  rintro e w1 ⟨v, L, rfl, hb1, hown, hrx, hl8, hg⟩
  obtain ⟨vA, vc, rfl⟩ := own_slice hown
  have HB1 := hide hb1
  have HKS := hide (own_ksat hown)
  have HRX := hide hrx
  have HGD := hide hg
  have HL8 := hide hl8
  clear hb1 hown hrx hl8 hg HTR HLONG
  go_wp2
  go_loopw [4, 5, 6, 7] (fun p n m i wr => ∃ (k : Nat) (P : List Rt) (A : Option Addr) (c N M : Nat), p = .slice A P.length c ∧ n = .int .i64 (N : Int) ∧ m = .int .i64 (M : Int) ∧ i = .int .i64 k ∧ k ≤ L.length ∧ N ≤ 300 ∧ M ≤ 300 ∧ P.length ≤ k ∧ Hid (N = 1 + pL (flK 1 (L.take k)) ∧ M = 1 + pL (flK 0 P) ∧ pL P ≤ pL (L.take k) ∧ sL P ≤ sL (L.take k) ∧ ∀ x ∈ P, x ∈ L ∧ x.k ≠ 1) ∧ Hid (wr.ownsRow w1.heap.size 25 8 (.slice A P.length c) P.length (flatX P)) ∧ Hid (Below w1.heap.size w1 wr) ∧ Hid (∀ x ∈ P, (RxAt wr x ∧ ∀ g, (Value.slice A P.length c).ownBlock = some g → Off g x) ∧ Fr 0 x)) (fun _ _ _ i _ => L.length - (intOf i).toNat)
  case atStart => exact ⟨0, [], none, 0, 1, 1, rfl, rfl, rfl, rfl, Nat.zero_le _, by omega, by omega, Nat.le_refl _, hide ⟨rfl, rfl, Nat.le_refl _, Nat.le_refl _, fun x hx => by cases hx⟩, hide ⟨by simp [flatX], .inl ⟨rfl, rfl⟩⟩, hide (bl_refl w1), hide (fun x hx => by cases hx)⟩
  case round =>
    obtain ⟨k, P, A, c, N, M, rfl, rfl, rfl, rfl, hk, hN, hM, hPk, HE, HROW, HBL, HALL⟩ := hrel
    by_cases hlt : k < L.length
    · obtain ⟨b1, o1, c1', hv1, hc1, hm1, hlb1, hcell1⟩ := ksat_8 HKS.out (by omega)
      injection hv1 with hv1 _ hv1c
      subst hv1 hv1c
      unfold maxLen at hm1
      obtain ⟨q0, q1, q2, q3, q4, q5, q6, q7⟩ := hcell1 k hlt
      have hxp := HRX.out _ (List.getElem_mem hlt)
      have hpl := pL_upto L k hlt
      have hpt := pL_snoc L k hlt
      have hst := sL_snoc L k hlt
      have hft : L.take (k + 1) = L.take k ++ [L[k]] := List.take_succ_eq_append_getElem hlt
      have hgm := HGD.out.pm
      have hin : L[k] ∈ L := List.getElem_mem hlt
      obtain ⟨p, hp⟩ : ∃ p, L[k] = p := ⟨_, rfl⟩
      rw [hp] at q0 q1 q2 q3 q4 q5 q6 q7 hxp hpl hpt hft hin hst
      obtain ⟨pA, pc, hprv⟩ := rwat_len hxp.rows
      obtain ⟨pB, pd, hpkv⟩ := ksat_len hxp.ks
      rw [hprv] at q3
      rw [hpkv] at q7
      have hf1 := pL_flKx_snoc 1 (L.take k) p
      rw [← hft] at hf1
      have hf0 := pL_flKx_snoc 0 P p
      have HPV := hide (show p.v = .agg #[.int .i64 p.k, .string p.ch, .bool p.nt, .slice pA p.rows.length pc, .int .i64 p.mi, .int .i64 p.ma, .bool p.lz, .slice pB p.kids.length pd] by unfold Rt.v Rt.cs; rw [hprv, hpkv])
      have HCS := hide (show p.cs = [.int .i64 p.k, .string p.ch, .bool p.nt, .slice pA p.rows.length pc, .int .i64 p.mi, .int .i64 p.ma, .bool p.lz, .slice pB p.kids.length pd] by unfold Rt.cs; rw [hprv, hpkv])
      have HPA := hide (fun W hb => parts_any hxp (by omega) W hb)
      rw [HPV.out] at HPA
      obtain ⟨pm, hpm⟩ : ∃ n, pM p = n := ⟨_, rfl⟩
      rw [hpm] at HPA hf1 hf0 hpl hpt
      have hp1 : 1 ≤ pm := by rw [← hpm]; exact pM_pos p
      have hle1 := pL_flK_le 1 (L.take k)
      have hle0 := pL_flK_le 0 P
      have hE := HE.out
      have HXP := hide hxp
      have HF1 := hide hf1
      have HF0 := hide hf0
      have HPT := hide hpt
      have HSTT := hide hst
      have HIN := hide hin
      have HPM := hide hpm
      have HLT := hide hlt
      have hn1 : N + pm ≤ 300 := by omega
      have hm1' : M + pm ≤ 300 := by omega
      have gl : decide (k < L.length) = true := decide_eq_true hlt
      have gl' : decide ((k : Int) < (L.length : Int)) = true := decide_eq_true (by omega)
      have e5 : IntKind.i64.wrap ((k : Int) + 1) = (k : Int) + 1 := by rw [IntKind.wrap_i64]; have := HL8.out; omega
      have e6 : IntKind.i64.wrap ((N : Int) + (pm : Int)) = ((N + pm : Nat) : Int) := by rw [IntKind.wrap_i64]; omega
      have e7 : IntKind.i64.wrap ((M : Int) + (pm : Int)) = ((M + pm : Nat) : Int) := by rw [IntKind.wrap_i64]; omega
      have i1 : (0 : Int) ≤ (k : Int) := by omega
      have i2 : (k : Int) < (L.length : Int) := by omega
      have HQ := hide (show ∀ W, Below w1.heap.size w1 W → W.cell? ⟨b1, o1 + k * 8, none⟩ = some (.int .i64 p.k) ∧ W.cell? ⟨b1, o1 + k * 8 + 1, none⟩ = some (.string p.ch) ∧ W.cell? ⟨b1, o1 + k * 8 + 2, none⟩ = some (.bool p.nt) ∧ W.cell? ⟨b1, o1 + k * 8 + 3, none⟩ = some (.slice pA p.rows.length pc) ∧ W.cell? ⟨b1, o1 + k * 8 + 4, none⟩ = some (.int .i64 p.mi) ∧ W.cell? ⟨b1, o1 + k * 8 + 5, none⟩ = some (.int .i64 p.ma) ∧ W.cell? ⟨b1, o1 + k * 8 + 6, none⟩ = some (.bool p.lz) ∧ W.cell? ⟨b1, o1 + k * 8 + 7, none⟩ = some (.slice pB p.kids.length pd) from fun W hW => ⟨cell_later hW q0, cell_later hW q1, cell_later hW q2, cell_later hW q3, cell_later hW q4, cell_later hW q5, cell_later hW q6, cell_later hW q7⟩)
      have HNM := hide (And.intro hn1 hm1')
      have HPK := hide hPk
      obtain ⟨na, hna⟩ : ∃ n, N + pm = n := ⟨_, rfl⟩
      obtain ⟨ma, hma⟩ : ∃ n, M + pm = n := ⟨_, rfl⟩
      rw [hna] at e6
      rw [hma] at e7
      have HNA := hide hna
      have HMA := hide hma
      clear hcell1 hxp hpl hpt hst hft hgm hin hp hprv hpkv hf1 hf0 hpm hp1 hle1 hle0 hE hk hlt hn1 hm1' q0 q1 q2 q3 q4 q5 q6 q7 hna hma hPk hlb1 hc1 hm1
      by_cases hk1 : p.k = 1
      · have e8 : IntKind.i64.wrap ((na : Int) - 1) = ((na - 1 : Nat) : Int) := by rw [IntKind.wrap_i64]; have := HNA.out; have := HNM.out; have := HPM.out; have := pM_pos p; omega
        have kb : (p.k == 1) = true := by rw [hk1]; rfl
        have kb0 : (p.k == 0) = false := by rw [hk1]; rfl
        have HK1 := hide hk1
        clear hk1
        obtain ⟨y0, y1, y2, y3, y4, y5, y6, y7⟩ := HQ.out _ HBL.out
        go_wp2_with fail
        refine (HPA.out _ HBL.out).mono ?_
        rintro e w2 ⟨rfl, hb2⟩
        have HB2 := hide hb2
        have HBL2 := hide (bl_trans HBL.out hb2)
        clear hb2 y0 y1 y2 y3 y4 y5 y6 y7
        obtain ⟨y0, y1, y2, y3, y4, y5, y6, y7⟩ := HQ.out _ HBL2.out
        go_wp2
        refine ⟨?_, by simp [intOf]; have := HLT.out; omega⟩
        have HE2 := hide (show na - 1 = 1 + pL (flK 1 (L.take (k + 1))) ∧ M = 1 + pL (flK 0 P) ∧ pL P ≤ pL (L.take (k + 1)) ∧ sL P ≤ sL (L.take (k + 1)) ∧ ∀ x ∈ P, x ∈ L ∧ x.k ≠ 1 from by
          obtain ⟨E1, E2, E3, E4, E5⟩ := HE.out
          have h1 := HF1.out
          rw [if_pos HK1.out] at h1
          have h2 := HPT.out
          have h3 := HSTT.out
          have h4 := HNA.out
          exact ⟨by omega, E2, by omega, by omega, E5⟩)
        have HX := hide (show ∀ x ∈ P, (RxAt w2 x ∧ ∀ g, (Value.slice A P.length c).ownBlock = some g → Off g x) ∧ Fr 0 x from fun x hx => ⟨⟨rx_below (HALL.out x hx).1.1 HB2.out, (HALL.out x hx).1.2⟩, (HALL.out x hx).2⟩)
        have HR9 := hide (own_below HROW.out HB2.out)
        have HBD := hide (show na - 1 ≤ 300 ∧ k + 1 ≤ L.length ∧ P.length ≤ k + 1 by have := HNA.out; have := HNM.out; have := HLT.out; have := HPK.out; omega)
        first
          | exact ⟨k + 1, P, A, c, na - 1, M, rfl, rfl, rfl, rfl, HBD.out.2.1, HBD.out.1, hM, HBD.out.2.2, HE2, HR9, HBL2, HX⟩
          | exact ⟨k + 1, P, A, c, na - 1, M, rfl, rfl, rfl, by simp, HBD.out.2.1, HBD.out.1, hM, HBD.out.2.2, HE2, HR9, HBL2, HX⟩
      by_cases hk0 : p.k = 0
      · have e8 : IntKind.i64.wrap ((ma : Int) - 1) = ((ma - 1 : Nat) : Int) := by rw [IntKind.wrap_i64]; have := HMA.out; have := HNM.out; have := HPM.out; have := pM_pos p; omega
        have kb : (p.k == 1) = false := by rw [hk0]; rfl
        have kb0 : (p.k == 0) = true := by rw [hk0]; rfl
        have hk1 : p.k ≠ 1 := by rw [hk0]; decide
        have HK1 := hide hk1
        have HK0 := hide hk0
        clear hk1 hk0
        obtain ⟨y0, y1, y2, y3, y4, y5, y6, y7⟩ := HQ.out _ HBL.out
        go_wp2_with fail
        refine (HPA.out _ HBL.out).mono ?_
        rintro e w2 ⟨rfl, hb2⟩
        have HB2 := hide hb2
        have HBL2 := hide (bl_trans HBL.out hb2)
        clear hb2 y0 y1 y2 y3 y4 y5 y6 y7
        obtain ⟨y0, y1, y2, y3, y4, y5, y6, y7⟩ := HQ.out _ HBL2.out
        have HONE := hide (show ∀ u ∈ ([.int .i64 p.k, .string p.ch, .bool p.nt, .slice pA p.rows.length pc, .int .i64 p.mi, .int .i64 p.ma, .bool p.lz, .slice pB p.kids.length pd] : List Value), u.oneCell' = true by rw [← HCS.out]; intro u hu; exact one_cellX (w := w1) [p] (fun x hx => by obtain rfl : x = p := (by simpa using hx); exact HXP.out) u (by simpa [flatX] using hu))
        have HBB := hide (bl_alloc (bl_refl w2) (.cells #[.int .i64 p.k, .string p.ch, .bool p.nt, .slice pA p.rows.length pc, .int .i64 p.mi, .int .i64 p.ma, .bool p.lz, .slice pB p.kids.length pd] 25))
        have HROW2 := hide (own_below HROW.out HB2.out)
        have hP8 : P.length ≤ 8 := by have := HPK.out; have := HLT.out; have := HL8.out; omega
        go_wp2_with (at_builtin; go_must (refine wpList_src5 _ rfl _ _ 23 rfl w1.heap.size 25 i0 rt0.v 8 104 Try.underlying23 hi0 hz0' hz1 hz2 rfl (by decide) (.slice A P.length c) P.length (flatX P) rfl (own_below HROW2.out HBB.out) (some ⟨_, 0, none⟩) 1 1 [.int .i64 p.k, .string p.ch, .bool p.nt, .slice pA p.rows.length pc, .int .i64 p.mi, .int .i64 p.ma, .bool p.lz, .slice pB p.kids.length pd] rfl (src_block (cs := #[.int .i64 p.k, .string p.ch, .bool p.nt, .slice pA p.rows.length pc, .int .i64 p.mi, .int .i64 p.ma, .bool p.lz, .slice pB p.kids.length pd]) (heap_new (by simp)) rfl) HONE.out (by omega) (by decide) (Nat.le_trans HBL2.out.size HBB.out.size) ?_); intro v' w19 hv4 hg4 h5; have hbo := bl_own (bl_trans HBL2.out HBB.out) (own_below HROW2.out HBB.out) hg4 (Nat.le_refl _); obtain ⟨u0, u1, u2, u3, u4, u5, u6, u7⟩ := HQ.out _ hbo)
        have HBO := hide hbo
        rw [← HCS.out] at hv4
        obtain ⟨B, d9, rfl, hown4, hall4⟩ := row_step (N := 0) (L := P) (t := p) (fun x hx => ⟨⟨rx_below (rx_below (HALL.out x hx).1.1 HB2.out) HBB.out, (HALL.out x hx).1.2⟩, (HALL.out x hx).2⟩) (rx_below HXP.out (bl_trans HBL2.out HBB.out)) (fr_zero HXP.out) (fun g hg => off_new HXP.out (HROW.out.lt g hg).1) hv4 hg4 h5
        have HROW4 := hide hown4
        have HALL4 := hide hall4
        clear hv4 hg4 h5 hown4 hall4 hbo
        go_wp2_with fail
        refine (HPA.out _ HBO.out).mono ?_
        rintro e w5 ⟨rfl, hb5⟩
        have HB5 := hide hb5
        have HBL5 := hide (bl_trans HBO.out hb5)
        clear hb5 u0 u1 u2 u3 u4 u5 u6 u7
        obtain ⟨u0, u1, u2, u3, u4, u5, u6, u7⟩ := HQ.out _ HBL5.out
        go_wp2
        refine ⟨?_, by simp [intOf]; have := HLT.out; omega⟩
        have HLN := hide (show Value.slice B (P.length + 1) d9 = .slice B (P ++ [p]).length d9 by rw [List.length_append] <;> rfl)
        have HE2 := hide (show na = 1 + pL (flK 1 (L.take (k + 1))) ∧ ma - 1 = 1 + pL (flK 0 (P ++ [p])) ∧ pL (P ++ [p]) ≤ pL (L.take (k + 1)) ∧ sL (P ++ [p]) ≤ sL (L.take (k + 1)) ∧ ∀ x ∈ P ++ [p], x ∈ L ∧ x.k ≠ 1 from by
          obtain ⟨E1, E2, E3, E4, E5⟩ := HE.out
          have h1 := HF1.out
          rw [if_neg HK1.out] at h1
          have h0 := HF0.out
          rw [if_pos HK0.out] at h0
          have h2 := HPT.out
          have h3 := HSTT.out
          have h4 := HNA.out
          have h5 := HMA.out
          have h6 : pL (P ++ [p]) = pL P + (pM p + 0) := pL_app P [p]
          have h7 : sL (P ++ [p]) = sL P + (sM p + 0) := sL_app P [p]
          have h8 := HPM.out
          refine ⟨by omega, by omega, by omega, by omega, fun x hx => ?_⟩
          rcases List.mem_append.1 hx with hx | hx
          · exact E5 x hx
          · obtain rfl : x = p := by simpa using hx
            exact ⟨HIN.out, HK1.out⟩)
        have HX := hide (show ∀ x ∈ P ++ [p], (RxAt w5 x ∧ ∀ g, (Value.slice B (P ++ [p]).length d9).ownBlock = some g → Off g x) ∧ Fr 0 x from fun x hx => ⟨⟨rx_below (HALL4.out x hx).1.1 HB5.out, (HALL4.out x hx).1.2⟩, (HALL4.out x hx).2⟩)
        have HR9 := hide (own_below HROW4.out HB5.out)
        have HBD := hide (show na ≤ 300 ∧ ma - 1 ≤ 300 ∧ k + 1 ≤ L.length ∧ (P ++ [p]).length ≤ k + 1 by have := HNA.out; have := HMA.out; have := HNM.out; have := HLT.out; have := HPK.out; rw [List.length_append]; simp only [List.length_cons, List.length_nil]; omega)
        first
          | exact ⟨k + 1, P ++ [p], B, d9, na, ma - 1, HLN.out, rfl, rfl, rfl, HBD.out.2.2.1, HBD.out.1, HBD.out.2.1, HBD.out.2.2.2, HE2, HR9, HBL5, HX⟩
          | exact ⟨k + 1, P ++ [p], B, d9, na, ma - 1, HLN.out, rfl, rfl, by simp, HBD.out.2.2.1, HBD.out.1, HBD.out.2.1, HBD.out.2.2.2, HE2, HR9, HBL5, HX⟩
      · have kb : (p.k == 1) = false := beq_eq_false_iff_ne.2 hk1
        have kb0 : (p.k == 0) = false := beq_eq_false_iff_ne.2 hk0
        have HK1 := hide hk1
        have HK0 := hide hk0
        clear hk1 hk0
        obtain ⟨y0, y1, y2, y3, y4, y5, y6, y7⟩ := HQ.out _ HBL.out
        go_wp2_with fail
        refine (HPA.out _ HBL.out).mono ?_
        rintro e w2 ⟨rfl, hb2⟩
        have HB2 := hide hb2
        have HBL2 := hide (bl_trans HBL.out hb2)
        clear hb2 y0 y1 y2 y3 y4 y5 y6 y7
        obtain ⟨y0, y1, y2, y3, y4, y5, y6, y7⟩ := HQ.out _ HBL2.out
        have HONE := hide (show ∀ u ∈ ([.int .i64 p.k, .string p.ch, .bool p.nt, .slice pA p.rows.length pc, .int .i64 p.mi, .int .i64 p.ma, .bool p.lz, .slice pB p.kids.length pd] : List Value), u.oneCell' = true by rw [← HCS.out]; intro u hu; exact one_cellX (w := w1) [p] (fun x hx => by obtain rfl : x = p := (by simpa using hx); exact HXP.out) u (by simpa [flatX] using hu))
        have HBB := hide (bl_alloc (bl_refl w2) (.cells #[.int .i64 p.k, .string p.ch, .bool p.nt, .slice pA p.rows.length pc, .int .i64 p.mi, .int .i64 p.ma, .bool p.lz, .slice pB p.kids.length pd] 25))
        have HROW2 := hide (own_below HROW.out HB2.out)
        have hP8 : P.length ≤ 8 := by have := HPK.out; have := HLT.out; have := HL8.out; omega
        go_wp2_with (at_builtin; go_must (refine wpList_src5 _ rfl _ _ 23 rfl w1.heap.size 25 i0 rt0.v 8 104 Try.underlying23 hi0 hz0' hz1 hz2 rfl (by decide) (.slice A P.length c) P.length (flatX P) rfl (own_below HROW2.out HBB.out) (some ⟨_, 0, none⟩) 1 1 [.int .i64 p.k, .string p.ch, .bool p.nt, .slice pA p.rows.length pc, .int .i64 p.mi, .int .i64 p.ma, .bool p.lz, .slice pB p.kids.length pd] rfl (src_block (cs := #[.int .i64 p.k, .string p.ch, .bool p.nt, .slice pA p.rows.length pc, .int .i64 p.mi, .int .i64 p.ma, .bool p.lz, .slice pB p.kids.length pd]) (heap_new (by simp)) rfl) HONE.out (by omega) (by decide) (Nat.le_trans HBL2.out.size HBB.out.size) ?_); intro v' w19 hv4 hg4 h5; have hbo := bl_own (bl_trans HBL2.out HBB.out) (own_below HROW2.out HBB.out) hg4 (Nat.le_refl _); obtain ⟨u0, u1, u2, u3, u4, u5, u6, u7⟩ := HQ.out _ hbo)
        have HBO := hide hbo
        rw [← HCS.out] at hv4
        obtain ⟨B, d9, rfl, hown4, hall4⟩ := row_step (N := 0) (L := P) (t := p) (fun x hx => ⟨⟨rx_below (rx_below (HALL.out x hx).1.1 HB2.out) HBB.out, (HALL.out x hx).1.2⟩, (HALL.out x hx).2⟩) (rx_below HXP.out (bl_trans HBL2.out HBB.out)) (fr_zero HXP.out) (fun g hg => off_new HXP.out (HROW.out.lt g hg).1) hv4 hg4 h5
        have HROW4 := hide hown4
        have HALL4 := hide hall4
        clear hv4 hg4 h5 hown4 hall4 hbo
        go_wp2_with fail
        refine (HPA.out _ HBO.out).mono ?_
        rintro e w5 ⟨rfl, hb5⟩
        have HB5 := hide hb5
        have HBL5 := hide (bl_trans HBO.out hb5)
        clear hb5 u0 u1 u2 u3 u4 u5 u6 u7
        obtain ⟨u0, u1, u2, u3, u4, u5, u6, u7⟩ := HQ.out _ HBL5.out
        go_wp2
        refine ⟨?_, by simp [intOf]; have := HLT.out; omega⟩
        have HLN := hide (show Value.slice B (P.length + 1) d9 = .slice B (P ++ [p]).length d9 by rw [List.length_append] <;> rfl)
        have HE2 := hide (show na = 1 + pL (flK 1 (L.take (k + 1))) ∧ ma = 1 + pL (flK 0 (P ++ [p])) ∧ pL (P ++ [p]) ≤ pL (L.take (k + 1)) ∧ sL (P ++ [p]) ≤ sL (L.take (k + 1)) ∧ ∀ x ∈ P ++ [p], x ∈ L ∧ x.k ≠ 1 from by
          obtain ⟨E1, E2, E3, E4, E5⟩ := HE.out
          have h1 := HF1.out
          rw [if_neg HK1.out] at h1
          have h0 := HF0.out
          rw [if_neg HK0.out] at h0
          have h2 := HPT.out
          have h3 := HSTT.out
          have h4 := HNA.out
          have h5 := HMA.out
          have h6 : pL (P ++ [p]) = pL P + (pM p + 0) := pL_app P [p]
          have h7 : sL (P ++ [p]) = sL P + (sM p + 0) := sL_app P [p]
          have h8 := HPM.out
          refine ⟨by omega, by omega, by omega, by omega, fun x hx => ?_⟩
          rcases List.mem_append.1 hx with hx | hx
          · exact E5 x hx
          · obtain rfl : x = p := by simpa using hx
            exact ⟨HIN.out, HK1.out⟩)
        have HX := hide (show ∀ x ∈ P ++ [p], (RxAt w5 x ∧ ∀ g, (Value.slice B (P ++ [p]).length d9).ownBlock = some g → Off g x) ∧ Fr 0 x from fun x hx => ⟨⟨rx_below (HALL4.out x hx).1.1 HB5.out, (HALL4.out x hx).1.2⟩, (HALL4.out x hx).2⟩)
        have HR9 := hide (own_below HROW4.out HB5.out)
        have HBD := hide (show na ≤ 300 ∧ ma ≤ 300 ∧ k + 1 ≤ L.length ∧ (P ++ [p]).length ≤ k + 1 by have := HNA.out; have := HMA.out; have := HNM.out; have := HLT.out; have := HPK.out; rw [List.length_append]; simp only [List.length_cons, List.length_nil]; omega)
        first
          | exact ⟨k + 1, P ++ [p], B, d9, na, ma, HLN.out, rfl, rfl, rfl, HBD.out.2.2.1, HBD.out.1, HBD.out.2.1, HBD.out.2.2.2, HE2, HR9, HBL5, HX⟩
          | exact ⟨k + 1, P ++ [p], B, d9, na, ma, HLN.out, rfl, rfl, by simp, HBD.out.2.2.1, HBD.out.1, HBD.out.2.1, HBD.out.2.2.2, HE2, HR9, HBL5, HX⟩
    · obtain rfl : k = L.length := by omega
      have gl : decide (L.length < L.length) = false := decide_eq_false (Nat.lt_irrefl _)
      have gl' : decide ((L.length : Int) < (L.length : Int)) = false := decide_eq_false (by omega)
      have HAL := hide (alt_any (.slice vA L.length vc) L wr (ksat_below HKS.out HBL.out) (fun i hi => rx_below (HRX.out _ (List.getElem_mem hi)) HBL.out) (by have := HGD.out.sm; omega))
      have hpp : pL P ≤ 208 ∧ sL P ≤ 816 := by
        obtain ⟨-, -, h3, h4, -⟩ := HE.out
        rw [List.take_of_length_le (Nat.le_refl _)] at h3 h4
        have := HGD.out.pm
        have := HGD.out.sm
        omega
      have HSQ := hide (fun W (hb : Below wr.heap.size wr W) => seq_any (.slice A P.length c) P W (ksat_below (own_ksat HROW.out) hb) (fun i hi => rx_below (HALL.out _ (List.getElem_mem hi)).1.1 hb) (by omega))
      unfold SqPost at HAL HSQ
      obtain ⟨g1, g2, g3⟩ := alt_good HGD.out.ok (by have := HGD.out.pm; omega)
      obtain ⟨s1, s2⟩ := seq_good (l := P) (fun x hx => HGD.out.ok x (HE.out.2.2.2.2 x hx).1) (fun x hx => (HE.out.2.2.2.2 x hx).2) (by omega)
      have HNE := hide (show N = 1 + pL (flK 1 L) by have := HE.out.1; rwa [List.take_of_length_le (Nat.le_refl _)] at this)
      have HME := hide (show M = 1 + pL (flK 0 P) from HE.out.2.1)
      have hsz1 : sM (altX (flK 1 L)) ≤ 2000 := by
        have h1 := (altX_gd (flK 1 L) (flK_ers 1 L)).1
        have h2 := sL_flK_le 1 L
        have := HGD.out.sm
        omega
      have hsz2 : sM (seqX (flK 0 P)) ≤ 2000 := by
        have h1 := (seqX_gd (flK 0 P) (flK_ers 0 P)).1
        have h2 := sL_flK_le 0 P
        omega
      have G1 := hide g1
      have G2 := hide g2
      have G3 := hide g3
      have S1 := hide s1
      have S2 := hide s2
      have Z1 := hide hsz1
      have Z2 := hide hsz2
      obtain ⟨xa, hxa⟩ : ∃ x, altX (flK 1 L) = x := ⟨_, rfl⟩
      obtain ⟨xs, hxs⟩ : ∃ x, seqX (flK 0 P) = x := ⟨_, rfl⟩
      rw [hxa] at HAL G1 G2 G3 Z1
      rw [hxs] at HSQ S1 S2 Z2
      clear g1 g2 g3 s1 s2 hsz1 hsz2 hxa hxs hpp hk
      go_wp2_with fail
      refine HAL.out.mono ?_
      rintro e wa ⟨t, rfl, hba, hrxt, hert⟩
      have HBA := hide hba
      obtain ⟨tA, tc, htrv⟩ := rwat_len hrxt.rows
      obtain ⟨tB, td, htkv⟩ := ksat_len hrxt.ks
      have HTV := hide (show t.v = .agg #[.int .i64 t.k, .string t.ch, .bool t.nt, .slice tA t.rows.length tc, .int .i64 t.mi, .int .i64 t.ma, .bool t.lz, .slice tB t.kids.length td] by unfold Rt.v Rt.cs; rw [htrv, htkv])
      rw [HTV.out]
      have HRT := hide hrxt
      have HET := hide hert
      clear hba hrxt hert htrv htkv
      go_wp2_with fail
      refine (HSQ.out _ HBA.out).mono ?_
      rintro e ws ⟨u, rfl, hbs, hrxu, heru⟩
      obtain ⟨uA, uc, hurv⟩ := rwat_len hrxu.rows
      obtain ⟨uB, ud, hukv⟩ := ksat_len hrxu.ks
      have HUV := hide (show u.v = .agg #[.int .i64 u.k, .string u.ch, .bool u.nt, .slice uA u.rows.length uc, .int .i64 u.mi, .int .i64 u.ma, .bool u.lz, .slice uB u.kids.length ud] by unfold Rt.v Rt.cs; rw [hurv, hukv])
      rw [HUV.out]
      have hct : cnB t 16 512 = true := by
        have := G1.out
        unfold cnB at this ⊢
        rw [← pM_er, ← dM_er, ← okM_er, HET.out]; exact this
      have hcu : cnB u 16 512 = true := by
        have := S1.out
        unfold cnB at this ⊢
        rw [← pM_er, ← dM_er, ← okM_er, heru]; exact this
      have hst : sM t ≤ 2000 := by rw [← sM_er, HET.out]; exact Z1.out
      have hsu : sM u ≤ 2000 := by rw [← sM_er, heru]; exact Z2.out
      have hpt := pM_sM t
      have hpu := pM_sM u
      have HMT := hide (fun W hb => rxmay_any HRT.out (by omega) W hb)
      have HMU := hide (fun W hb => rxmay_any hrxu (by omega) W hb)
      have HPT := hide (fun W hb => parts_any HRT.out (by omega) W hb)
      have HPU := hide (fun W hb => parts_any hrxu (by omega) W hb)
      rw [hct] at HMT
      rw [hcu] at HMU
      unfold SmPost at HMT HMU
      rw [HTV.out] at HMT HPT
      rw [HUV.out] at HMU HPU
      have HKT := hide (show t.k = 1 → pM t = N from fun h => by
        have h1 : xa.k = 1 := by rw [← HET.out, er_eq]; exact h
        rw [HNE.out, ← G2.out h1, ← HET.out, pM_er])
      have HKU := hide (show pM u = M ∨ pM u = M - 1 from by
        have h1 := S2.out
        rw [← heru, pM_er] at h1
        have := HME.out
        omega)
      have HBT := hide hbs
      have HBS := hide (bl_trans HBA.out hbs)
      have HBW := hide (bl_trans HB1.out (bl_trans HBL.out HBS.out))
      have TC0 := hide (show Cl (ws.alloc (.cells #[.int .i64 t.k, .string t.ch, .bool t.nt, .slice tA t.rows.length tc, .int .i64 t.mi, .int .i64 t.ma, .bool t.lz, .slice tB t.kids.length td] 25)) ws.heap.size [.int .i64 t.k, .string t.ch, .bool t.nt, .slice tA t.rows.length tc, .int .i64 t.mi, .int .i64 t.ma, .bool t.lz, .slice tB t.kids.length td] from cl_alloc ws [.int .i64 t.k, .string t.ch, .bool t.nt, .slice tA t.rows.length tc, .int .i64 t.mi, .int .i64 t.ma, .bool t.lz, .slice tB t.kids.length td] _)
      have TC1 := hide (TC0.out.bl (bl_alloc (bl_refl _) (.cells #[.int .i64 u.k, .string u.ch, .bool u.nt, .slice uA u.rows.length uc, .int .i64 u.mi, .int .i64 u.ma, .bool u.lz, .slice uB u.kids.length ud] 25)))
      have UC1 := hide (show Cl ((ws.alloc (.cells #[.int .i64 t.k, .string t.ch, .bool t.nt, .slice tA t.rows.length tc, .int .i64 t.mi, .int .i64 t.ma, .bool t.lz, .slice tB t.kids.length td] 25)).alloc (.cells #[.int .i64 u.k, .string u.ch, .bool u.nt, .slice uA u.rows.length uc, .int .i64 u.mi, .int .i64 u.ma, .bool u.lz, .slice uB u.kids.length ud] 25)) (ws.heap.size + 1) [.int .i64 u.k, .string u.ch, .bool u.nt, .slice uA u.rows.length uc, .int .i64 u.mi, .int .i64 u.ma, .bool u.lz, .slice uB u.kids.length ud] from cl_alloc_n (ws.alloc (.cells #[.int .i64 t.k, .string t.ch, .bool t.nt, .slice tA t.rows.length tc, .int .i64 t.mi, .int .i64 t.ma, .bool t.lz, .slice tB t.kids.length td] 25)) [.int .i64 u.k, .string u.ch, .bool u.nt, .slice uA u.rows.length uc, .int .i64 u.mi, .int .i64 u.ma, .bool u.lz, .slice uB u.kids.length ud] _ _ (by simp))
      have HB00 := hide (bl_alloc (bl_alloc (bl_refl ws) (.cells #[.int .i64 t.k, .string t.ch, .bool t.nt, .slice tA t.rows.length tc, .int .i64 t.mi, .int .i64 t.ma, .bool t.lz, .slice tB t.kids.length td] 25)) (.cells #[.int .i64 u.k, .string u.ch, .bool u.nt, .slice uA u.rows.length uc, .int .i64 u.mi, .int .i64 u.ma, .bool u.lz, .slice uB u.kids.length ud] 25))
      clear hbs hrxu heru hurv hukv hct hcu hst hsu hpt hpu
      rcases HKU.out with hku | hku
      · rw [hku] at HPU
        clear hku
        by_cases hkt : t.k = 1
        · have hpmt := HKT.out hkt
          have kb : (t.k == 1) = true := beq_iff_eq.2 hkt
          rw [hpmt] at HPT
          have nn : ((N : Int) == (N : Int)) = true := beq_self_eq_true _
          have nn2 : ((N : Int) != (N : Int)) = false := by simp
          clear hkt hpmt
          go_wp2_with fail
          refine (HMT.out _ (bl_trans HBT.out HB00.out)).mono ?_
          rintro e k1 ⟨rfl, hb⟩
          have HB01 := hide (bl_trans HB00.out hb)
          have TC2 := hide (TC1.out.bl hb)
          have UC2 := hide (UC1.out.bl hb)
          clear hb
          obtain ⟨x0, x1, x2, x3, x4, x5, x6, x7⟩ := TC2.out.eight
          obtain ⟨v0, v1, v2, v3, v4, v5, v6, v7⟩ := UC2.out.eight
          go_wp2_with fail
          refine (HMU.out _ HB01.out).mono ?_
          rintro e k2 ⟨rfl, hb⟩
          have HB02 := hide (bl_trans HB01.out hb)
          have TC3 := hide (TC2.out.bl hb)
          have UC3 := hide (UC2.out.bl hb)
          clear hb
          clear x0 x1 x2 x3 x4 x5 x6 x7 v0 v1 v2 v3 v4 v5 v6 v7
          obtain ⟨x0, x1, x2, x3, x4, x5, x6, x7⟩ := TC3.out.eight
          obtain ⟨v0, v1, v2, v3, v4, v5, v6, v7⟩ := UC3.out.eight
          go_wp2_with fail
          refine (HPU.out _ HB02.out).mono ?_
          rintro e k3 ⟨rfl, hb⟩
          have HB03 := hide (bl_trans HB02.out hb)
          have TC4 := hide (TC3.out.bl hb)
          have UC4 := hide (UC3.out.bl hb)
          clear hb
          clear x0 x1 x2 x3 x4 x5 x6 x7 v0 v1 v2 v3 v4 v5 v6 v7
          obtain ⟨x0, x1, x2, x3, x4, x5, x6, x7⟩ := TC4.out.eight
          obtain ⟨v0, v1, v2, v3, v4, v5, v6, v7⟩ := UC4.out.eight
          go_wp2_with fail
          refine (HPT.out _ (bl_trans HBT.out HB03.out)).mono ?_
          rintro e k4 ⟨rfl, hb⟩
          have HB04 := hide (bl_trans HB03.out hb)
          have TC5 := hide (TC4.out.bl hb)
          have UC5 := hide (UC4.out.bl hb)
          clear hb
          clear x0 x1 x2 x3 x4 x5 x6 x7 v0 v1 v2 v3 v4 v5 v6 v7
          obtain ⟨x0, x1, x2, x3, x4, x5, x6, x7⟩ := TC5.out.eight
          obtain ⟨v0, v1, v2, v3, v4, v5, v6, v7⟩ := UC5.out.eight
          clear x0 x1 x2 x3 x4 x5 x6 x7 v0 v1 v2 v3 v4 v5 v6 v7
          go_wp2_with fail
          refine (awake13_any _).mono ?_
          rintro e w99 ⟨rfl, hb99⟩
          have HBE := hide (bl_trans (bl_trans HBW.out HB04.out) hb99)
          clear hb99
          go_wp2
          go_ret
          exact ⟨rfl, HBE.out⟩
        · have kb : (t.k == 1) = false := beq_eq_false_iff_ne.2 hkt
          clear hkt
          go_wp2_with fail
          refine (HMT.out _ (bl_trans HBT.out HB00.out)).mono ?_
          rintro e k1 ⟨rfl, hb⟩
          have HB01 := hide (bl_trans HB00.out hb)
          have TC2 := hide (TC1.out.bl hb)
          have UC2 := hide (UC1.out.bl hb)
          clear hb
          obtain ⟨x0, x1, x2, x3, x4, x5, x6, x7⟩ := TC2.out.eight
          obtain ⟨v0, v1, v2, v3, v4, v5, v6, v7⟩ := UC2.out.eight
          go_wp2_with fail
          refine (HMU.out _ HB01.out).mono ?_
          rintro e k2 ⟨rfl, hb⟩
          have HB02 := hide (bl_trans HB01.out hb)
          have TC3 := hide (TC2.out.bl hb)
          have UC3 := hide (UC2.out.bl hb)
          clear hb
          clear x0 x1 x2 x3 x4 x5 x6 x7 v0 v1 v2 v3 v4 v5 v6 v7
          obtain ⟨x0, x1, x2, x3, x4, x5, x6, x7⟩ := TC3.out.eight
          obtain ⟨v0, v1, v2, v3, v4, v5, v6, v7⟩ := UC3.out.eight
          go_wp2_with fail
          refine (HPU.out _ HB02.out).mono ?_
          rintro e k3 ⟨rfl, hb⟩
          have HB03 := hide (bl_trans HB02.out hb)
          have TC4 := hide (TC3.out.bl hb)
          have UC4 := hide (UC3.out.bl hb)
          clear hb
          clear x0 x1 x2 x3 x4 x5 x6 x7 v0 v1 v2 v3 v4 v5 v6 v7
          obtain ⟨x0, x1, x2, x3, x4, x5, x6, x7⟩ := TC4.out.eight
          obtain ⟨v0, v1, v2, v3, v4, v5, v6, v7⟩ := UC4.out.eight
          go_wp2_with fail
          refine (awake13_any _).mono ?_
          rintro e w99 ⟨rfl, hb99⟩
          have HBE := hide (bl_trans (bl_trans HBW.out HB03.out) hb99)
          clear hb99
          go_wp2
          go_ret
          exact ⟨rfl, HBE.out⟩
      · rw [hku] at HPU
        have hM1 : 1 ≤ M := by have := HME.out; omega
        have mn : (((M - 1 : Nat) : Int) == (M : Int)) = false := by rw [Bool.eq_false_iff]; intro h; have := beq_iff_eq.1 h; omega
        have mw : IntKind.i64.wrap ((M : Int) - 1) = ((M - 1 : Nat) : Int) := by rw [IntKind.wrap_i64]; omega
        have mq : (((M - 1 : Nat) : Int) == ((M - 1 : Nat) : Int)) = true := beq_self_eq_true _
        obtain ⟨m1, hm1⟩ : ∃ m, M - 1 = m := ⟨_, rfl⟩
        rw [hm1] at mn mw mq HPU
        have mN : (m1 == M) = false := by rw [Bool.eq_false_iff]; intro h; have := beq_iff_eq.1 h; omega
        have mN2 : (m1 != M) = true := by unfold bne; rw [mN]; rfl
        have mN3 : ((m1 : Int) != (M : Int)) = true := by unfold bne; rw [mn]; rfl
        have mq2 : ((m1 : Int) != (m1 : Int)) = false := by simp
        clear hku hM1 hm1
        by_cases hkt : t.k = 1
        · have hpmt := HKT.out hkt
          have kb : (t.k == 1) = true := beq_iff_eq.2 hkt
          rw [hpmt] at HPT
          have nn : ((N : Int) == (N : Int)) = true := beq_self_eq_true _
          have nn2 : ((N : Int) != (N : Int)) = false := by simp
          clear hkt hpmt
          go_wp2_with fail
          refine (HMT.out _ (bl_trans HBT.out HB00.out)).mono ?_
          rintro e k1 ⟨rfl, hb⟩
          have HB01 := hide (bl_trans HB00.out hb)
          have TC2 := hide (TC1.out.bl hb)
          have UC2 := hide (UC1.out.bl hb)
          clear hb
          obtain ⟨x0, x1, x2, x3, x4, x5, x6, x7⟩ := TC2.out.eight
          obtain ⟨v0, v1, v2, v3, v4, v5, v6, v7⟩ := UC2.out.eight
          go_wp2_with fail
          refine (HMU.out _ HB01.out).mono ?_
          rintro e k2 ⟨rfl, hb⟩
          have HB02 := hide (bl_trans HB01.out hb)
          have TC3 := hide (TC2.out.bl hb)
          have UC3 := hide (UC2.out.bl hb)
          clear hb
          clear x0 x1 x2 x3 x4 x5 x6 x7 v0 v1 v2 v3 v4 v5 v6 v7
          obtain ⟨x0, x1, x2, x3, x4, x5, x6, x7⟩ := TC3.out.eight
          obtain ⟨v0, v1, v2, v3, v4, v5, v6, v7⟩ := UC3.out.eight
          go_wp2_with fail
          refine (HPU.out _ HB02.out).mono ?_
          rintro e k3 ⟨rfl, hb⟩
          have HB03 := hide (bl_trans HB02.out hb)
          have TC4 := hide (TC3.out.bl hb)
          have UC4 := hide (UC3.out.bl hb)
          clear hb
          clear x0 x1 x2 x3 x4 x5 x6 x7 v0 v1 v2 v3 v4 v5 v6 v7
          obtain ⟨x0, x1, x2, x3, x4, x5, x6, x7⟩ := TC4.out.eight
          obtain ⟨v0, v1, v2, v3, v4, v5, v6, v7⟩ := UC4.out.eight
          go_wp2_with fail
          refine (HPU.out _ HB03.out).mono ?_
          rintro e k4 ⟨rfl, hb⟩
          have HB04 := hide (bl_trans HB03.out hb)
          have TC5 := hide (TC4.out.bl hb)
          have UC5 := hide (UC4.out.bl hb)
          clear hb
          clear x0 x1 x2 x3 x4 x5 x6 x7 v0 v1 v2 v3 v4 v5 v6 v7
          obtain ⟨x0, x1, x2, x3, x4, x5, x6, x7⟩ := TC5.out.eight
          obtain ⟨v0, v1, v2, v3, v4, v5, v6, v7⟩ := UC5.out.eight
          go_wp2_with fail
          refine (HPT.out _ (bl_trans HBT.out HB04.out)).mono ?_
          rintro e k5 ⟨rfl, hb⟩
          have HB05 := hide (bl_trans HB04.out hb)
          have TC6 := hide (TC5.out.bl hb)
          have UC6 := hide (UC5.out.bl hb)
          clear hb
          clear x0 x1 x2 x3 x4 x5 x6 x7 v0 v1 v2 v3 v4 v5 v6 v7
          obtain ⟨x0, x1, x2, x3, x4, x5, x6, x7⟩ := TC6.out.eight
          obtain ⟨v0, v1, v2, v3, v4, v5, v6, v7⟩ := UC6.out.eight
          clear x0 x1 x2 x3 x4 x5 x6 x7 v0 v1 v2 v3 v4 v5 v6 v7
          go_wp2_with fail
          refine (awake13_any _).mono ?_
          rintro e w99 ⟨rfl, hb99⟩
          have HBE := hide (bl_trans (bl_trans HBW.out HB05.out) hb99)
          clear hb99
          go_wp2
          go_ret
          exact ⟨rfl, HBE.out⟩
        · have kb : (t.k == 1) = false := beq_eq_false_iff_ne.2 hkt
          clear hkt
          go_wp2_with fail
          refine (HMT.out _ (bl_trans HBT.out HB00.out)).mono ?_
          rintro e k1 ⟨rfl, hb⟩
          have HB01 := hide (bl_trans HB00.out hb)
          have TC2 := hide (TC1.out.bl hb)
          have UC2 := hide (UC1.out.bl hb)
          clear hb
          obtain ⟨x0, x1, x2, x3, x4, x5, x6, x7⟩ := TC2.out.eight
          obtain ⟨v0, v1, v2, v3, v4, v5, v6, v7⟩ := UC2.out.eight
          go_wp2_with fail
          refine (HMU.out _ HB01.out).mono ?_
          rintro e k2 ⟨rfl, hb⟩
          have HB02 := hide (bl_trans HB01.out hb)
          have TC3 := hide (TC2.out.bl hb)
          have UC3 := hide (UC2.out.bl hb)
          clear hb
          clear x0 x1 x2 x3 x4 x5 x6 x7 v0 v1 v2 v3 v4 v5 v6 v7
          obtain ⟨x0, x1, x2, x3, x4, x5, x6, x7⟩ := TC3.out.eight
          obtain ⟨v0, v1, v2, v3, v4, v5, v6, v7⟩ := UC3.out.eight
          go_wp2_with fail
          refine (HPU.out _ HB02.out).mono ?_
          rintro e k3 ⟨rfl, hb⟩
          have HB03 := hide (bl_trans HB02.out hb)
          have TC4 := hide (TC3.out.bl hb)
          have UC4 := hide (UC3.out.bl hb)
          clear hb
          clear x0 x1 x2 x3 x4 x5 x6 x7 v0 v1 v2 v3 v4 v5 v6 v7
          obtain ⟨x0, x1, x2, x3, x4, x5, x6, x7⟩ := TC4.out.eight
          obtain ⟨v0, v1, v2, v3, v4, v5, v6, v7⟩ := UC4.out.eight
          go_wp2_with fail
          refine (HPU.out _ HB03.out).mono ?_
          rintro e k4 ⟨rfl, hb⟩
          have HB04 := hide (bl_trans HB03.out hb)
          have TC5 := hide (TC4.out.bl hb)
          have UC5 := hide (UC4.out.bl hb)
          clear hb
          clear x0 x1 x2 x3 x4 x5 x6 x7 v0 v1 v2 v3 v4 v5 v6 v7
          obtain ⟨x0, x1, x2, x3, x4, x5, x6, x7⟩ := TC5.out.eight
          obtain ⟨v0, v1, v2, v3, v4, v5, v6, v7⟩ := UC5.out.eight
          go_wp2_with fail
          refine (awake13_any _).mono ?_
          rintro e w99 ⟨rfl, hb99⟩
          have HBE := hide (bl_trans (bl_trans HBW.out HB04.out) hb99)
          clear hb99
          go_wp2
          go_ret
          exact ⟨rfl, HBE.out⟩

set_option maxRecDepth 100000 in
theorem lifted (os : Os) (started : os.Started) (H : Type) (enc : TypeId × Value → H) :
    ReturnsInHanded {} Try.checked os 6 .any (Rows.seqMaySpec.pre6 enc Try.prog Try.f6 Rows.seqMayRow.domain false) (Rows.seqMaySpec.post enc Try.prog Try.f6 false true false false) := by
  refine returnsInHanded_of_change (C := Try.checked) own started (by kernel_rfl) Try.func6
    (ChangeSpec.witness6 (enc := enc) (C := Try.checked) false ⟨#[], #[.slice none 0 0], []⟩ 8 (by kernel_rfl) (by kernel_rfl) (by kernel_rfl) (by kernel_rfl)) ?_
  intro W base args ds gs before hval0 hW hcnd _
  have hval : ∀ (j : Nat) t v, Try.f6.params[j]? = some t → args[j]? = some v → Value.okWide Try.prog W .any base t v := hval0
  have hW' := hW
  obtain ⟨p, q, hA0, hV, rfl, hfz, hnd⟩ := hW
  have hA : DataW.TrodAll enc Try.prog W 0 (fun _ => true) true Try.f6.params.toList args.toList ds p := hA0
  rw [Try.params6] at hA hval
  obtain ⟨v0, vs0, d0, ds0, p0, q0, hargs, rfl, rfl, h0, r0⟩ := trodAll_cons hA
  obtain ⟨rfl, rfl, rfl⟩ := trodAll_nil r0
  obtain rfl : args = #[v0] := by cases args; simp_all
  obtain ⟨rfl, rfl⟩ := trodVars_none hV
  have k0 := h0
  have lt0 : ∀ x ∈ p0, x.block < W.heap.size := by obtain ⟨m, hm⟩ := k0; exact DataW.trod_lt m _ _ _ hm
  obtain ⟨a0, len0, cap0, rfl⟩ := okWide_slice Try.underlying34 (hval 0 34 v0 rfl rfl)
  obtain ⟨z0, w0⟩ : ∃ zs, IsStrs W a0 len0 cap0 zs := by
    obtain ⟨fuel, hf⟩ := h0
    rcases open_strings Try.underlying34 Try.underlying9 (by kernel_rfl) hf with ⟨hcs, _⟩ | ⟨x, l, c, zs, hcs, _, hl, hm, hz, _, hcell, hwz⟩
    · simp [Value.cells] at hcs
      obtain ⟨rfl, rfl, rfl⟩ := hcs
      exact ⟨[], .inl ⟨rfl, rfl, rfl, rfl⟩⟩
    · simp [Value.cells] at hcs
      obtain ⟨rfl, rfl, rfl⟩ := hcs
      exact ⟨zs, .inr ⟨_, rfl, hl, hm, by simpa using hz, hcell, hwz⟩⟩
  clear hA0 hval0
  refine (walk a0 len0 cap0 z0 W w0).mono fun e W' ⟨he, bel⟩ => ?_
  subst he
  exact ⟨_, rfl, _, _, _, [], _, [], hW', trodAll_mk1 (shut_bool Try.underlying4 _), (trodAll_cons_mk (Below.trod laidOut (by kernel_rfl) (of_decide_eq_true (by kernel_rfl)) k0 bel lt0) trodAll_mk0), rfl, bel.frame _, fun h => by cases h⟩

theorem over : Rows.seqMayRow.holds Try.pinned (OpenSpec.ofChange Rows.seqMaySpec) :=
  OpenClaim.holds_of_wide 6 Try.f6 rfl rfl rfl rfl rfl rfl rfl ⟨rfl, rfl, rfl, rfl, rfl⟩ rfl rfl rfl rfl rfl (by kernel_rfl) Try.func6 (by kernel_rfl)
    (of_decide_eq_true (by kernel_rfl)) (by unfold Func.isWrapper; first | (rw [if_pos (by decide +kernel)]; kernel_rfl) | (rw [if_neg (by decide +kernel)]; exact ⟨rfl, rfl⟩))
    (fun os started H enc _ => lifted os started H enc)

theorem proved : Rows.SeqMaySaid := over
end Go.Proofs.Ytmfaeonlmfejdaa.seqMay
