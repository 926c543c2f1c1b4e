/- Contract: gimletref13.may, May. Condition: a tree that is not too big. -/
import Derived.Test.YtmfaeonlmfejdaaRyE
namespace Go.Proofs.Ytmfaeonlmfejdaa
open Go.ChangeShapes Go.WideShapes Go.ChangeAt Go.RowKit
open SetM
attribute [local go_sem ↓] Go.wp_at_zero Go.wp_at_succ
set_option maxRecDepth 100000
set_option linter.unusedVariables false
set_option linter.unusedSimpArgs false
theorem all_take_no (p : Rt → Bool) (l : List Rt) (i : Nat) (h : i < l.length) (hn : p l[i] = false) : l.all p = false := by
  cases ha : l.all p
  · rfl
  · have := List.all_eq_true.1 ha l[i] (List.getElem_mem h)
    rw [hn] at this; cases this
theorem all_take_on (p : Rt → Bool) (l : List Rt) (i : Nat) (h : i < l.length) (ha : (l.take i).all p = true) (hn : p l[i] = true) : (l.take (i + 1)).all p = true := by
  rw [List.take_succ_eq_append_getElem h, List.all_append, ha]; simp [hn]
theorem repB_eq (l : List Rt) (mi ma : Int) (b : Bool) : repB l.length mi ma (b && atomB (l.headD rt0).k) = (rngB mi ma && b && (decide (l.length = 1) && l.all (fun t => atomB t.k))) := by
  unfold repB rngB
  by_cases h : l.length = 1
  · obtain ⟨a, rfl⟩ := List.length_eq_one_iff.1 h
    simp [Bool.and_assoc]
  · simp [h]
set_option maxHeartbeats 32000000 in
theorem rmay_any {w0 : World} {t : Rt} (h : RxAt w0 t) : sM t ≤ 100000 → ∀ w, Below w0.heap.size w0 w → Calls Try.prog 30 #[t.v] w (SmPost (okM t) w) := by
  induction h with
  | mk t hr hk hs ih =>
    intro hz w hb0
    have hrx := RxAt.mk t hr hk hs
    obtain ⟨q1, q2, q3⟩ := sM_ch t
    obtain ⟨r, hrr⟩ : ∃ r, okM t = r := ⟨_, rfl⟩
    have hok := okM_eq t
    rw [hrr] at hok
    have HRP := hide (fun W hb => (repeat_any hrx W hb))
    have HIH := hide (fun i hi W hb => ih i hi (by have := sL_kid t.kids i hi; have := sM_eq t; omega) W hb)
    obtain ⟨pp, hpp⟩ : ∃ p, properB t.ch.data.toList = p := ⟨_, rfl⟩
    obtain ⟨pr, hpr⟩ : ∃ p, mayF t.rows = p := ⟨_, rfl⟩
    have HP := hide (fun W => rproper_any t.ch pp W (by omega) hpp)
    have HR := hide (fun W (hb : Below w0.heap.size w0 W) => rmays_any t.rv t.rows pr W (rwat_below hr hb) (by omega) (fun s hs => ⟨by have := q3 s hs; omega, by have := q3 s hs; omega⟩) hpr)
    have HK := hide hk
    have HB0 := hide hb0
    have HRX := hide hrx
    have HS0 := hide hb0.size
    obtain ⟨A, c, hkv⟩ := ksat_len hk
    obtain ⟨RA, rc, hrv⟩ := rwat_len hr
    have hv : t.v = .agg #[.int .i64 t.k, .string t.ch, .bool t.nt, .slice RA t.rows.length rc, .int .i64 t.mi, .int .i64 t.ma, .bool t.lz, .slice A t.kids.length c] := by unfold Rt.v Rt.cs; rw [hkv, hrv]
    rw [repB_eq] at HRP
    rw [hv] at HRP ⊢
    rw [hkv] at HK
    rw [hrv] at HR
    unfold SmPost at *
    rw [hrr]
    obtain ⟨kids, hkids⟩ : ∃ kids, t.kids = kids := ⟨_, rfl⟩
    obtain ⟨rows, hrows⟩ : ∃ rows, t.rows = rows := ⟨_, rfl⟩
    have HIH2 := hide (fun i (hi : i < kids.length) => (show ∃ h2 : i < t.kids.length, t.kids[i] = kids[i] by subst hkids; exact ⟨hi, rfl⟩))
    rw [hkids] at HRP HK hok ⊢
    rw [hrows] at HRP HR hok hpr ⊢
    clear hr hk hs ih hb0 hkv hrv hz hrx q1 q2 q3 hv hrr hkids hrows
    generalize t.k = k at *
    generalize t.ch = ch at *
    generalize t.nt = nt at *
    generalize t.mi = mi at *
    generalize t.ma = ma at *
    generalize t.lz = lz at *
    have HOK := hide hok
    have HPP := hide hpp
    have HPR := hide hpr
    clear hok hpp hpr
    have HFA := hide (fun o => (show (w.alloc (.cells #[.int .i64 k, .string ch, .bool nt, .slice RA rows.length rc, .int .i64 mi, .int .i64 ma, .bool lz, .slice A kids.length c] 25)).frozen? ⟨w.heap.size, o, none⟩ = false by go_simp))
    obtain ⟨W1, hW1⟩ : ∃ W1, w.alloc (.cells #[.int .i64 k, .string ch, .bool nt, .slice RA rows.length rc, .int .i64 mi, .int .i64 ma, .bool lz, .slice A kids.length c] 25) = W1 := ⟨_, rfl⟩
    have HBA := hide (show Below w.heap.size w W1 from by rw [← hW1]; exact bl_alloc (bl_refl w) _)
    have FJ := hide (fun W (hb : Below W1.heap.size W1 W) j u (hu : (#[.int .i64 k, .string ch, .bool nt, .slice RA rows.length rc, .int .i64 mi, .int .i64 ma, .bool lz, .slice A kids.length c] : Array Value).toList[j]? = some u) => (show W.cell? ⟨w.heap.size, j, none⟩ = some u by
      refine cell_later hb ?_
      rw [← hW1]
      have := cells_lit w _ 25 j u hu
      rw [addr_add, Nat.zero_add] at this
      exact this))
    have HFZ := hide (fun W (hb : Below W1.heap.size W1 W) o => (show W.frozen? ⟨w.heap.size, o, none⟩ = false by
      refine (hb.frozen (p := ⟨w.heap.size, o, none⟩) (by rw [← hW1]; simp)).trans ?_
      rw [← hW1]
      exact HFA.out o))
    have HSZ := hide (show w.heap.size < W1.heap.size by rw [← hW1]; simp)
    have c7 : W1.cell? ⟨w.heap.size, 7, none⟩ = some (.slice A kids.length c) := FJ.out _ (bl_refl _) 7 _ rfl
    go_enter Try.func30, Try.ntmps30
    go_wp2
    clear c7
    go_loopw [4] (fun i wr => ∃ k1 : Nat, i = .int .i64 k1 ∧ k1 ≤ kids.length ∧ Hid (okL (kids.take k1) = true) ∧ Hid (Below W1.heap.size W1 wr)) (fun i _ => kids.length - (intOf i).toNat)
    case atStart => exact ⟨0, rfl, Nat.zero_le _, hide (by simp [okL]), hide (bl_refl W1)⟩
    case round =>
      obtain ⟨k1, rfl, hk1, HT, HBL⟩ := hrel
      have c7 := FJ.out _ HBL.out 7 _ rfl
      by_cases hlt : k1 < kids.length
      case pos =>
        have HBW := hide (bl_trans HB0.out (bl_trans HBA.out HBL.out))
        obtain ⟨b1, o1, cc1, hv1, hc1, hm1, hlb1, hcell⟩ := ksat_8 (ksat_below HK.out HBW.out) (by omega)
        injection hv1 with hv1 _ hv1c
        subst hv1 hv1c
        unfold maxLen at hm1
        obtain ⟨x0, x1, x2, x3, x4, x5, x6, x7⟩ := hcell k1 hlt
        clear hcell
        have gl : decide ((k1 : Int) < (kids.length : Int)) = true := decide_eq_true (by omega)
        have gl' : decide (k1 < kids.length) = true := decide_eq_true hlt
        have e5 : IntKind.i64.wrap ((k1 : Int) + 1) = (k1 : Int) + 1 := by rw [IntKind.wrap_i64]; omega
        have i1 : (0 : Int) ≤ (k1 : Int) := by omega
        have i2 : (k1 : Int) < (kids.length : Int) := by omega
        have HK1 := hide (show k1 + 1 ≤ kids.length by omega)
        obtain ⟨h2, he⟩ := HIH2.out k1 hlt
        have HC := fun W hb => HIH.out k1 h2 W hb
        have hrx := HRX.out.kid k1 h2
        rw [he] at HC hrx
        have hso := okL_snoc kids k1 hlt
        have hko := okL_kid kids k1 hlt
        obtain ⟨d, hd⟩ : ∃ d, kids[k1]'hlt = d := ⟨_, rfl⟩
        rw [hd] at x0 x1 x2 x3 x4 x5 x6 x7 HC hrx hso hko
        obtain ⟨rA, rc2, hrv⟩ := rwat_len hrx.rows
        obtain ⟨kA, kc, hkv⟩ := ksat_len hrx.ks
        rw [hrv] at x3
        rw [hkv] at x7
        obtain ⟨q, hq⟩ : ∃ q, okM d = q := ⟨_, rfl⟩
        rw [hq] at HC hso hko
        unfold Rt.v Rt.cs at HC
        rw [hrv, hkv] at HC
        have HC2 := hide HC
        have HN := hide (show q = false → r = false from fun h => by
          have := HOK.out
          cases hl : okL kids
          · rw [this, hl]; simp
          · have := hko hl; rw [h] at this; cases this)
        have HY := hide (show q = true → okL (kids.take (k1 + 1)) = true from fun h => by rw [hso, HT.out, h]; rfl)
        clear hd hso hko HC hrx hrv hkv hq he h2
        go_wp2_with fail
        refine (HC2.out _ HBW.out).mono ?_
        rintro e w2 ⟨rfl, hb2⟩
        have HB2 := hide (bl_trans HBL.out hb2)
        clear hb2 x0 x1 x2 x3 x4 x5 x6 x7 c7
        cases q with
        | false =>
          obtain rfl : r = false := HN.out rfl
          clear HN HY
          go_wp2
          go_ret
          exact ⟨rfl, bl_trans HBA.out HB2.out⟩
        | true =>
          have HY2 := hide (HY.out rfl)
          clear HN HY
          go_wp2
          refine ⟨?_, by first | (simp [intOf]; done) | (simp [intOf]; omega)⟩
          first
            | exact ⟨k1 + 1, by go_num, HK1.out, HY2, HB2⟩
            | ((repeat apply Exists.intro); exact ⟨⟨k1 + 1, by go_num, HK1.out, HY2, HB2⟩, rfl⟩)
      obtain rfl : k1 = kids.length := by omega
      have gl : decide ((kids.length : Int) < (kids.length : Int)) = false := by simp
      have gl' : decide (kids.length < kids.length) = false := by simp
      have hj := HT.out
      rw [List.take_length] at hj
      have HOK2 := hide (show r = (mfB k ch nt rows mi ma lz && mkB k kids) by rw [HOK.out, hj, Bool.and_true])
      clear hj hlt HIH HIH2 HT HOK
      clear c7
      have c0 := FJ.out _ HBL.out 0 _ rfl
      have c1 := FJ.out _ HBL.out 1 _ rfl
      have c2 := FJ.out _ HBL.out 2 _ rfl
      have c3 := FJ.out _ HBL.out 3 _ rfl
      have c4 := FJ.out _ HBL.out 4 _ rfl
      have c5 := FJ.out _ HBL.out 5 _ rfl
      have c6 := FJ.out _ HBL.out 6 _ rfl
      have c7 := FJ.out _ HBL.out 7 _ rfl
      have hn1 : w.heap.size < wr.heap.size := Nat.lt_of_lt_of_le HSZ.out HBL.out.size
      have fz := HFZ.out _ HBL.out
      have HFJ := FJ
      by_cases k0 : k = 0
      case pos =>
        subst k0
        clear HP HR HRP
        go_wp2
        go_loopw [5] (fun i wq => ∃ k2 : Nat, i = .int .i64 k2 ∧ k2 ≤ kids.length ∧ Hid ((kids.take k2).all (fun t => seqkB t.k) = true) ∧ Hid (Below W1.heap.size W1 wq)) (fun i _ => kids.length - (intOf i).toNat)
        case atStart => exact ⟨0, rfl, Nat.zero_le _, hide (by simp), HBL⟩
        case round =>
          clear c0 c1 c2 c3 c4 c5 c6 c7 gl gl' hk1 hn1 fz
          obtain ⟨k2, rfl, hk2, HT2, HBL2⟩ := hrel
          have c7 := HFJ.out _ HBL2.out 7 _ rfl
          by_cases hlt : k2 < kids.length
          case pos =>
            have HBW := hide (bl_trans HB0.out (bl_trans HBA.out HBL2.out))
            obtain ⟨b1, o1, cc1, hv1, hc1, hm1, hlb1, hcell⟩ := ksat_8 (ksat_below HK.out HBW.out) (by omega)
            injection hv1 with hv1 _ hv1c
            subst hv1 hv1c
            unfold maxLen at hm1
            obtain ⟨x0, x1, x2, x3, x4, x5, x6, x7⟩ := hcell k2 hlt
            clear hcell
            have gl : decide ((k2 : Int) < (kids.length : Int)) = true := decide_eq_true (by omega)
            have gl' : decide (k2 < kids.length) = true := decide_eq_true hlt
            have e5 : IntKind.i64.wrap ((k2 : Int) + 1) = (k2 : Int) + 1 := by rw [IntKind.wrap_i64]; omega
            have i1 : (0 : Int) ≤ (k2 : Int) := by omega
            have i2 : (k2 : Int) < (kids.length : Int) := by omega
            have HK1 := hide (show k2 + 1 ≤ kids.length by omega)
            have HAN := hide (show seqkB (kids[k2]'hlt).k = false → r = false from fun h => by
              rw [HOK2.out]; unfold mkB; simp [all_take_no (fun t => seqkB t.k) kids k2 hlt h])
            have HAY := hide (all_take_on (fun t => seqkB t.k) kids k2 hlt HT2.out)
            generalize (kids[k2]'hlt).k = kk at *
            clear x1 x2 x3 x4 x5 x6 x7
            by_cases y0 : kk = 0
            case pos =>
              subst y0
              obtain rfl : r = false := HAN.out (by rfl)
              clear HAN HAY
              go_wp2
              go_ret
              exact ⟨rfl, by first | exact bl_trans HBA.out HBL2.out | exact HBL2.out⟩
            have yy0 : (kk == 0) = false := beq_eq_false_iff_ne.2 y0
            by_cases y1 : kk = 1
            case pos =>
              subst y1
              obtain rfl : r = false := HAN.out (by rfl)
              clear HAN HAY
              go_wp2
              go_ret
              exact ⟨rfl, by first | exact bl_trans HBA.out HBL2.out | exact HBL2.out⟩
            have yy1 : (kk == 1) = false := beq_eq_false_iff_ne.2 y1
            have HY2 := hide (HAY.out (by unfold seqkB; simp [y0, y1]))
            clear HAN HAY y0 y1
            go_wp2
            refine ⟨?_, by first | (simp [intOf]; done) | (simp [intOf]; omega)⟩
            first
              | exact ⟨k2 + 1, by go_num, HK1.out, HY2, HBL2⟩
              | ((repeat apply Exists.intro); exact ⟨⟨k2 + 1, by go_num, HK1.out, HY2, HBL2⟩, rfl⟩)
          obtain rfl : k2 = kids.length := by omega
          have gl : decide ((kids.length : Int) < (kids.length : Int)) = false := by simp
          have gl' : decide (kids.length < kids.length) = false := by simp
          have hall := HT2.out
          rw [List.take_length] at hall
          clear c7
          have c0 := HFJ.out _ HBL2.out 0 _ rfl
          have c1 := HFJ.out _ HBL2.out 1 _ rfl
          have c2 := HFJ.out _ HBL2.out 2 _ rfl
          have c3 := HFJ.out _ HBL2.out 3 _ rfl
          have c4 := HFJ.out _ HBL2.out 4 _ rfl
          have c5 := HFJ.out _ HBL2.out 5 _ rfl
          have c6 := HFJ.out _ HBL2.out 6 _ rfl
          have c7 := HFJ.out _ HBL2.out 7 _ rfl
          have hr3 : r = (bareB ch nt rows.length mi ma lz && !decide (kids.length = 1)) := by rw [HOK2.out]; unfold mfB mkB; rw [hall]; simp
          obtain ⟨rb, hrb⟩ : ∃ x, bareB ch nt rows.length mi ma lz = x := ⟨_, rfl⟩
          rw [hrb] at hr3
          have HBR := hide (fun W => bare_any 0 mi ma ch nt lz RA A rows.length rc kids.length c rb hrb W)
          unfold SmPost at HBR
          clear hrb
          clear HOK2 hall
          go_wp2_with fail
          refine (HBR.out _).mono ?_
          rintro e w2 ⟨rfl, hb2⟩
          have HB2 := hide (bl_trans HBL2.out hb2)
          clear hb2 c0 c1 c2 c3 c4 c5 c6 c7
          cases rb with
          | false =>
            obtain rfl : r = false := by rw [hr3]; rfl
            clear hr3
            go_wp2
            go_ret
            exact ⟨rfl, by first | exact bl_trans HBA.out HB2.out | exact HB2.out⟩
          | true =>
            by_cases qn : kids.length ≠ 1
            · obtain rfl : r = true := by rw [hr3]; simp [qn]
              clear hr3
              have z1 : ((kids.length : Int) == 1) = false := beq_eq_false_iff_ne.2 (by omega)
              have z2 : ((kids.length : Int) != 1) = true := by rw [bne, z1]; rfl
              clear qn
              go_wp2
              go_ret
              exact ⟨rfl, by first | exact bl_trans HBA.out HB2.out | exact HB2.out⟩
            · obtain rfl : r = false := by rw [hr3]; first | (simp [qn]; done) | (simp; omega)
              clear hr3
              have qn := Decidable.of_not_not qn
              have z1 : ((kids.length : Int) == 1) = true := beq_iff_eq.2 (by omega)
              have z2 : ((kids.length : Int) != 1) = false := by rw [bne, z1]; rfl
              clear qn
              go_wp2
              go_ret
              exact ⟨rfl, by first | exact bl_trans HBA.out HB2.out | exact HB2.out⟩
      have z0 : (k == 0) = false := beq_eq_false_iff_ne.2 k0
      by_cases k1 : k = 1
      case pos =>
        subst k1
        clear k0
        clear HP HR HRP
        go_wp2
        go_loopw [6] (fun i wq => ∃ k2 : Nat, i = .int .i64 k2 ∧ k2 ≤ kids.length ∧ Hid ((kids.take k2).all (fun t => altkB t.k) = true) ∧ Hid (Below W1.heap.size W1 wq)) (fun i _ => kids.length - (intOf i).toNat)
        case atStart => exact ⟨0, rfl, Nat.zero_le _, hide (by simp), HBL⟩
        case round =>
          clear c0 c1 c2 c3 c4 c5 c6 c7 gl gl' hk1 hn1 fz
          obtain ⟨k2, rfl, hk2, HT2, HBL2⟩ := hrel
          have c7 := HFJ.out _ HBL2.out 7 _ rfl
          by_cases hlt : k2 < kids.length
          case pos =>
            have HBW := hide (bl_trans HB0.out (bl_trans HBA.out HBL2.out))
            obtain ⟨b1, o1, cc1, hv1, hc1, hm1, hlb1, hcell⟩ := ksat_8 (ksat_below HK.out HBW.out) (by omega)
            injection hv1 with hv1 _ hv1c
            subst hv1 hv1c
            unfold maxLen at hm1
            obtain ⟨x0, x1, x2, x3, x4, x5, x6, x7⟩ := hcell k2 hlt
            clear hcell
            have gl : decide ((k2 : Int) < (kids.length : Int)) = true := decide_eq_true (by omega)
            have gl' : decide (k2 < kids.length) = true := decide_eq_true hlt
            have e5 : IntKind.i64.wrap ((k2 : Int) + 1) = (k2 : Int) + 1 := by rw [IntKind.wrap_i64]; omega
            have i1 : (0 : Int) ≤ (k2 : Int) := by omega
            have i2 : (k2 : Int) < (kids.length : Int) := by omega
            have HK1 := hide (show k2 + 1 ≤ kids.length by omega)
            have HAN := hide (show altkB (kids[k2]'hlt).k = false → r = false from fun h => by
              rw [HOK2.out]; unfold mkB; simp [all_take_no (fun t => altkB t.k) kids k2 hlt h])
            have HAY := hide (all_take_on (fun t => altkB t.k) kids k2 hlt HT2.out)
            generalize (kids[k2]'hlt).k = kk at *
            clear x1 x2 x3 x4 x5 x6 x7
            by_cases y1 : kk = 1
            case pos =>
              subst y1
              obtain rfl : r = false := HAN.out (by rfl)
              clear HAN HAY
              go_wp2
              go_ret
              exact ⟨rfl, by first | exact bl_trans HBA.out HBL2.out | exact HBL2.out⟩
            have yy1 : (kk == 1) = false := beq_eq_false_iff_ne.2 y1
            have HY2 := hide (HAY.out (by unfold altkB; simp [y1]))
            clear HAN HAY y1
            go_wp2
            refine ⟨?_, by first | (simp [intOf]; done) | (simp [intOf]; omega)⟩
            first
              | exact ⟨k2 + 1, by go_num, HK1.out, HY2, HBL2⟩
              | ((repeat apply Exists.intro); exact ⟨⟨k2 + 1, by go_num, HK1.out, HY2, HBL2⟩, rfl⟩)
          obtain rfl : k2 = kids.length := by omega
          have gl : decide ((kids.length : Int) < (kids.length : Int)) = false := by simp
          have gl' : decide (kids.length < kids.length) = false := by simp
          have hall := HT2.out
          rw [List.take_length] at hall
          clear c7
          have c0 := HFJ.out _ HBL2.out 0 _ rfl
          have c1 := HFJ.out _ HBL2.out 1 _ rfl
          have c2 := HFJ.out _ HBL2.out 2 _ rfl
          have c3 := HFJ.out _ HBL2.out 3 _ rfl
          have c4 := HFJ.out _ HBL2.out 4 _ rfl
          have c5 := HFJ.out _ HBL2.out 5 _ rfl
          have c6 := HFJ.out _ HBL2.out 6 _ rfl
          have c7 := HFJ.out _ HBL2.out 7 _ rfl
          have hr3 : r = (bareB ch nt rows.length mi ma lz && decide (2 ≤ kids.length)) := by rw [HOK2.out]; unfold mfB mkB; rw [hall]; simp
          obtain ⟨rb, hrb⟩ : ∃ x, bareB ch nt rows.length mi ma lz = x := ⟨_, rfl⟩
          rw [hrb] at hr3
          have HBR := hide (fun W => bare_any 1 mi ma ch nt lz RA A rows.length rc kids.length c rb hrb W)
          unfold SmPost at HBR
          clear hrb
          clear HOK2 hall
          go_wp2_with fail
          refine (HBR.out _).mono ?_
          rintro e w2 ⟨rfl, hb2⟩
          have HB2 := hide (bl_trans HBL2.out hb2)
          clear hb2 c0 c1 c2 c3 c4 c5 c6 c7
          cases rb with
          | false =>
            obtain rfl : r = false := by rw [hr3]; rfl
            clear hr3
            go_wp2
            go_ret
            exact ⟨rfl, by first | exact bl_trans HBA.out HB2.out | exact HB2.out⟩
          | true =>
            by_cases qn : 2 ≤ kids.length
            · obtain rfl : r = true := by rw [hr3]; simp [qn]
              clear hr3
              have z1 : decide ((2 : Int) ≤ (kids.length : Int)) = true := decide_eq_true (by omega)
              have z2 : decide ((kids.length : Int) ≥ 2) = true := z1
              have z3 : decide (2 ≤ kids.length) = true := decide_eq_true (by omega)
              clear qn
              go_wp2
              go_ret
              exact ⟨rfl, by first | exact bl_trans HBA.out HB2.out | exact HB2.out⟩
            · obtain rfl : r = false := by rw [hr3]; first | (simp [qn]; done) | (simp; omega)
              clear hr3
              have z1 : decide ((2 : Int) ≤ (kids.length : Int)) = false := decide_eq_false (by omega)
              have z2 : decide ((kids.length : Int) ≥ 2) = false := z1
              have z3 : decide (2 ≤ kids.length) = false := decide_eq_false (by omega)
              clear qn
              go_wp2
              go_ret
              exact ⟨rfl, by first | exact bl_trans HBA.out HB2.out | exact HB2.out⟩
      have z1 : (k == 1) = false := beq_eq_false_iff_ne.2 k1
      by_cases k2 : k = 2
      case pos =>
        subst k2
        clear k0 k1 z0 z1 HR HRP
        have hr3 : r = (bareB ⟨#[]⟩ nt rows.length mi ma lz && decide (kids.length = 0) && pp) := by rw [HOK2.out, ← HPP.out]; unfold mfB mkB; simp; ac_rfl
        obtain ⟨rb, hrb⟩ : ∃ x, bareB ⟨#[]⟩ nt rows.length mi ma lz = x := ⟨_, rfl⟩
        rw [hrb] at hr3
        have HBR := hide (fun W => bare_any 2 mi ma ⟨#[]⟩ nt lz RA A rows.length rc kids.length c rb hrb W)
        unfold SmPost at HBR
        clear hrb
        clear HOK2 HPP HPR
        go_wp2_with fail
        refine (HBR.out _).mono ?_
        rintro e w2 ⟨rfl, hb2⟩
        have HB2 := hide (show Below w.heap.size w w2 from bl_trans (by repeat (first | exact bl_trans HBA.out HBL.out | refine bl_set ?_ (Nat.le_refl _) _)) hb2)
        clear hb2 c0 c1 c2 c3 c4 c5 c6 c7 fz
        cases rb with
        | false =>
          obtain rfl : r = false := by rw [hr3]; rfl
          clear hr3
          go_wp2
          go_ret
          exact ⟨rfl, by first | exact bl_trans HBA.out HB2.out | exact HB2.out⟩
        | true =>
          by_cases qn : kids.length = 0
          case neg =>
            obtain rfl : r = false := by rw [hr3]; simp [qn]
            clear hr3
            have z1 : ((kids.length : Int) == 0) = false := beq_eq_false_iff_ne.2 (by omega)
            have z2 : ((kids.length : Int) != 0) = true := by rw [bne, z1]; rfl
            clear qn
            go_wp2
            go_ret
            exact ⟨rfl, by first | exact bl_trans HBA.out HB2.out | exact HB2.out⟩
          obtain rfl : r = pp := by rw [hr3]; simp [qn]
          clear hr3
          have z1 : ((kids.length : Int) == 0) = true := beq_iff_eq.2 (by omega)
          have z2 : ((kids.length : Int) != 0) = false := by rw [bne, z1]; rfl
          clear qn
          go_wp2_with fail
          refine (HP.out _).mono ?_
          rintro e w3 ⟨rfl, hb3⟩
          have HB3 := hide (bl_trans HB2.out hb3)
          clear hb3
          go_wp2
          go_ret
          exact ⟨rfl, by first | exact bl_trans HBA.out HB3.out | exact HB3.out⟩
      have z2 : (k == 2) = false := beq_eq_false_iff_ne.2 k2
      by_cases k3 : k = 3
      case pos =>
        subst k3
        clear k0 k1 k2 z0 z1 z2
        have hr3 : r = (bareB ch nt rows.length mi ma lz && decide (kids.length = 0)) := by rw [HOK2.out]; unfold mfB mkB; simp
        obtain ⟨rb, hrb⟩ : ∃ x, bareB ch nt rows.length mi ma lz = x := ⟨_, rfl⟩
        rw [hrb] at hr3
        have HBR := hide (fun W => bare_any 3 mi ma ch nt lz RA A rows.length rc kids.length c rb hrb W)
        unfold SmPost at HBR
        clear hrb
        clear HOK2 HP HR HRP
        go_wp2_with fail
        refine (HBR.out _).mono ?_
        rintro e w2 ⟨rfl, hb2⟩
        have HB2 := hide (bl_trans HBL.out hb2)
        clear hb2 c0 c1 c2 c3 c4 c5 c6 c7
        cases rb with
        | false =>
          obtain rfl : r = false := by rw [hr3]; rfl
          clear hr3
          go_wp2
          go_ret
          exact ⟨rfl, by first | exact bl_trans HBA.out HB2.out | exact HB2.out⟩
        | true =>
          by_cases qn : kids.length = 0
          · obtain rfl : r = true := by rw [hr3]; simp [qn]
            clear hr3
            have z1 : ((kids.length : Int) == 0) = true := beq_iff_eq.2 (by omega)
            have z2 : ((kids.length : Int) != 0) = false := by rw [bne, z1]; rfl
            clear qn
            go_wp2
            go_ret
            exact ⟨rfl, by first | exact bl_trans HBA.out HB2.out | exact HB2.out⟩
          · obtain rfl : r = false := by rw [hr3]; first | (simp [qn]; done) | (simp; omega)
            clear hr3
            have z1 : ((kids.length : Int) == 0) = false := beq_eq_false_iff_ne.2 (by omega)
            have z2 : ((kids.length : Int) != 0) = true := by rw [bne, z1]; rfl
            clear qn
            go_wp2
            go_ret
            exact ⟨rfl, by first | exact bl_trans HBA.out HB2.out | exact HB2.out⟩
      have z3 : (k == 3) = false := beq_eq_false_iff_ne.2 k3
      by_cases k8 : k = 8
      case pos =>
        subst k8
        clear k0 k1 k2 k3 z0 z1 z2 z3
        have hr3 : r = (bareB ch nt rows.length mi ma lz && decide (kids.length = 0)) := by rw [HOK2.out]; unfold mfB mkB; simp
        obtain ⟨rb, hrb⟩ : ∃ x, bareB ch nt rows.length mi ma lz = x := ⟨_, rfl⟩
        rw [hrb] at hr3
        have HBR := hide (fun W => bare_any 8 mi ma ch nt lz RA A rows.length rc kids.length c rb hrb W)
        unfold SmPost at HBR
        clear hrb
        clear HOK2 HP HR HRP
        go_wp2_with fail
        refine (HBR.out _).mono ?_
        rintro e w2 ⟨rfl, hb2⟩
        have HB2 := hide (bl_trans HBL.out hb2)
        clear hb2 c0 c1 c2 c3 c4 c5 c6 c7
        cases rb with
        | false =>
          obtain rfl : r = false := by rw [hr3]; rfl
          clear hr3
          go_wp2
          go_ret
          exact ⟨rfl, by first | exact bl_trans HBA.out HB2.out | exact HB2.out⟩
        | true =>
          by_cases qn : kids.length = 0
          · obtain rfl : r = true := by rw [hr3]; simp [qn]
            clear hr3
            have z1 : ((kids.length : Int) == 0) = true := beq_iff_eq.2 (by omega)
            have z2 : ((kids.length : Int) != 0) = false := by rw [bne, z1]; rfl
            clear qn
            go_wp2
            go_ret
            exact ⟨rfl, by first | exact bl_trans HBA.out HB2.out | exact HB2.out⟩
          · obtain rfl : r = false := by rw [hr3]; first | (simp [qn]; done) | (simp; omega)
            clear hr3
            have z1 : ((kids.length : Int) == 0) = false := beq_eq_false_iff_ne.2 (by omega)
            have z2 : ((kids.length : Int) != 0) = true := by rw [bne, z1]; rfl
            clear qn
            go_wp2
            go_ret
            exact ⟨rfl, by first | exact bl_trans HBA.out HB2.out | exact HB2.out⟩
      have z8 : (k == 8) = false := beq_eq_false_iff_ne.2 k8
      by_cases k9 : k = 9
      case pos =>
        subst k9
        clear k0 k1 k2 k3 k8 z0 z1 z2 z3 z8
        have hr3 : r = (bareB ch nt rows.length mi ma lz && decide (kids.length = 0)) := by rw [HOK2.out]; unfold mfB mkB; simp
        obtain ⟨rb, hrb⟩ : ∃ x, bareB ch nt rows.length mi ma lz = x := ⟨_, rfl⟩
        rw [hrb] at hr3
        have HBR := hide (fun W => bare_any 9 mi ma ch nt lz RA A rows.length rc kids.length c rb hrb W)
        unfold SmPost at HBR
        clear hrb
        clear HOK2 HP HR HRP
        go_wp2_with fail
        refine (HBR.out _).mono ?_
        rintro e w2 ⟨rfl, hb2⟩
        have HB2 := hide (bl_trans HBL.out hb2)
        clear hb2 c0 c1 c2 c3 c4 c5 c6 c7
        cases rb with
        | false =>
          obtain rfl : r = false := by rw [hr3]; rfl
          clear hr3
          go_wp2
          go_ret
          exact ⟨rfl, by first | exact bl_trans HBA.out HB2.out | exact HB2.out⟩
        | true =>
          by_cases qn : kids.length = 0
          · obtain rfl : r = true := by rw [hr3]; simp [qn]
            clear hr3
            have z1 : ((kids.length : Int) == 0) = true := beq_iff_eq.2 (by omega)
            have z2 : ((kids.length : Int) != 0) = false := by rw [bne, z1]; rfl
            clear qn
            go_wp2
            go_ret
            exact ⟨rfl, by first | exact bl_trans HBA.out HB2.out | exact HB2.out⟩
          · obtain rfl : r = false := by rw [hr3]; first | (simp [qn]; done) | (simp; omega)
            clear hr3
            have z1 : ((kids.length : Int) == 0) = false := beq_eq_false_iff_ne.2 (by omega)
            have z2 : ((kids.length : Int) != 0) = true := by rw [bne, z1]; rfl
            clear qn
            go_wp2
            go_ret
            exact ⟨rfl, by first | exact bl_trans HBA.out HB2.out | exact HB2.out⟩
      have z9 : (k == 9) = false := beq_eq_false_iff_ne.2 k9
      by_cases k10 : k = 10
      case pos =>
        subst k10
        clear k0 k1 k2 k3 k8 k9 z0 z1 z2 z3 z8 z9
        have hr3 : r = (bareB ch nt rows.length mi ma lz && decide (kids.length = 0)) := by rw [HOK2.out]; unfold mfB mkB; simp
        obtain ⟨rb, hrb⟩ : ∃ x, bareB ch nt rows.length mi ma lz = x := ⟨_, rfl⟩
        rw [hrb] at hr3
        have HBR := hide (fun W => bare_any 10 mi ma ch nt lz RA A rows.length rc kids.length c rb hrb W)
        unfold SmPost at HBR
        clear hrb
        clear HOK2 HP HR HRP
        go_wp2_with fail
        refine (HBR.out _).mono ?_
        rintro e w2 ⟨rfl, hb2⟩
        have HB2 := hide (bl_trans HBL.out hb2)
        clear hb2 c0 c1 c2 c3 c4 c5 c6 c7
        cases rb with
        | false =>
          obtain rfl : r = false := by rw [hr3]; rfl
          clear hr3
          go_wp2
          go_ret
          exact ⟨rfl, by first | exact bl_trans HBA.out HB2.out | exact HB2.out⟩
        | true =>
          by_cases qn : kids.length = 0
          · obtain rfl : r = true := by rw [hr3]; simp [qn]
            clear hr3
            have z1 : ((kids.length : Int) == 0) = true := beq_iff_eq.2 (by omega)
            have z2 : ((kids.length : Int) != 0) = false := by rw [bne, z1]; rfl
            clear qn
            go_wp2
            go_ret
            exact ⟨rfl, by first | exact bl_trans HBA.out HB2.out | exact HB2.out⟩
          · obtain rfl : r = false := by rw [hr3]; first | (simp [qn]; done) | (simp; omega)
            clear hr3
            have z1 : ((kids.length : Int) == 0) = false := beq_eq_false_iff_ne.2 (by omega)
            have z2 : ((kids.length : Int) != 0) = true := by rw [bne, z1]; rfl
            clear qn
            go_wp2
            go_ret
            exact ⟨rfl, by first | exact bl_trans HBA.out HB2.out | exact HB2.out⟩
      have z10 : (k == 10) = false := beq_eq_false_iff_ne.2 k10
      by_cases k11 : k = 11
      case pos =>
        subst k11
        clear k0 k1 k2 k3 k8 k9 k10 z0 z1 z2 z3 z8 z9 z10
        have hr3 : r = (bareB ch nt rows.length mi ma lz && decide (kids.length = 0)) := by rw [HOK2.out]; unfold mfB mkB; simp
        obtain ⟨rb, hrb⟩ : ∃ x, bareB ch nt rows.length mi ma lz = x := ⟨_, rfl⟩
        rw [hrb] at hr3
        have HBR := hide (fun W => bare_any 11 mi ma ch nt lz RA A rows.length rc kids.length c rb hrb W)
        unfold SmPost at HBR
        clear hrb
        clear HOK2 HP HR HRP
        go_wp2_with fail
        refine (HBR.out _).mono ?_
        rintro e w2 ⟨rfl, hb2⟩
        have HB2 := hide (bl_trans HBL.out hb2)
        clear hb2 c0 c1 c2 c3 c4 c5 c6 c7
        cases rb with
        | false =>
          obtain rfl : r = false := by rw [hr3]; rfl
          clear hr3
          go_wp2
          go_ret
          exact ⟨rfl, by first | exact bl_trans HBA.out HB2.out | exact HB2.out⟩
        | true =>
          by_cases qn : kids.length = 0
          · obtain rfl : r = true := by rw [hr3]; simp [qn]
            clear hr3
            have z1 : ((kids.length : Int) == 0) = true := beq_iff_eq.2 (by omega)
            have z2 : ((kids.length : Int) != 0) = false := by rw [bne, z1]; rfl
            clear qn
            go_wp2
            go_ret
            exact ⟨rfl, by first | exact bl_trans HBA.out HB2.out | exact HB2.out⟩
          · obtain rfl : r = false := by rw [hr3]; first | (simp [qn]; done) | (simp; omega)
            clear hr3
            have z1 : ((kids.length : Int) == 0) = false := beq_eq_false_iff_ne.2 (by omega)
            have z2 : ((kids.length : Int) != 0) = true := by rw [bne, z1]; rfl
            clear qn
            go_wp2
            go_ret
            exact ⟨rfl, by first | exact bl_trans HBA.out HB2.out | exact HB2.out⟩
      have z11 : (k == 11) = false := beq_eq_false_iff_ne.2 k11
      by_cases k4 : k = 4
      case pos =>
        subst k4
        clear k0 k1 k2 k3 k8 k9 k10 k11 z0 z1 z2 z3 z8 z9 z10 z11 HP HRP
        have hr3 : r = (bareB ch false 0 mi ma lz && decide (kids.length = 0) && pr) := by rw [HOK2.out, ← HPR.out]; unfold mfB mkB; simp; ac_rfl
        obtain ⟨rb, hrb⟩ : ∃ x, bareB ch false 0 mi ma lz = x := ⟨_, rfl⟩
        rw [hrb] at hr3
        have HBR := hide (fun W => bare_any 4 mi ma ch false lz none A 0 0 kids.length c rb hrb W)
        unfold SmPost at HBR
        clear hrb
        clear HOK2 HPP HPR
        go_wp2_with fail
        refine (HBR.out _).mono ?_
        rintro e w2 ⟨rfl, hb2⟩
        have HB2 := hide (show Below w.heap.size w w2 from bl_trans (by repeat (first | exact bl_trans HBA.out HBL.out | refine bl_set ?_ (Nat.le_refl _) _)) hb2)
        clear hb2 c0 c1 c2 c3 c4 c5 c6 c7 fz
        cases rb with
        | false =>
          obtain rfl : r = false := by rw [hr3]; rfl
          clear hr3
          go_wp2
          go_ret
          exact ⟨rfl, by first | exact bl_trans HBA.out HB2.out | exact HB2.out⟩
        | true =>
          by_cases qn : kids.length = 0
          case neg =>
            obtain rfl : r = false := by rw [hr3]; simp [qn]
            clear hr3
            have z1 : ((kids.length : Int) == 0) = false := beq_eq_false_iff_ne.2 (by omega)
            have z2 : ((kids.length : Int) != 0) = true := by rw [bne, z1]; rfl
            clear qn
            go_wp2
            go_ret
            exact ⟨rfl, by first | exact bl_trans HBA.out HB2.out | exact HB2.out⟩
          obtain rfl : r = pr := by rw [hr3]; simp [qn]
          clear hr3
          have z1 : ((kids.length : Int) == 0) = true := beq_iff_eq.2 (by omega)
          have z2 : ((kids.length : Int) != 0) = false := by rw [bne, z1]; rfl
          clear qn
          go_wp2_with fail
          refine (HR.out _ (bl_trans HB0.out HB2.out)).mono ?_
          rintro e w3 ⟨rfl, hb3⟩
          have HB3 := hide (bl_trans HB2.out hb3)
          clear hb3
          go_wp2
          go_ret
          exact ⟨rfl, by first | exact bl_trans HBA.out HB3.out | exact HB3.out⟩
      have z4 : (k == 4) = false := beq_eq_false_iff_ne.2 k4
      by_cases k5 : k = 5
      case pos =>
        subst k5
        clear k0 k1 k2 k3 k8 k9 k10 k11 k4 z0 z1 z2 z3 z8 z9 z10 z11 z4
        have hr3 : r = (bareB ch nt rows.length mi ma lz && decide (kids.length = 1)) := by rw [HOK2.out]; unfold mfB mkB; simp
        obtain ⟨rb, hrb⟩ : ∃ x, bareB ch nt rows.length mi ma lz = x := ⟨_, rfl⟩
        rw [hrb] at hr3
        have HBR := hide (fun W => bare_any 5 mi ma ch nt lz RA A rows.length rc kids.length c rb hrb W)
        unfold SmPost at HBR
        clear hrb
        clear HOK2 HP HR HRP
        go_wp2_with fail
        refine (HBR.out _).mono ?_
        rintro e w2 ⟨rfl, hb2⟩
        have HB2 := hide (bl_trans HBL.out hb2)
        clear hb2 c0 c1 c2 c3 c4 c5 c6 c7
        cases rb with
        | false =>
          obtain rfl : r = false := by rw [hr3]; rfl
          clear hr3
          go_wp2
          go_ret
          exact ⟨rfl, by first | exact bl_trans HBA.out HB2.out | exact HB2.out⟩
        | true =>
          by_cases qn : kids.length = 1
          · obtain rfl : r = true := by rw [hr3]; simp [qn]
            clear hr3
            have z1 : ((kids.length : Int) == 1) = true := beq_iff_eq.2 (by omega)
            have z2 : ((kids.length : Int) != 1) = false := by rw [bne, z1]; rfl
            clear qn
            go_wp2
            go_ret
            exact ⟨rfl, by first | exact bl_trans HBA.out HB2.out | exact HB2.out⟩
          · obtain rfl : r = false := by rw [hr3]; first | (simp [qn]; done) | (simp; omega)
            clear hr3
            have z1 : ((kids.length : Int) == 1) = false := beq_eq_false_iff_ne.2 (by omega)
            have z2 : ((kids.length : Int) != 1) = true := by rw [bne, z1]; rfl
            clear qn
            go_wp2
            go_ret
            exact ⟨rfl, by first | exact bl_trans HBA.out HB2.out | exact HB2.out⟩
      have z5 : (k == 5) = false := beq_eq_false_iff_ne.2 k5
      by_cases k6 : k = 6
      case pos =>
        subst k6
        clear k0 k1 k2 k3 k8 k9 k10 k11 k4 k5 z0 z1 z2 z3 z8 z9 z10 z11 z4 z5
        have hr3 : r = (bareB ch nt rows.length mi ma lz && decide (kids.length = 1)) := by rw [HOK2.out]; unfold mfB mkB; simp
        obtain ⟨rb, hrb⟩ : ∃ x, bareB ch nt rows.length mi ma lz = x := ⟨_, rfl⟩
        rw [hrb] at hr3
        have HBR := hide (fun W => bare_any 6 mi ma ch nt lz RA A rows.length rc kids.length c rb hrb W)
        unfold SmPost at HBR
        clear hrb
        clear HOK2 HP HR HRP
        go_wp2_with fail
        refine (HBR.out _).mono ?_
        rintro e w2 ⟨rfl, hb2⟩
        have HB2 := hide (bl_trans HBL.out hb2)
        clear hb2 c0 c1 c2 c3 c4 c5 c6 c7
        cases rb with
        | false =>
          obtain rfl : r = false := by rw [hr3]; rfl
          clear hr3
          go_wp2
          go_ret
          exact ⟨rfl, by first | exact bl_trans HBA.out HB2.out | exact HB2.out⟩
        | true =>
          by_cases qn : kids.length = 1
          · obtain rfl : r = true := by rw [hr3]; simp [qn]
            clear hr3
            have z1 : ((kids.length : Int) == 1) = true := beq_iff_eq.2 (by omega)
            have z2 : ((kids.length : Int) != 1) = false := by rw [bne, z1]; rfl
            clear qn
            go_wp2
            go_ret
            exact ⟨rfl, by first | exact bl_trans HBA.out HB2.out | exact HB2.out⟩
          · obtain rfl : r = false := by rw [hr3]; first | (simp [qn]; done) | (simp; omega)
            clear hr3
            have z1 : ((kids.length : Int) == 1) = false := beq_eq_false_iff_ne.2 (by omega)
            have z2 : ((kids.length : Int) != 1) = true := by rw [bne, z1]; rfl
            clear qn
            go_wp2
            go_ret
            exact ⟨rfl, by first | exact bl_trans HBA.out HB2.out | exact HB2.out⟩
      have z6 : (k == 6) = false := beq_eq_false_iff_ne.2 k6
      by_cases k7 : k = 7
      case pos =>
        subst k7
        clear k0 k1 k2 k3 k8 k9 k10 k11 k4 k5 k6 z0 z1 z2 z3 z8 z9 z10 z11 z4 z5 z6 HP HR
        have hr3 : r = (rngB mi ma && bareB ch nt rows.length 0 0 false && (decide (kids.length = 1) && kids.all (fun t => atomB t.k))) := by rw [HOK2.out]; unfold mfB mkB; simp
        rw [← hr3] at HRP
        clear hr3 HOK2
        go_wp2_with fail
        refine (HRP.out _ (bl_trans HB0.out (bl_trans HBA.out HBL.out))).mono ?_
        rintro e w2 ⟨rfl, hb2⟩
        have HB2 := hide (bl_trans HBL.out hb2)
        clear hb2 c0 c1 c2 c3 c4 c5 c6 c7
        go_wp2
        go_ret
        exact ⟨rfl, by first | exact bl_trans HBA.out HB2.out | exact HB2.out⟩
      have z7 : (k == 7) = false := beq_eq_false_iff_ne.2 k7
      obtain rfl : r = false := by rw [HOK2.out]; unfold mkB; simp [k0, k1, k2, k3, k8, k9, k10, k11, k4, k5, k6, k7]
      clear k0 k1 k2 k3 k8 k9 k10 k11 k4 k5 k6 k7 HOK2 HP HR HRP
      go_wp2
      go_ret
      exact ⟨rfl, by first | exact bl_trans HBA.out HBL.out | exact HBL.out⟩
end Go.Proofs.Ytmfaeonlmfejdaa
