/- Contract: gimletref13.may, May. Condition: a tree that is not too big. And 2 texts more. -/
import Derived.Test.YtcnliipkfccohaaGreatT161
import Derived.Test.YtcnliipkfccohaaGreatT160
import Derived.Deep.DrawnRows
import Derived.BigQuiet
import Derived.Shelf.SlSortCmp.WholeK
import Derived.Test.YtcnliipkfccohaaGreatLayB
import Derived.Sort.LotA
import Derived.ArgAppend
import Derived.RegionTactic
import Derived.Test.YtcnliipkfccohaaGreatRows
namespace Go.Proofs.YtcnliipkfccohaaGreat
end Go.Proofs.YtcnliipkfccohaaGreat
namespace Go.Proofs.YtcnliipkfccohaaGreat.SetM
end Go.Proofs.YtcnliipkfccohaaGreat.SetM
namespace Go.Proofs.YtcnliipkfccohaaGreat.SpanM
end Go.Proofs.YtcnliipkfccohaaGreat.SpanM
section
namespace Go.Proofs.YtcnliipkfccohaaGreat
open Go.ChangeShapes Go.WideShapes Go.ChangeAt Go.RowKit
open SetM
attribute [local go_sem ↓] Go.wp_at_zero Go.wp_at_succ
set_option maxRecDepth 100000
set_option linter.unusedVariables false
set_option linter.unusedSimpArgs false
theorem all_take_no (p : Rt → Bool) (l : List Rt) (i : Nat) (h : i < l.length) (hn : p l[i] = false) : l.all p = false := by
  cases ha : l.all p
  · rfl
  · have := List.all_eq_true.1 ha l[i] (List.getElem_mem h)
    rw [hn] at this; cases this
theorem all_take_on (p : Rt → Bool) (l : List Rt) (i : Nat) (h : i < l.length) (ha : (l.take i).all p = true) (hn : p l[i] = true) : (l.take (i + 1)).all p = true := by
  rw [List.take_succ_eq_append_getElem h, List.all_append, ha]; simp [hn]
theorem repB_eq (l : List Rt) (mi ma : Int) (b : Bool) : repB l.length mi ma (b && atomB (l.headD rt0).k) = (rngB mi ma && b && (decide (l.length = 1) && l.all (fun t => atomB t.k))) := by
  unfold repB rngB
  by_cases h : l.length = 1
  · obtain ⟨a, rfl⟩ := List.length_eq_one_iff.1 h
    simp [Bool.and_assoc]
  · simp [h]
set_option maxHeartbeats 32000000 in
theorem rmay_any {w0 : World} {t : Rt} (h : RxAt w0 t) : sM t ≤ 100000 → ∀ w, Below w0.heap.size w0 w → Calls Tryz.prog 75 #[t.v] w (SmPost (okM t) w) := by
  induction h with
  | mk t hr hk hs ih =>
    intro hz w hb0
    have hrx := RxAt.mk t hr hk hs
    obtain ⟨q1, q2, q3⟩ := sM_ch t
    obtain ⟨r, hrr⟩ : ∃ r, okM t = r := ⟨_, rfl⟩
    have hok := okM_eq t
    rw [hrr] at hok
    have HRP := hide (fun W hb => (repeat_any hrx W hb))
    have HIH := hide (fun i hi W hb => ih i hi (by have := sL_kid t.kids i hi; have := sM_eq t; omega) W hb)
    obtain ⟨pp, hpp⟩ : ∃ p, properB t.ch.data.toList = p := ⟨_, rfl⟩
    obtain ⟨pr, hpr⟩ : ∃ p, mayF t.rows = p := ⟨_, rfl⟩
    have HP := hide (fun W => rproper_any t.ch pp W (by omega) hpp)
    have HR := hide (fun W (hb : Below w0.heap.size w0 W) => rmays_any t.rv t.rows pr W (rwat_below hr hb) (by omega) (fun s hs => ⟨by have := q3 s hs; omega, by have := q3 s hs; omega⟩) hpr)
    have HK := hide hk
    have HB0 := hide hb0
    have HRX := hide hrx
    have HS0 := hide hb0.size
    obtain ⟨A, c, hkv⟩ := ksat_len hk
    obtain ⟨RA, rc, hrv⟩ := rwat_len hr
    have hv : t.v = .agg #[.int .i64 t.k, .string t.ch, .bool t.nt, .slice RA t.rows.length rc, .int .i64 t.mi, .int .i64 t.ma, .bool t.lz, .slice A t.kids.length c] := by unfold Rt.v Rt.cs; rw [hkv, hrv]
    rw [repB_eq] at HRP
    rw [hv] at HRP ⊢
    rw [hkv] at HK
    rw [hrv] at HR
    unfold SmPost at *
    rw [hrr]
    obtain ⟨kids, hkids⟩ : ∃ kids, t.kids = kids := ⟨_, rfl⟩
    obtain ⟨rows, hrows⟩ : ∃ rows, t.rows = rows := ⟨_, rfl⟩
    have HIH2 := hide (fun i (hi : i < kids.length) => (show ∃ h2 : i < t.kids.length, t.kids[i] = kids[i] by subst hkids; exact ⟨hi, rfl⟩))
    rw [hkids] at HRP HK hok ⊢
    rw [hrows] at HRP HR hok hpr ⊢
    clear hr hk hs ih hb0 hkv hrv hz hrx q1 q2 q3 hv hrr hkids hrows
    generalize t.k = k at *
    generalize t.ch = ch at *
    generalize t.nt = nt at *
    generalize t.mi = mi at *
    generalize t.ma = ma at *
    generalize t.lz = lz at *
    have HOK := hide hok
    have HPP := hide hpp
    have HPR := hide hpr
    clear hok hpp hpr
    have HFA := hide (fun o => (show (w.alloc (.cells #[.int .i64 k, .string ch, .bool nt, .slice RA rows.length rc, .int .i64 mi, .int .i64 ma, .bool lz, .slice A kids.length c] 25)).frozen? ⟨w.heap.size, o, none⟩ = false by go_simp))
    obtain ⟨W1, hW1⟩ : ∃ W1, w.alloc (.cells #[.int .i64 k, .string ch, .bool nt, .slice RA rows.length rc, .int .i64 mi, .int .i64 ma, .bool lz, .slice A kids.length c] 25) = W1 := ⟨_, rfl⟩
    have HBA := hide (show Below w.heap.size w W1 from by rw [← hW1]; exact bl_alloc (bl_refl w) _)
    have FJ := hide (fun W (hb : Below W1.heap.size W1 W) j u (hu : (#[.int .i64 k, .string ch, .bool nt, .slice RA rows.length rc, .int .i64 mi, .int .i64 ma, .bool lz, .slice A kids.length c] : Array Value).toList[j]? = some u) => (show W.cell? ⟨w.heap.size, j, none⟩ = some u by
      refine cell_later hb ?_
      rw [← hW1]
      have := cells_lit w _ 25 j u hu
      rw [addr_add, Nat.zero_add] at this
      exact this))
    have HFZ := hide (fun W (hb : Below W1.heap.size W1 W) o => (show W.frozen? ⟨w.heap.size, o, none⟩ = false by
      refine (hb.frozen (p := ⟨w.heap.size, o, none⟩) (by rw [← hW1]; simp)).trans ?_
      rw [← hW1]
      exact HFA.out o))
    have HSZ := hide (show w.heap.size < W1.heap.size by rw [← hW1]; simp)
    have c7 : W1.cell? ⟨w.heap.size, 7, none⟩ = some (.slice A kids.length c) := FJ.out _ (bl_refl _) 7 _ rfl
    go_enter Tryz.func75, Tryz.ntmps75
    go_wp2
    clear c7
    go_loopw [4] (fun i wr => ∃ k1 : Nat, i = .int .i64 k1 ∧ k1 ≤ kids.length ∧ Hid (okL (kids.take k1) = true) ∧ Hid (Below W1.heap.size W1 wr)) (fun i _ => kids.length - (intOf i).toNat)
    case atStart => exact ⟨0, rfl, Nat.zero_le _, hide (by simp [okL]), hide (bl_refl W1)⟩
    case round =>
      obtain ⟨k1, rfl, hk1, HT, HBL⟩ := hrel
      have c7 := FJ.out _ HBL.out 7 _ rfl
      by_cases hlt : k1 < kids.length
      case pos =>
        have HBW := hide (bl_trans HB0.out (bl_trans HBA.out HBL.out))
        obtain ⟨b1, o1, cc1, hv1, hc1, hm1, hlb1, hcell⟩ := ksat_8 (ksat_below HK.out HBW.out) (by omega)
        injection hv1 with hv1 _ hv1c
        subst hv1 hv1c
        unfold maxLen at hm1
        obtain ⟨x0, x1, x2, x3, x4, x5, x6, x7⟩ := hcell k1 hlt
        clear hcell
        have gl : decide ((k1 : Int) < (kids.length : Int)) = true := decide_eq_true (by omega)
        have gl' : decide (k1 < kids.length) = true := decide_eq_true hlt
        have e5 : IntKind.i64.wrap ((k1 : Int) + 1) = (k1 : Int) + 1 := by rw [IntKind.wrap_i64]; omega
        have i1 : (0 : Int) ≤ (k1 : Int) := by omega
        have i2 : (k1 : Int) < (kids.length : Int) := by omega
        have HK1 := hide (show k1 + 1 ≤ kids.length by omega)
        obtain ⟨h2, he⟩ := HIH2.out k1 hlt
        have HC := fun W hb => HIH.out k1 h2 W hb
        have hrx := HRX.out.kid k1 h2
        rw [he] at HC hrx
        have hso := okL_snoc kids k1 hlt
        have hko := okL_kid kids k1 hlt
        obtain ⟨d, hd⟩ : ∃ d, kids[k1]'hlt = d := ⟨_, rfl⟩
        rw [hd] at x0 x1 x2 x3 x4 x5 x6 x7 HC hrx hso hko
        obtain ⟨rA, rc2, hrv⟩ := rwat_len hrx.rows
        obtain ⟨kA, kc, hkv⟩ := ksat_len hrx.ks
        rw [hrv] at x3
        rw [hkv] at x7
        obtain ⟨q, hq⟩ : ∃ q, okM d = q := ⟨_, rfl⟩
        rw [hq] at HC hso hko
        unfold Rt.v Rt.cs at HC
        rw [hrv, hkv] at HC
        have HC2 := hide HC
        have HN := hide (show q = false → r = false from fun h => by
          have := HOK.out
          cases hl : okL kids
          · rw [this, hl]; simp
          · have := hko hl; rw [h] at this; cases this)
        have HY := hide (show q = true → okL (kids.take (k1 + 1)) = true from fun h => by rw [hso, HT.out, h]; rfl)
        clear hd hso hko HC hrx hrv hkv hq he h2
        go_wp2_with fail
        refine (HC2.out _ HBW.out).mono ?_
        rintro e w2 ⟨rfl, hb2⟩
        have HB2 := hide (bl_trans HBL.out hb2)
        clear hb2 x0 x1 x2 x3 x4 x5 x6 x7 c7
        cases q with
        | false =>
          obtain rfl : r = false := HN.out rfl
          clear HN HY
          go_wp2
          go_ret
          exact ⟨rfl, bl_trans HBA.out HB2.out⟩
        | true =>
          have HY2 := hide (HY.out rfl)
          clear HN HY
          go_wp2
          refine ⟨?_, by first | (simp [intOf]; done) | (simp [intOf]; omega)⟩
          first
            | exact ⟨k1 + 1, by go_num, HK1.out, HY2, HB2⟩
            | ((repeat apply Exists.intro); exact ⟨⟨k1 + 1, by go_num, HK1.out, HY2, HB2⟩, rfl⟩)
      obtain rfl : k1 = kids.length := by omega
      have gl : decide ((kids.length : Int) < (kids.length : Int)) = false := by simp
      have gl' : decide (kids.length < kids.length) = false := by simp
      have hj := HT.out
      rw [List.take_length] at hj
      have HOK2 := hide (show r = (mfB k ch nt rows mi ma lz && mkB k kids) by rw [HOK.out, hj, Bool.and_true])
      clear hj hlt HIH HIH2 HT HOK
      clear c7
      have c0 := FJ.out _ HBL.out 0 _ rfl
      have c1 := FJ.out _ HBL.out 1 _ rfl
      have c2 := FJ.out _ HBL.out 2 _ rfl
      have c3 := FJ.out _ HBL.out 3 _ rfl
      have c4 := FJ.out _ HBL.out 4 _ rfl
      have c5 := FJ.out _ HBL.out 5 _ rfl
      have c6 := FJ.out _ HBL.out 6 _ rfl
      have c7 := FJ.out _ HBL.out 7 _ rfl
      have hn1 : w.heap.size < wr.heap.size := Nat.lt_of_lt_of_le HSZ.out HBL.out.size
      have fz := HFZ.out _ HBL.out
      have HFJ := FJ
      by_cases k0 : k = 0
      case pos =>
        subst k0
        clear HP HR HRP
        go_wp2
        go_loopw [5] (fun i wq => ∃ k2 : Nat, i = .int .i64 k2 ∧ k2 ≤ kids.length ∧ Hid ((kids.take k2).all (fun t => seqkB t.k) = true) ∧ Hid (Below W1.heap.size W1 wq)) (fun i _ => kids.length - (intOf i).toNat)
        case atStart => exact ⟨0, rfl, Nat.zero_le _, hide (by simp), HBL⟩
        case round =>
          clear c0 c1 c2 c3 c4 c5 c6 c7 gl gl' hk1 hn1 fz
          obtain ⟨k2, rfl, hk2, HT2, HBL2⟩ := hrel
          have c7 := HFJ.out _ HBL2.out 7 _ rfl
          by_cases hlt : k2 < kids.length
          case pos =>
            have HBW := hide (bl_trans HB0.out (bl_trans HBA.out HBL2.out))
            obtain ⟨b1, o1, cc1, hv1, hc1, hm1, hlb1, hcell⟩ := ksat_8 (ksat_below HK.out HBW.out) (by omega)
            injection hv1 with hv1 _ hv1c
            subst hv1 hv1c
            unfold maxLen at hm1
            obtain ⟨x0, x1, x2, x3, x4, x5, x6, x7⟩ := hcell k2 hlt
            clear hcell
            have gl : decide ((k2 : Int) < (kids.length : Int)) = true := decide_eq_true (by omega)
            have gl' : decide (k2 < kids.length) = true := decide_eq_true hlt
            have e5 : IntKind.i64.wrap ((k2 : Int) + 1) = (k2 : Int) + 1 := by rw [IntKind.wrap_i64]; omega
            have i1 : (0 : Int) ≤ (k2 : Int) := by omega
            have i2 : (k2 : Int) < (kids.length : Int) := by omega
            have HK1 := hide (show k2 + 1 ≤ kids.length by omega)
            have HAN := hide (show seqkB (kids[k2]'hlt).k = false → r = false from fun h => by
              rw [HOK2.out]; unfold mkB; simp [all_take_no (fun t => seqkB t.k) kids k2 hlt h])
            have HAY := hide (all_take_on (fun t => seqkB t.k) kids k2 hlt HT2.out)
            generalize (kids[k2]'hlt).k = kk at *
            clear x1 x2 x3 x4 x5 x6 x7
            by_cases y0 : kk = 0
            case pos =>
              subst y0
              obtain rfl : r = false := HAN.out (by rfl)
              clear HAN HAY
              go_wp2
              go_ret
              exact ⟨rfl, by first | exact bl_trans HBA.out HBL2.out | exact HBL2.out⟩
            have yy0 : (kk == 0) = false := beq_eq_false_iff_ne.2 y0
            by_cases y1 : kk = 1
            case pos =>
              subst y1
              obtain rfl : r = false := HAN.out (by rfl)
              clear HAN HAY
              go_wp2
              go_ret
              exact ⟨rfl, by first | exact bl_trans HBA.out HBL2.out | exact HBL2.out⟩
            have yy1 : (kk == 1) = false := beq_eq_false_iff_ne.2 y1
            have HY2 := hide (HAY.out (by unfold seqkB; simp [y0, y1]))
            clear HAN HAY y0 y1
            go_wp2
            refine ⟨?_, by first | (simp [intOf]; done) | (simp [intOf]; omega)⟩
            first
              | exact ⟨k2 + 1, by go_num, HK1.out, HY2, HBL2⟩
              | ((repeat apply Exists.intro); exact ⟨⟨k2 + 1, by go_num, HK1.out, HY2, HBL2⟩, rfl⟩)
          obtain rfl : k2 = kids.length := by omega
          have gl : decide ((kids.length : Int) < (kids.length : Int)) = false := by simp
          have gl' : decide (kids.length < kids.length) = false := by simp
          have hall := HT2.out
          rw [List.take_length] at hall
          clear c7
          have c0 := HFJ.out _ HBL2.out 0 _ rfl
          have c1 := HFJ.out _ HBL2.out 1 _ rfl
          have c2 := HFJ.out _ HBL2.out 2 _ rfl
          have c3 := HFJ.out _ HBL2.out 3 _ rfl
          have c4 := HFJ.out _ HBL2.out 4 _ rfl
          have c5 := HFJ.out _ HBL2.out 5 _ rfl
          have c6 := HFJ.out _ HBL2.out 6 _ rfl
          have c7 := HFJ.out _ HBL2.out 7 _ rfl
          have hr3 : r = (bareB ch nt rows.length mi ma lz && !decide (kids.length = 1)) := by rw [HOK2.out]; unfold mfB mkB; rw [hall]; simp
          obtain ⟨rb, hrb⟩ : ∃ x, bareB ch nt rows.length mi ma lz = x := ⟨_, rfl⟩
          rw [hrb] at hr3
          have HBR := hide (fun W => bare_any 0 mi ma ch nt lz RA A rows.length rc kids.length c rb hrb W)
          unfold SmPost at HBR
          clear hrb
          clear HOK2 hall
          go_wp2_with fail
          refine (HBR.out _).mono ?_
          rintro e w2 ⟨rfl, hb2⟩
          have HB2 := hide (bl_trans HBL2.out hb2)
          clear hb2 c0 c1 c2 c3 c4 c5 c6 c7
          cases rb with
          | false =>
            obtain rfl : r = false := by rw [hr3]; rfl
            clear hr3
            go_wp2
            go_ret
            exact ⟨rfl, by first | exact bl_trans HBA.out HB2.out | exact HB2.out⟩
          | true =>
            by_cases qn : kids.length ≠ 1
            · obtain rfl : r = true := by rw [hr3]; simp [qn]
              clear hr3
              have z1 : ((kids.length : Int) == 1) = false := beq_eq_false_iff_ne.2 (by omega)
              have z2 : ((kids.length : Int) != 1) = true := by rw [bne, z1]; rfl
              clear qn
              go_wp2
              go_ret
              exact ⟨rfl, by first | exact bl_trans HBA.out HB2.out | exact HB2.out⟩
            · obtain rfl : r = false := by rw [hr3]; first | (simp [qn]; done) | (simp; omega)
              clear hr3
              have qn := Decidable.of_not_not qn
              have z1 : ((kids.length : Int) == 1) = true := beq_iff_eq.2 (by omega)
              have z2 : ((kids.length : Int) != 1) = false := by rw [bne, z1]; rfl
              clear qn
              go_wp2
              go_ret
              exact ⟨rfl, by first | exact bl_trans HBA.out HB2.out | exact HB2.out⟩
      have z0 : (k == 0) = false := beq_eq_false_iff_ne.2 k0
      by_cases k1 : k = 1
      case pos =>
        subst k1
        clear k0
        clear HP HR HRP
        go_wp2
        go_loopw [6] (fun i wq => ∃ k2 : Nat, i = .int .i64 k2 ∧ k2 ≤ kids.length ∧ Hid ((kids.take k2).all (fun t => altkB t.k) = true) ∧ Hid (Below W1.heap.size W1 wq)) (fun i _ => kids.length - (intOf i).toNat)
        case atStart => exact ⟨0, rfl, Nat.zero_le _, hide (by simp), HBL⟩
        case round =>
          clear c0 c1 c2 c3 c4 c5 c6 c7 gl gl' hk1 hn1 fz
          obtain ⟨k2, rfl, hk2, HT2, HBL2⟩ := hrel
          have c7 := HFJ.out _ HBL2.out 7 _ rfl
          by_cases hlt : k2 < kids.length
          case pos =>
            have HBW := hide (bl_trans HB0.out (bl_trans HBA.out HBL2.out))
            obtain ⟨b1, o1, cc1, hv1, hc1, hm1, hlb1, hcell⟩ := ksat_8 (ksat_below HK.out HBW.out) (by omega)
            injection hv1 with hv1 _ hv1c
            subst hv1 hv1c
            unfold maxLen at hm1
            obtain ⟨x0, x1, x2, x3, x4, x5, x6, x7⟩ := hcell k2 hlt
            clear hcell
            have gl : decide ((k2 : Int) < (kids.length : Int)) = true := decide_eq_true (by omega)
            have gl' : decide (k2 < kids.length) = true := decide_eq_true hlt
            have e5 : IntKind.i64.wrap ((k2 : Int) + 1) = (k2 : Int) + 1 := by rw [IntKind.wrap_i64]; omega
            have i1 : (0 : Int) ≤ (k2 : Int) := by omega
            have i2 : (k2 : Int) < (kids.length : Int) := by omega
            have HK1 := hide (show k2 + 1 ≤ kids.length by omega)
            have HAN := hide (show altkB (kids[k2]'hlt).k = false → r = false from fun h => by
              rw [HOK2.out]; unfold mkB; simp [all_take_no (fun t => altkB t.k) kids k2 hlt h])
            have HAY := hide (all_take_on (fun t => altkB t.k) kids k2 hlt HT2.out)
            generalize (kids[k2]'hlt).k = kk at *
            clear x1 x2 x3 x4 x5 x6 x7
            by_cases y1 : kk = 1
            case pos =>
              subst y1
              obtain rfl : r = false := HAN.out (by rfl)
              clear HAN HAY
              go_wp2
              go_ret
              exact ⟨rfl, by first | exact bl_trans HBA.out HBL2.out | exact HBL2.out⟩
            have yy1 : (kk == 1) = false := beq_eq_false_iff_ne.2 y1
            have HY2 := hide (HAY.out (by unfold altkB; simp [y1]))
            clear HAN HAY y1
            go_wp2
            refine ⟨?_, by first | (simp [intOf]; done) | (simp [intOf]; omega)⟩
            first
              | exact ⟨k2 + 1, by go_num, HK1.out, HY2, HBL2⟩
              | ((repeat apply Exists.intro); exact ⟨⟨k2 + 1, by go_num, HK1.out, HY2, HBL2⟩, rfl⟩)
          obtain rfl : k2 = kids.length := by omega
          have gl : decide ((kids.length : Int) < (kids.length : Int)) = false := by simp
          have gl' : decide (kids.length < kids.length) = false := by simp
          have hall := HT2.out
          rw [List.take_length] at hall
          clear c7
          have c0 := HFJ.out _ HBL2.out 0 _ rfl
          have c1 := HFJ.out _ HBL2.out 1 _ rfl
          have c2 := HFJ.out _ HBL2.out 2 _ rfl
          have c3 := HFJ.out _ HBL2.out 3 _ rfl
          have c4 := HFJ.out _ HBL2.out 4 _ rfl
          have c5 := HFJ.out _ HBL2.out 5 _ rfl
          have c6 := HFJ.out _ HBL2.out 6 _ rfl
          have c7 := HFJ.out _ HBL2.out 7 _ rfl
          have hr3 : r = (bareB ch nt rows.length mi ma lz && decide (2 ≤ kids.length)) := by rw [HOK2.out]; unfold mfB mkB; rw [hall]; simp
          obtain ⟨rb, hrb⟩ : ∃ x, bareB ch nt rows.length mi ma lz = x := ⟨_, rfl⟩
          rw [hrb] at hr3
          have HBR := hide (fun W => bare_any 1 mi ma ch nt lz RA A rows.length rc kids.length c rb hrb W)
          unfold SmPost at HBR
          clear hrb
          clear HOK2 hall
          go_wp2_with fail
          refine (HBR.out _).mono ?_
          rintro e w2 ⟨rfl, hb2⟩
          have HB2 := hide (bl_trans HBL2.out hb2)
          clear hb2 c0 c1 c2 c3 c4 c5 c6 c7
          cases rb with
          | false =>
            obtain rfl : r = false := by rw [hr3]; rfl
            clear hr3
            go_wp2
            go_ret
            exact ⟨rfl, by first | exact bl_trans HBA.out HB2.out | exact HB2.out⟩
          | true =>
            by_cases qn : 2 ≤ kids.length
            · obtain rfl : r = true := by rw [hr3]; simp [qn]
              clear hr3
              have z1 : decide ((2 : Int) ≤ (kids.length : Int)) = true := decide_eq_true (by omega)
              have z2 : decide ((kids.length : Int) ≥ 2) = true := z1
              have z3 : decide (2 ≤ kids.length) = true := decide_eq_true (by omega)
              clear qn
              go_wp2
              go_ret
              exact ⟨rfl, by first | exact bl_trans HBA.out HB2.out | exact HB2.out⟩
            · obtain rfl : r = false := by rw [hr3]; first | (simp [qn]; done) | (simp; omega)
              clear hr3
              have z1 : decide ((2 : Int) ≤ (kids.length : Int)) = false := decide_eq_false (by omega)
              have z2 : decide ((kids.length : Int) ≥ 2) = false := z1
              have z3 : decide (2 ≤ kids.length) = false := decide_eq_false (by omega)
              clear qn
              go_wp2
              go_ret
              exact ⟨rfl, by first | exact bl_trans HBA.out HB2.out | exact HB2.out⟩
      have z1 : (k == 1) = false := beq_eq_false_iff_ne.2 k1
      by_cases k2 : k = 2
      case pos =>
        subst k2
        clear k0 k1 z0 z1 HR HRP
        have hr3 : r = (bareB ⟨#[]⟩ nt rows.length mi ma lz && decide (kids.length = 0) && pp) := by rw [HOK2.out, ← HPP.out]; unfold mfB mkB; simp; ac_rfl
        obtain ⟨rb, hrb⟩ : ∃ x, bareB ⟨#[]⟩ nt rows.length mi ma lz = x := ⟨_, rfl⟩
        rw [hrb] at hr3
        have HBR := hide (fun W => bare_any 2 mi ma ⟨#[]⟩ nt lz RA A rows.length rc kids.length c rb hrb W)
        unfold SmPost at HBR
        clear hrb
        clear HOK2 HPP HPR
        go_wp2_with fail
        refine (HBR.out _).mono ?_
        rintro e w2 ⟨rfl, hb2⟩
        have HB2 := hide (show Below w.heap.size w w2 from bl_trans (by repeat (first | exact bl_trans HBA.out HBL.out | refine bl_set ?_ (Nat.le_refl _) _)) hb2)
        clear hb2 c0 c1 c2 c3 c4 c5 c6 c7 fz
        cases rb with
        | false =>
          obtain rfl : r = false := by rw [hr3]; rfl
          clear hr3
          go_wp2
          go_ret
          exact ⟨rfl, by first | exact bl_trans HBA.out HB2.out | exact HB2.out⟩
        | true =>
          by_cases qn : kids.length = 0
          case neg =>
            obtain rfl : r = false := by rw [hr3]; simp [qn]
            clear hr3
            have z1 : ((kids.length : Int) == 0) = false := beq_eq_false_iff_ne.2 (by omega)
            have z2 : ((kids.length : Int) != 0) = true := by rw [bne, z1]; rfl
            clear qn
            go_wp2
            go_ret
            exact ⟨rfl, by first | exact bl_trans HBA.out HB2.out | exact HB2.out⟩
          obtain rfl : r = pp := by rw [hr3]; simp [qn]
          clear hr3
          have z1 : ((kids.length : Int) == 0) = true := beq_iff_eq.2 (by omega)
          have z2 : ((kids.length : Int) != 0) = false := by rw [bne, z1]; rfl
          clear qn
          go_wp2_with fail
          refine (HP.out _).mono ?_
          rintro e w3 ⟨rfl, hb3⟩
          have HB3 := hide (bl_trans HB2.out hb3)
          clear hb3
          go_wp2
          go_ret
          exact ⟨rfl, by first | exact bl_trans HBA.out HB3.out | exact HB3.out⟩
      have z2 : (k == 2) = false := beq_eq_false_iff_ne.2 k2
      by_cases k3 : k = 3
      case pos =>
        subst k3
        clear k0 k1 k2 z0 z1 z2
        have hr3 : r = (bareB ch nt rows.length mi ma lz && decide (kids.length = 0)) := by rw [HOK2.out]; unfold mfB mkB; simp
        obtain ⟨rb, hrb⟩ : ∃ x, bareB ch nt rows.length mi ma lz = x := ⟨_, rfl⟩
        rw [hrb] at hr3
        have HBR := hide (fun W => bare_any 3 mi ma ch nt lz RA A rows.length rc kids.length c rb hrb W)
        unfold SmPost at HBR
        clear hrb
        clear HOK2 HP HR HRP
        go_wp2_with fail
        refine (HBR.out _).mono ?_
        rintro e w2 ⟨rfl, hb2⟩
        have HB2 := hide (bl_trans HBL.out hb2)
        clear hb2 c0 c1 c2 c3 c4 c5 c6 c7
        cases rb with
        | false =>
          obtain rfl : r = false := by rw [hr3]; rfl
          clear hr3
          go_wp2
          go_ret
          exact ⟨rfl, by first | exact bl_trans HBA.out HB2.out | exact HB2.out⟩
        | true =>
          by_cases qn : kids.length = 0
          · obtain rfl : r = true := by rw [hr3]; simp [qn]
            clear hr3
            have z1 : ((kids.length : Int) == 0) = true := beq_iff_eq.2 (by omega)
            have z2 : ((kids.length : Int) != 0) = false := by rw [bne, z1]; rfl
            clear qn
            go_wp2
            go_ret
            exact ⟨rfl, by first | exact bl_trans HBA.out HB2.out | exact HB2.out⟩
          · obtain rfl : r = false := by rw [hr3]; first | (simp [qn]; done) | (simp; omega)
            clear hr3
            have z1 : ((kids.length : Int) == 0) = false := beq_eq_false_iff_ne.2 (by omega)
            have z2 : ((kids.length : Int) != 0) = true := by rw [bne, z1]; rfl
            clear qn
            go_wp2
            go_ret
            exact ⟨rfl, by first | exact bl_trans HBA.out HB2.out | exact HB2.out⟩
      have z3 : (k == 3) = false := beq_eq_false_iff_ne.2 k3
      by_cases k8 : k = 8
      case pos =>
        subst k8
        clear k0 k1 k2 k3 z0 z1 z2 z3
        have hr3 : r = (bareB ch nt rows.length mi ma lz && decide (kids.length = 0)) := by rw [HOK2.out]; unfold mfB mkB; simp
        obtain ⟨rb, hrb⟩ : ∃ x, bareB ch nt rows.length mi ma lz = x := ⟨_, rfl⟩
        rw [hrb] at hr3
        have HBR := hide (fun W => bare_any 8 mi ma ch nt lz RA A rows.length rc kids.length c rb hrb W)
        unfold SmPost at HBR
        clear hrb
        clear HOK2 HP HR HRP
        go_wp2_with fail
        refine (HBR.out _).mono ?_
        rintro e w2 ⟨rfl, hb2⟩
        have HB2 := hide (bl_trans HBL.out hb2)
        clear hb2 c0 c1 c2 c3 c4 c5 c6 c7
        cases rb with
        | false =>
          obtain rfl : r = false := by rw [hr3]; rfl
          clear hr3
          go_wp2
          go_ret
          exact ⟨rfl, by first | exact bl_trans HBA.out HB2.out | exact HB2.out⟩
        | true =>
          by_cases qn : kids.length = 0
          · obtain rfl : r = true := by rw [hr3]; simp [qn]
            clear hr3
            have z1 : ((kids.length : Int) == 0) = true := beq_iff_eq.2 (by omega)
            have z2 : ((kids.length : Int) != 0) = false := by rw [bne, z1]; rfl
            clear qn
            go_wp2
            go_ret
            exact ⟨rfl, by first | exact bl_trans HBA.out HB2.out | exact HB2.out⟩
          · obtain rfl : r = false := by rw [hr3]; first | (simp [qn]; done) | (simp; omega)
            clear hr3
            have z1 : ((kids.length : Int) == 0) = false := beq_eq_false_iff_ne.2 (by omega)
            have z2 : ((kids.length : Int) != 0) = true := by rw [bne, z1]; rfl
            clear qn
            go_wp2
            go_ret
            exact ⟨rfl, by first | exact bl_trans HBA.out HB2.out | exact HB2.out⟩
      have z8 : (k == 8) = false := beq_eq_false_iff_ne.2 k8
      by_cases k9 : k = 9
      case pos =>
        subst k9
        clear k0 k1 k2 k3 k8 z0 z1 z2 z3 z8
        have hr3 : r = (bareB ch nt rows.length mi ma lz && decide (kids.length = 0)) := by rw [HOK2.out]; unfold mfB mkB; simp
        obtain ⟨rb, hrb⟩ : ∃ x, bareB ch nt rows.length mi ma lz = x := ⟨_, rfl⟩
        rw [hrb] at hr3
        have HBR := hide (fun W => bare_any 9 mi ma ch nt lz RA A rows.length rc kids.length c rb hrb W)
        unfold SmPost at HBR
        clear hrb
        clear HOK2 HP HR HRP
        go_wp2_with fail
        refine (HBR.out _).mono ?_
        rintro e w2 ⟨rfl, hb2⟩
        have HB2 := hide (bl_trans HBL.out hb2)
        clear hb2 c0 c1 c2 c3 c4 c5 c6 c7
        cases rb with
        | false =>
          obtain rfl : r = false := by rw [hr3]; rfl
          clear hr3
          go_wp2
          go_ret
          exact ⟨rfl, by first | exact bl_trans HBA.out HB2.out | exact HB2.out⟩
        | true =>
          by_cases qn : kids.length = 0
          · obtain rfl : r = true := by rw [hr3]; simp [qn]
            clear hr3
            have z1 : ((kids.length : Int) == 0) = true := beq_iff_eq.2 (by omega)
            have z2 : ((kids.length : Int) != 0) = false := by rw [bne, z1]; rfl
            clear qn
            go_wp2
            go_ret
            exact ⟨rfl, by first | exact bl_trans HBA.out HB2.out | exact HB2.out⟩
          · obtain rfl : r = false := by rw [hr3]; first | (simp [qn]; done) | (simp; omega)
            clear hr3
            have z1 : ((kids.length : Int) == 0) = false := beq_eq_false_iff_ne.2 (by omega)
            have z2 : ((kids.length : Int) != 0) = true := by rw [bne, z1]; rfl
            clear qn
            go_wp2
            go_ret
            exact ⟨rfl, by first | exact bl_trans HBA.out HB2.out | exact HB2.out⟩
      have z9 : (k == 9) = false := beq_eq_false_iff_ne.2 k9
      by_cases k10 : k = 10
      case pos =>
        subst k10
        clear k0 k1 k2 k3 k8 k9 z0 z1 z2 z3 z8 z9
        have hr3 : r = (bareB ch nt rows.length mi ma lz && decide (kids.length = 0)) := by rw [HOK2.out]; unfold mfB mkB; simp
        obtain ⟨rb, hrb⟩ : ∃ x, bareB ch nt rows.length mi ma lz = x := ⟨_, rfl⟩
        rw [hrb] at hr3
        have HBR := hide (fun W => bare_any 10 mi ma ch nt lz RA A rows.length rc kids.length c rb hrb W)
        unfold SmPost at HBR
        clear hrb
        clear HOK2 HP HR HRP
        go_wp2_with fail
        refine (HBR.out _).mono ?_
        rintro e w2 ⟨rfl, hb2⟩
        have HB2 := hide (bl_trans HBL.out hb2)
        clear hb2 c0 c1 c2 c3 c4 c5 c6 c7
        cases rb with
        | false =>
          obtain rfl : r = false := by rw [hr3]; rfl
          clear hr3
          go_wp2
          go_ret
          exact ⟨rfl, by first | exact bl_trans HBA.out HB2.out | exact HB2.out⟩
        | true =>
          by_cases qn : kids.length = 0
          · obtain rfl : r = true := by rw [hr3]; simp [qn]
            clear hr3
            have z1 : ((kids.length : Int) == 0) = true := beq_iff_eq.2 (by omega)
            have z2 : ((kids.length : Int) != 0) = false := by rw [bne, z1]; rfl
            clear qn
            go_wp2
            go_ret
            exact ⟨rfl, by first | exact bl_trans HBA.out HB2.out | exact HB2.out⟩
          · obtain rfl : r = false := by rw [hr3]; first | (simp [qn]; done) | (simp; omega)
            clear hr3
            have z1 : ((kids.length : Int) == 0) = false := beq_eq_false_iff_ne.2 (by omega)
            have z2 : ((kids.length : Int) != 0) = true := by rw [bne, z1]; rfl
            clear qn
            go_wp2
            go_ret
            exact ⟨rfl, by first | exact bl_trans HBA.out HB2.out | exact HB2.out⟩
      have z10 : (k == 10) = false := beq_eq_false_iff_ne.2 k10
      by_cases k11 : k = 11
      case pos =>
        subst k11
        clear k0 k1 k2 k3 k8 k9 k10 z0 z1 z2 z3 z8 z9 z10
        have hr3 : r = (bareB ch nt rows.length mi ma lz && decide (kids.length = 0)) := by rw [HOK2.out]; unfold mfB mkB; simp
        obtain ⟨rb, hrb⟩ : ∃ x, bareB ch nt rows.length mi ma lz = x := ⟨_, rfl⟩
        rw [hrb] at hr3
        have HBR := hide (fun W => bare_any 11 mi ma ch nt lz RA A rows.length rc kids.length c rb hrb W)
        unfold SmPost at HBR
        clear hrb
        clear HOK2 HP HR HRP
        go_wp2_with fail
        refine (HBR.out _).mono ?_
        rintro e w2 ⟨rfl, hb2⟩
        have HB2 := hide (bl_trans HBL.out hb2)
        clear hb2 c0 c1 c2 c3 c4 c5 c6 c7
        cases rb with
        | false =>
          obtain rfl : r = false := by rw [hr3]; rfl
          clear hr3
          go_wp2
          go_ret
          exact ⟨rfl, by first | exact bl_trans HBA.out HB2.out | exact HB2.out⟩
        | true =>
          by_cases qn : kids.length = 0
          · obtain rfl : r = true := by rw [hr3]; simp [qn]
            clear hr3
            have z1 : ((kids.length : Int) == 0) = true := beq_iff_eq.2 (by omega)
            have z2 : ((kids.length : Int) != 0) = false := by rw [bne, z1]; rfl
            clear qn
            go_wp2
            go_ret
            exact ⟨rfl, by first | exact bl_trans HBA.out HB2.out | exact HB2.out⟩
          · obtain rfl : r = false := by rw [hr3]; first | (simp [qn]; done) | (simp; omega)
            clear hr3
            have z1 : ((kids.length : Int) == 0) = false := beq_eq_false_iff_ne.2 (by omega)
            have z2 : ((kids.length : Int) != 0) = true := by rw [bne, z1]; rfl
            clear qn
            go_wp2
            go_ret
            exact ⟨rfl, by first | exact bl_trans HBA.out HB2.out | exact HB2.out⟩
      have z11 : (k == 11) = false := beq_eq_false_iff_ne.2 k11
      by_cases k4 : k = 4
      case pos =>
        subst k4
        clear k0 k1 k2 k3 k8 k9 k10 k11 z0 z1 z2 z3 z8 z9 z10 z11 HP HRP
        have hr3 : r = (bareB ch false 0 mi ma lz && decide (kids.length = 0) && pr) := by rw [HOK2.out, ← HPR.out]; unfold mfB mkB; simp; ac_rfl
        obtain ⟨rb, hrb⟩ : ∃ x, bareB ch false 0 mi ma lz = x := ⟨_, rfl⟩
        rw [hrb] at hr3
        have HBR := hide (fun W => bare_any 4 mi ma ch false lz none A 0 0 kids.length c rb hrb W)
        unfold SmPost at HBR
        clear hrb
        clear HOK2 HPP HPR
        go_wp2_with fail
        refine (HBR.out _).mono ?_
        rintro e w2 ⟨rfl, hb2⟩
        have HB2 := hide (show Below w.heap.size w w2 from bl_trans (by repeat (first | exact bl_trans HBA.out HBL.out | refine bl_set ?_ (Nat.le_refl _) _)) hb2)
        clear hb2 c0 c1 c2 c3 c4 c5 c6 c7 fz
        cases rb with
        | false =>
          obtain rfl : r = false := by rw [hr3]; rfl
          clear hr3
          go_wp2
          go_ret
          exact ⟨rfl, by first | exact bl_trans HBA.out HB2.out | exact HB2.out⟩
        | true =>
          by_cases qn : kids.length = 0
          case neg =>
            obtain rfl : r = false := by rw [hr3]; simp [qn]
            clear hr3
            have z1 : ((kids.length : Int) == 0) = false := beq_eq_false_iff_ne.2 (by omega)
            have z2 : ((kids.length : Int) != 0) = true := by rw [bne, z1]; rfl
            clear qn
            go_wp2
            go_ret
            exact ⟨rfl, by first | exact bl_trans HBA.out HB2.out | exact HB2.out⟩
          obtain rfl : r = pr := by rw [hr3]; simp [qn]
          clear hr3
          have z1 : ((kids.length : Int) == 0) = true := beq_iff_eq.2 (by omega)
          have z2 : ((kids.length : Int) != 0) = false := by rw [bne, z1]; rfl
          clear qn
          go_wp2_with fail
          refine (HR.out _ (bl_trans HB0.out HB2.out)).mono ?_
          rintro e w3 ⟨rfl, hb3⟩
          have HB3 := hide (bl_trans HB2.out hb3)
          clear hb3
          go_wp2
          go_ret
          exact ⟨rfl, by first | exact bl_trans HBA.out HB3.out | exact HB3.out⟩
      have z4 : (k == 4) = false := beq_eq_false_iff_ne.2 k4
      by_cases k5 : k = 5
      case pos =>
        subst k5
        clear k0 k1 k2 k3 k8 k9 k10 k11 k4 z0 z1 z2 z3 z8 z9 z10 z11 z4
        have hr3 : r = (bareB ch nt rows.length mi ma lz && decide (kids.length = 1)) := by rw [HOK2.out]; unfold mfB mkB; simp
        obtain ⟨rb, hrb⟩ : ∃ x, bareB ch nt rows.length mi ma lz = x := ⟨_, rfl⟩
        rw [hrb] at hr3
        have HBR := hide (fun W => bare_any 5 mi ma ch nt lz RA A rows.length rc kids.length c rb hrb W)
        unfold SmPost at HBR
        clear hrb
        clear HOK2 HP HR HRP
        go_wp2_with fail
        refine (HBR.out _).mono ?_
        rintro e w2 ⟨rfl, hb2⟩
        have HB2 := hide (bl_trans HBL.out hb2)
        clear hb2 c0 c1 c2 c3 c4 c5 c6 c7
        cases rb with
        | false =>
          obtain rfl : r = false := by rw [hr3]; rfl
          clear hr3
          go_wp2
          go_ret
          exact ⟨rfl, by first | exact bl_trans HBA.out HB2.out | exact HB2.out⟩
        | true =>
          by_cases qn : kids.length = 1
          · obtain rfl : r = true := by rw [hr3]; simp [qn]
            clear hr3
            have z1 : ((kids.length : Int) == 1) = true := beq_iff_eq.2 (by omega)
            have z2 : ((kids.length : Int) != 1) = false := by rw [bne, z1]; rfl
            clear qn
            go_wp2
            go_ret
            exact ⟨rfl, by first | exact bl_trans HBA.out HB2.out | exact HB2.out⟩
          · obtain rfl : r = false := by rw [hr3]; first | (simp [qn]; done) | (simp; omega)
            clear hr3
            have z1 : ((kids.length : Int) == 1) = false := beq_eq_false_iff_ne.2 (by omega)
            have z2 : ((kids.length : Int) != 1) = true := by rw [bne, z1]; rfl
            clear qn
            go_wp2
            go_ret
            exact ⟨rfl, by first | exact bl_trans HBA.out HB2.out | exact HB2.out⟩
      have z5 : (k == 5) = false := beq_eq_false_iff_ne.2 k5
      by_cases k6 : k = 6
      case pos =>
        subst k6
        clear k0 k1 k2 k3 k8 k9 k10 k11 k4 k5 z0 z1 z2 z3 z8 z9 z10 z11 z4 z5
        have hr3 : r = (bareB ch nt rows.length mi ma lz && decide (kids.length = 1)) := by rw [HOK2.out]; unfold mfB mkB; simp
        obtain ⟨rb, hrb⟩ : ∃ x, bareB ch nt rows.length mi ma lz = x := ⟨_, rfl⟩
        rw [hrb] at hr3
        have HBR := hide (fun W => bare_any 6 mi ma ch nt lz RA A rows.length rc kids.length c rb hrb W)
        unfold SmPost at HBR
        clear hrb
        clear HOK2 HP HR HRP
        go_wp2_with fail
        refine (HBR.out _).mono ?_
        rintro e w2 ⟨rfl, hb2⟩
        have HB2 := hide (bl_trans HBL.out hb2)
        clear hb2 c0 c1 c2 c3 c4 c5 c6 c7
        cases rb with
        | false =>
          obtain rfl : r = false := by rw [hr3]; rfl
          clear hr3
          go_wp2
          go_ret
          exact ⟨rfl, by first | exact bl_trans HBA.out HB2.out | exact HB2.out⟩
        | true =>
          by_cases qn : kids.length = 1
          · obtain rfl : r = true := by rw [hr3]; simp [qn]
            clear hr3
            have z1 : ((kids.length : Int) == 1) = true := beq_iff_eq.2 (by omega)
            have z2 : ((kids.length : Int) != 1) = false := by rw [bne, z1]; rfl
            clear qn
            go_wp2
            go_ret
            exact ⟨rfl, by first | exact bl_trans HBA.out HB2.out | exact HB2.out⟩
          · obtain rfl : r = false := by rw [hr3]; first | (simp [qn]; done) | (simp; omega)
            clear hr3
            have z1 : ((kids.length : Int) == 1) = false := beq_eq_false_iff_ne.2 (by omega)
            have z2 : ((kids.length : Int) != 1) = true := by rw [bne, z1]; rfl
            clear qn
            go_wp2
            go_ret
            exact ⟨rfl, by first | exact bl_trans HBA.out HB2.out | exact HB2.out⟩
      have z6 : (k == 6) = false := beq_eq_false_iff_ne.2 k6
      by_cases k7 : k = 7
      case pos =>
        subst k7
        clear k0 k1 k2 k3 k8 k9 k10 k11 k4 k5 k6 z0 z1 z2 z3 z8 z9 z10 z11 z4 z5 z6 HP HR
        have hr3 : r = (rngB mi ma && bareB ch nt rows.length 0 0 false && (decide (kids.length = 1) && kids.all (fun t => atomB t.k))) := by rw [HOK2.out]; unfold mfB mkB; simp
        rw [← hr3] at HRP
        clear hr3 HOK2
        go_wp2_with fail
        refine (HRP.out _ (bl_trans HB0.out (bl_trans HBA.out HBL.out))).mono ?_
        rintro e w2 ⟨rfl, hb2⟩
        have HB2 := hide (bl_trans HBL.out hb2)
        clear hb2 c0 c1 c2 c3 c4 c5 c6 c7
        go_wp2
        go_ret
        exact ⟨rfl, by first | exact bl_trans HBA.out HB2.out | exact HB2.out⟩
      have z7 : (k == 7) = false := beq_eq_false_iff_ne.2 k7
      obtain rfl : r = false := by rw [HOK2.out]; unfold mkB; simp [k0, k1, k2, k3, k8, k9, k10, k11, k4, k5, k6, k7]
      clear k0 k1 k2 k3 k8 k9 k10 k11 k4 k5 k6 k7 HOK2 HP HR HRP
      go_wp2
      go_ret
      exact ⟨rfl, by first | exact bl_trans HBA.out HBL.out | exact HBL.out⟩
end Go.Proofs.YtcnliipkfccohaaGreat
end
section
namespace Go.Proofs.YtcnliipkfccohaaGreat
open Go.ChangeShapes Go.WideShapes Go.ChangeAt Go.RowKit
open SetM
attribute [local go_sem ↓] Go.wp_at_zero Go.wp_at_succ
set_option maxRecDepth 100000
set_option linter.unusedVariables false
mutual
  theorem sM_er : ∀ t, sM (er t) = sM t
    | .mk _ _ _ _ _ _ _ _ _ l => by rw [er, sM, sM, sL_er l]
  theorem sL_er : ∀ l, sL (erL l) = sL l
    | [] => by rw [erL]
    | t :: l => by rw [erL, sL, sL, sM_er t, sL_er l]
end
theorem seqk_map (p : Int → Bool) (l : List Rt) : (l.map er).all (fun t => p t.k) = l.all (fun t => p t.k) := by
  rw [List.all_map]
  congr 1
  funext t
  rw [Function.comp, er_eq]
  rfl
theorem mkB_er (k : Int) (l : List Rt) : mkB k (l.map er) = mkB k l := by
  unfold mkB
  rw [List.length_map, seqk_map seqkB, seqk_map altkB, seqk_map atomB]
mutual
  theorem okM_er : ∀ t, okM (er t) = okM t
    | .mk _ _ _ _ _ _ _ _ _ l => by rw [er, okM, okM, okL_er l, erL_map, mkB_er]
  theorem okL_er : ∀ l, okL (erL l) = okL l
    | [] => by rw [erL]
    | t :: l => by rw [erL, okL, okL, okM_er t, okL_er l]
end
theorem cnB_er {a b : Rt} (h : er a = b) (g L : Int) : cnB a g L = cnB b g L := by
  unfold cnB
  rw [← h, pM_er, dM_er, okM_er]
set_option maxHeartbeats 4000000 in
theorem rxrmay_any {w0 : World} {t : Rt} (h : RxAt w0 t) (hz : sM t ≤ 100000) (w : World) (hb0 : Below w0.heap.size w0 w) : Calls Tryz.prog 42 #[t.v] w (SmPost (cnB t 16 512) w) := by
  obtain ⟨A, c, hkv⟩ := ksat_len h.ks
  obtain ⟨RA, rc, hrv⟩ := rwat_len h.rows
  obtain ⟨r, hr⟩ : ∃ r, cnB t 16 512 = r := ⟨_, rfl⟩
  have hpm := pM_sM t
  have HP := hide (fun W hb => rparts_any h (by omega) W hb)
  have HD := hide (fun W hb => rdeep_any h (by omega) W hb)
  have HM := hide (fun W hb => rmay_any h hz W hb)
  have hv : t.v = .agg #[.int .i64 t.k, .string t.ch, .bool t.nt, .slice RA t.rows.length rc, .int .i64 t.mi, .int .i64 t.ma, .bool t.lz, .slice A t.kids.length c] := by unfold Rt.v Rt.cs; rw [hkv, hrv]
  unfold SmPost at *
  rw [hv] at HP HD HM ⊢
  rw [hr]
  unfold cnB at hr
  have HB0 := hide hb0
  clear h hkv hrv hv hb0 hz hpm
  generalize t.kids.length = kl at *
  generalize t.rows.length = rl at *
  generalize t.k = k at *
  generalize t.ch = ch at *
  generalize t.nt = nt at *
  generalize t.mi = mi at *
  generalize t.ma = ma at *
  generalize t.lz = lz at *
  generalize pM t = pt at *
  generalize dM t = dt at *
  generalize okM t = ok at *
  obtain ⟨W1, hW1⟩ : ∃ W1, w.alloc (.cells #[.int .i64 k, .string ch, .bool nt, .slice RA rl rc, .int .i64 mi, .int .i64 ma, .bool lz, .slice A kl c] 25) = W1 := ⟨_, rfl⟩
  have HBA := hide (show Below w.heap.size w W1 from by rw [← hW1]; exact bl_alloc (bl_refl w) _)
  have FJ := hide (fun W (hb : Below W1.heap.size W1 W) j u (hu : (#[Value.int .i64 k, .string ch, .bool nt, .slice RA rl rc, .int .i64 mi, .int .i64 ma, .bool lz, .slice A kl c] : Array Value).toList[j]? = some u) => (show W.cell? ⟨w.heap.size, j, none⟩ = some u by
    refine cell_later hb ?_
    rw [← hW1]
    have := cells_lit w _ 25 j u hu
    rw [addr_add, Nat.zero_add] at this
    exact this))
  have c0 := FJ.out _ (bl_refl _) 0 _ rfl
  have c1 := FJ.out _ (bl_refl _) 1 _ rfl
  have c2 := FJ.out _ (bl_refl _) 2 _ rfl
  have c3 := FJ.out _ (bl_refl _) 3 _ rfl
  have c4 := FJ.out _ (bl_refl _) 4 _ rfl
  have c5 := FJ.out _ (bl_refl _) 5 _ rfl
  have c6 := FJ.out _ (bl_refl _) 6 _ rfl
  have c7 := FJ.out _ (bl_refl _) 7 _ rfl
  have HR := hide hr
  clear hr
  go_enter Tryz.func42, Tryz.ntmps42
  go_wp2_with fail
  refine (HP.out _ (bl_trans HB0.out HBA.out)).mono ?_
  rintro e w2 ⟨rfl, hb2⟩
  have HB2 := hide hb2
  clear hb2 c0 c1 c2 c3 c4 c5 c6 c7
  have c0 := FJ.out _ HB2.out 0 _ rfl
  have c1 := FJ.out _ HB2.out 1 _ rfl
  have c2 := FJ.out _ HB2.out 2 _ rfl
  have c3 := FJ.out _ HB2.out 3 _ rfl
  have c4 := FJ.out _ HB2.out 4 _ rfl
  have c5 := FJ.out _ HB2.out 5 _ rfl
  have c6 := FJ.out _ HB2.out 6 _ rfl
  have c7 := FJ.out _ HB2.out 7 _ rfl
  by_cases qp : pt ≤ 512
  case neg =>
    obtain rfl : r = false := by rw [← HR.out]; simp; omega
    have z1 : decide ((pt : Int) ≤ 512) = false := decide_eq_false (by omega)
    have z2 : decide (pt ≤ 512) = false := decide_eq_false qp
    clear qp HR
    go_wp2
    go_ret
    exact ⟨rfl, bl_trans HBA.out HB2.out⟩
  have z1 : decide ((pt : Int) ≤ 512) = true := decide_eq_true (by omega)
  have z2 : decide (pt ≤ 512) = true := decide_eq_true qp
  go_wp2_with fail
  refine (HD.out _ (bl_trans HB0.out (bl_trans HBA.out HB2.out))).mono ?_
  rintro e w3 ⟨rfl, hb3⟩
  have HB3 := hide (bl_trans HB2.out hb3)
  clear hb3 c0 c1 c2 c3 c4 c5 c6 c7
  have c0 := FJ.out _ HB3.out 0 _ rfl
  have c1 := FJ.out _ HB3.out 1 _ rfl
  have c2 := FJ.out _ HB3.out 2 _ rfl
  have c3 := FJ.out _ HB3.out 3 _ rfl
  have c4 := FJ.out _ HB3.out 4 _ rfl
  have c5 := FJ.out _ HB3.out 5 _ rfl
  have c6 := FJ.out _ HB3.out 6 _ rfl
  have c7 := FJ.out _ HB3.out 7 _ rfl
  by_cases qd : dt ≤ 16
  case neg =>
    obtain rfl : r = false := by rw [← HR.out]; simp; omega
    have z3 : decide ((dt : Int) ≤ 16) = false := decide_eq_false (by omega)
    have z4 : decide (dt ≤ 16) = false := decide_eq_false qd
    clear qp HR qd
    go_wp2
    go_ret
    exact ⟨rfl, bl_trans HBA.out HB3.out⟩
  have z3 : decide ((dt : Int) ≤ 16) = true := decide_eq_true (by omega)
  have z4 : decide (dt ≤ 16) = true := decide_eq_true qd
  obtain rfl : r = ok := by rw [← HR.out, z1, z3]; rfl
  clear qp qd HR
  go_wp2_with fail
  refine (HM.out _ (bl_trans HB0.out (bl_trans HBA.out HB3.out))).mono ?_
  rintro e w4 ⟨rfl, hb4⟩
  have HB4 := hide (bl_trans HBA.out (bl_trans HB3.out hb4))
  clear hb4
  go_wp2
  go_ret
  exact ⟨rfl, HB4.out⟩
end Go.Proofs.YtcnliipkfccohaaGreat
end
section
namespace Go.Proofs.YtcnliipkfccohaaGreat
section
open Go.ChangeShapes Go.WideShapes Go.ChangeAt Go.RowKit
attribute [local go_sem ↓] Go.wp_at_zero Go.wp_at_succ
set_option maxRecDepth 100000
set_option linter.unusedVariables false
def hdC (l : List UInt8) : List UInt8 := l.take (firstN l)
def tlC (l : List UInt8) : List UInt8 := l.drop (firstN l)
theorem hdC_len (l : List UInt8) : (hdC l).length = firstN l := by rw [hdC, List.length_take]; exact Nat.min_eq_left (firstN_le l)
theorem hd_tl (l : List UInt8) : hdC l ++ tlC l = l := List.take_append_drop _ _
theorem tl_len (l : List UInt8) (h : l ≠ []) : (tlC l).length < l.length := by
  have h1 : 0 < l.length := List.length_pos_iff.2 h
  have := firstN_pos l h1
  rw [tlC, List.length_drop]; omega
def SpAtC (w : World) (b o : Nat) (s : ByteArray) (k : Nat) : Prop := w.cell? ⟨b, o, none⟩ = some (.string s) ∧ w.cell? ⟨b, o + 1, none⟩ = some (.int .i64 k)
structure Mvd (w w' : World) (b o k : Nat) : Prop where
  grown : w.grownBy w' (some b)
  cells : ∀ q, q ≠ o + 1 → w'.cell? ⟨b, q, none⟩ = w.cell? ⟨b, q, none⟩
  pos : w'.cell? ⟨b, o + 1, none⟩ = some (.int .i64 k)
  froz : ∀ q, w'.frozen? ⟨b, q, none⟩ = w.frozen? ⟨b, q, none⟩
theorem mvd_bl {w w' : World} {b o k : Nat} (hb : Below w.heap.size w w') (h : w.cell? ⟨b, o + 1, none⟩ = some (.int .i64 k)) : Mvd w w' b o k := by
  have hl := World.block_lt_of_cell? _ _ h
  exact ⟨⟨hb.os, hb.tape, hb.output, hb.size, fun i hi _ => hb.block i hi⟩, fun q _ => hb.cell (p := ⟨b, q, none⟩) hl, cell_later hb h, fun q => hb.frozen (p := ⟨b, q, none⟩) hl⟩
theorem Mvd.lt {w w' : World} {b o k : Nat} (h : Mvd w w' b o k) : b < w'.heap.size := World.block_lt_of_cell? _ _ h.pos
theorem Mvd.trans {w w1 w2 : World} {b o k k2 : Nat} (h : Mvd w w1 b o k) (g : Mvd w1 w2 b o k2) : Mvd w w2 b o k2 :=
  ⟨⟨g.grown.os.trans h.grown.os, g.grown.tape.trans h.grown.tape, g.grown.output.trans h.grown.output, Nat.le_trans h.grown.size g.grown.size, fun i hi hn => (g.grown.block i (Nat.lt_of_lt_of_le hi h.grown.size) hn).trans (h.grown.block i hi hn)⟩,
    fun q hq => (g.cells q hq).trans (h.cells q hq), g.pos, fun q => (g.froz q).trans (h.froz q)⟩
theorem Mvd.bl {w w1 w2 : World} {b o k : Nat} (h : Mvd w w1 b o k) (hb : Below w1.heap.size w1 w2) : Mvd w w2 b o k := h.trans (mvd_bl hb h.pos)
theorem Mvd.set {w w1 : World} {b o k : Nat} (h : Mvd w w1 b o k) (k' : Nat) : Mvd w (w1.setCell ⟨b, o + 1, none⟩ (.int .i64 k')) b o k' :=
  ⟨grown_set h.grown _ _, fun q hq => (World.cell?_setCell_other _ _ _ _ (fun e => hq (by injection e with _ e; exact e.symm))).trans (h.cells q hq), World.cell?_setCell_same _ _ _ h.pos, fun q => by rw [World.frozen?_setCell]; exact h.froz q⟩
theorem Mvd.at {w w' : World} {b o k k0 : Nat} {s : ByteArray} (h : Mvd w w' b o k) (h0 : SpAtC w b o s k0) : SpAtC w' b o s k := ⟨(h.cells o (by omega)).trans h0.1, h.pos⟩
attribute [local go_sem] later_cell later_frozen
end
section
open Go.ChangeShapes Go.WideShapes Go.ChangeAt Go.RowKit
attribute [local go_sem ↓] Go.wp_at_zero Go.wp_at_succ
set_option maxRecDepth 100000
set_option linter.unusedVariables false
theorem lit_eq (c : ByteArray) (L : Array UInt8) (r : Bool) (h : (c.data.toList == L.toList) = r) : (c.toList == (⟨L⟩ : ByteArray).toList) = r ∧ (c.toList == L.toList) = r := by
  have : (⟨L⟩ : ByteArray).toList = L.toList := Go.ByteArray.toList_eq _
  rw [Go.ByteArray.toList_eq c, this]; exact ⟨h, h⟩
end
section
open Go.ChangeShapes Go.WideShapes Go.ChangeAt Go.RowKit
attribute [local go_sem ↓] Go.wp_at_zero Go.wp_at_succ
set_option maxRecDepth 100000
set_option linter.unusedVariables false
def bsC (L : List UInt8) : ByteArray := ⟨L.toArray⟩
theorem bsC_data (L : List UInt8) : (bsC L).data.toList = L := by simp [bsC]
end
section
open Go.ChangeShapes Go.WideShapes Go.ChangeAt Go.RowKit
open SetM
attribute [local go_sem ↓] Go.wp_at_zero Go.wp_at_succ
attribute [local go_sem] later_cell later_frozen lt_bl le_bl
set_option maxRecDepth 100000
set_option linter.unusedVariables false
theorem frv0 (n : Nat) : FrV n (.slice none 0 0) := fun x len c e => by cases e
end
section
open Go.ChangeShapes Go.WideShapes Go.ChangeAt Go.RowKit
open SetM
set_option maxRecDepth 100000
set_option linter.unusedVariables false
theorem results_cell2 {fn : Func} {p q : Tmp} {ty : TypeId} (h : fn.results = #[.cell p ty, .tmp q]) (tmps : Array Value) (P : Program) (w : World) :
    (results fn tmps).run P w = ((asAddr (tmps.getD p undef)).run P w).andThen fun a w₁ => ((loadVar ty a).run P w₁).andThen fun v w₂ => .ok (.tuple #[v, tmps.getD q undef]) w₂ := by
  simp only [results, h]
  simp [Sem.run_bind, Result.andThen]
end
section
open Go.ChangeShapes Go.WideShapes Go.ChangeAt Go.RowKit
open SetM
attribute [local go_sem ↓] Go.wp_at_zero Go.wp_at_succ
attribute [local go_sem] later_cell later_frozen
set_option maxRecDepth 100000
set_option linter.unusedVariables false
def chX (c : ByteArray) : Rt := .mk 2 c false (.slice none 0 0) [] 0 0 false (.slice none 0 0) []
theorem rx_leaf (w : World) (t : Rt) (hr : t.rv = .slice none 0 0) (hr2 : t.rows = []) (hk : t.kv = .slice none 0 0) (hk2 : t.kids = []) : RxAt w t :=
  .mk t (by rw [hr, hr2]; exact .inl ⟨rfl, rfl⟩) (by rw [hk, hk2]; exact .inl ⟨rfl, rfl⟩) (fun i hi => by rw [hk2] at hi; exact absurd hi (Nat.not_lt_zero _))
theorem fr_leaf (n : Nat) (t : Rt) (hr : t.rv = .slice none 0 0) (hk : t.kv = .slice none 0 0) (hk2 : t.kids = []) : Fr n t :=
  .mk t (by rw [hr]; exact frv0 n) (by rw [hk]; exact frv0 n) (fun x hx => by rw [hk2] at hx; cases hx)
end
section
open Go.ChangeShapes Go.WideShapes Go.ChangeAt Go.RowKit
open SetM
attribute [local go_sem ↓] Go.wp_at_zero Go.wp_at_succ
attribute [local go_sem] later_cell later_frozen
set_option maxRecDepth 100000
set_option linter.unusedVariables false
def posOf (w : World) (b : Nat) : Nat := match w.cell? ⟨b, 1, none⟩ with | some v => (intOf v).toNat | none => 0
end
section
open Go.ChangeShapes Go.WideShapes Go.ChangeAt Go.RowKit
open SetM
attribute [local go_sem ↓] Go.wp_at_zero Go.wp_at_succ
attribute [local go_sem] later_cell later_frozen
set_option maxRecDepth 100000
set_option linter.unusedVariables false
theorem ks1 {W : World} {g : Nat} {t : Rt} (h : ∀ j u, t.cs[j]? = some u → W.cell? ⟨g, j, none⟩ = some u) : KsAt W (.slice (some ⟨g, 0, none⟩) 1 1) [t] := by
  refine .inr ⟨_, 1, rfl, by simp, by simp [maxLen], fun i hi j u hu => ?_⟩
  have : i = 0 := by simp at hi; omega
  subst this
  rw [addr_add]
  simp only [Nat.zero_mul, Nat.zero_add, List.getElem_cons_zero] at hu ⊢
  exact h j u hu
theorem set_blk {W : World} {n g o j : Nat} {u v : Value} (h : W.cell? ⟨n, j, none⟩ = some u) (hn : g ≠ n) : (W.setCell ⟨g, o, none⟩ v).cell? ⟨n, j, none⟩ = some u := by
  rw [World.cell?_setCell_other _ _ _ _ (fun e => hn (by injection e))]; exact h
theorem alloc_blk {W : World} {n j : Nat} {u : Value} {o : Obj} (h : W.cell? ⟨n, j, none⟩ = some u) : (W.alloc o).cell? ⟨n, j, none⟩ = some u := cell_later (bl_alloc (bl_refl W) o) h
theorem ks_alloc {W : World} {g : Nat} {cs : List Value} {T : TypeId} (hg : W.heap.size = g) : ∀ j u, cs[j]? = some u → (W.alloc (.cells cs.toArray T)).cell? ⟨g, j, none⟩ = some u := by
  subst hg
  intro j u hu
  have := cells_lit W cs.toArray T j u (by simpa using hu)
  rw [addr_add, Nat.zero_add] at this
  exact this
end
end Go.Proofs.YtcnliipkfccohaaGreat
end
