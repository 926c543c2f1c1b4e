/- Contract: the reference's variables of a place. Condition: the selection lies in the text, which is not too long. -/
import Derived.Test.YtmjadcjpgcbalaaDoorVaEnd
import Derived.Deep.CutBlock
namespace Go.Proofs.YtmjadcjpgcbalaaDoor
open Go.ChangeShapes Go.WideShapes Go.ChangeAt Go.RowKit
open SpanM SetM
attribute [local go_sem ↓] Go.wp_at_zero Go.wp_at_succ
set_option maxRecDepth 100000
set_option linter.unusedVariables false
set_option maxHeartbeats 16000000 in
theorem rplace_snn {w : World} {x : ByteArray} (hs : x.size ≤ 100000) (A H p q idx S E d : Nat) (v0 : Value) (env : List Rw) (he : RwAt w v0 env) (hel : env.length ≤ 1000)
    (hp : min (A : Int) H = p) (hq : max (A : Int) H = q) (hqx : q ≤ x.size) (h1 : atV x.data.toList H = idx) (h2 : lnSv x.data.toList idx = S) (h3 : lnEv x.data.toList idx = E) (hd : S + d = H) (hHE : H ≤ E) (hEx : E ≤ x.size) (hidx : idx ≤ 100000)
    (line wd pa : ByteArray) (b : Bool) (hline : x.extract S E = line) (hwd : wrdF line d = wd) (hpa : getV ⟨#[84, 77, 95, 70, 73, 76, 69, 80, 65, 84, 72]⟩ env = pa) (hbb : getB ⟨#[84, 77, 95, 70, 73, 76, 69, 80, 65, 84, 72]⟩ env = b) (hpz : pa.size ≤ 1000000) (hlc : lnC x.data.toList idx = 0) (hsel : p < q) (hwe' : wd.toList.isEmpty = true) (hbt' : b = false) :
    Calls Tryd.prog 23 #[.string x, .agg #[.int .i64 A, .int .i64 H], v0] w (VPost w (plAll x p q line wd idx b pa ++ env)) := by
  obtain ⟨i0, hi0, hz0', hz1, hz2⟩ := info_parts info_rw
  obtain ⟨vA, vc, rfl, hsrc⟩ := rw_src he
  have hm : mayR 0 (H : Int) x.size = 0 := by unfold mayR; rw [if_neg (by omega)]
  have HSP := hide (fun W => rspanV (A : Int) H p q hp hq W)
  have HSRC := hide hsrc
  have HE := hide he
  have HAT := hide (fun W => (show Calls Tryd.prog 48 #[.string x, .int .i64 H] W fun e w' => e = .returned (.tuple #[.int .i64 idx, .int .i64 0]) ∧ Below W.heap.size W w' from by
    have := rat_any x (H : Int) W hs
    rwa [h1, hm] at this))
  have HST := hide (fun W => (show Calls Tryd.prog 49 #[.string x, .int .i64 idx] W fun e w' => e = .returned (.tuple #[.int .i64 S, .int .i64 0]) ∧ Below W.heap.size W w' from by
    have := rstart_any x (idx : Int) W hs
    rwa [h2, hlc] at this))
  have HEN := hide (fun W => (show Calls Tryd.prog 50 #[.string x, .int .i64 idx] W fun e w' => e = .returned (.tuple #[.int .i64 E, .int .i64 0]) ∧ Below W.heap.size W w' from by
    have := rend_any x (idx : Int) W hs
    rwa [h3, hlc] at this))
  have HD1 := hide (fun W => digits_any idx (by omega) W)
  have HD2 := hide (fun W => (show Calls Tryd.prog 20 #[.int .i64 ((idx : Int) + 1)] W fun e w' => e = .returned (.string (itoaS (idx + 1))) ∧ Below W.heap.size W w' from by
    have := digits_any (idx + 1) (by omega) W
    rwa [show (((idx + 1 : Nat)) : Int) = (idx : Int) + 1 by omega] at this))
  obtain ⟨e1, e2⟩ := ln_ends x idx S E H h2 h3 hlc (by omega) (by omega)
  obtain ⟨f1, f2, f3⟩ := word_line x S E d H hd hHE hEx e1 e2
  rw [hline, hwd] at f1
  obtain ⟨a1, a2, a3⟩ := dnW_at (wdP x.data.toList) H
  obtain ⟨b1, b2, b3, b4⟩ := upW_at (wdP x.data.toList) x.size H
  have b2 := b2 (by omega)
  obtain ⟨P, hP⟩ : ∃ P, dnW (wdP x.data.toList) H = P := ⟨_, rfl⟩
  obtain ⟨Q, hQ⟩ : ∃ Q, upW (wdP x.data.toList) x.size H = Q := ⟨_, rfl⟩
  rw [hP, hQ] at f1
  rw [hP] at a1 a2 a3 f2
  rw [hQ] at b1 b2 b3 b4 f3
  have hwz : wd.size = Q - P := by rw [f1, ByteArray.size_extract]; omega
  have HWE : wd.toList.isEmpty = decide (¬ P < Q) := by rw [size_lst0, hwz]; exact decide_eq_decide.2 (by omega)
  have HDN := hide a3
  have HUP := hide b4
  have HDN2 := hide a2
  have HUP2 := hide b3
  have HPQ := hide (And.intro hP hQ)
  have HF1 := hide f1
  have q2 : IntKind.i64.wrap ((idx : Int) + 1) = (idx : Int) + 1 := by rw [IntKind.wrap_i64]; omega
  have hSE : S ≤ E := by omega
  have p0 : decide ((p : Int) < 0) = false := decide_eq_false (by omega)
  have p1 : decide ((x.size : Int) < (q : Int)) = false := decide_eq_false (by omega)
  have p1' : decide (x.size < q) = false := decide_eq_false (by omega)
  have HGET := hide (fun W (hb : Below w.heap.size w W) => rget_any _ env ⟨#[84, 77, 95, 70, 73, 76, 69, 80, 65, 84, 72]⟩ pa b W (rwat_below HE.out hb) hel hpa hbb)
  have gpq : decide ((p : Int) < (q : Int)) = true := decide_eq_true (by omega)
  have gpq' : decide (p < q) = true := decide_eq_true (by omega)
  have hPQ : ¬ P < Q := by
    rw [HWE] at hwe'
    have := of_decide_eq_true hwe'; omega
  have gPQ : decide ((P : Int) < (Q : Int)) = false := decide_eq_false (by omega)
  have gPQ' : decide (P < Q) = false := decide_eq_false hPQ
  have HLINE := hide hline
  have HHD := hide hd
  clear he hsrc hm hp hq h1 h2 h3 hd hwd hpa hbb e1 e2 f1 a2 a3 b3 b4 hP hQ hwz HWE hline hlc HE
  go_enter Tryd.func23, Tryd.ntmps23
  go_wp2_with fail
  (with_reducible refine (HSP.out _).mono ?_)
  rintro e w1 ⟨rfl, hb1⟩
  have c41 : (w.alloc (.cells #[.int .i64 A, .int .i64 H] 39)).cell? ⟨w.heap.size, 0, none⟩ = some (.int .i64 A) := by go_simp
  have c42 : (w.alloc (.cells #[.int .i64 A, .int .i64 H] 39)).cell? ⟨w.heap.size, 1, none⟩ = some (.int .i64 H) := by go_simp
  have hb02 := bl_trans (bl_trans (bl_alloc (bl_refl w) (.cells #[.int .i64 A, .int .i64 H] 39)) hb1) (bl_alloc (bl_refl w1) (.cells #[.int .i64 p, .int .i64 q] 71))
  have hb11 := bl_alloc (bl_refl w1) (.cells #[.int .i64 p, .int .i64 q] 71)
  have c81 : (w1.alloc (.cells #[.int .i64 p, .int .i64 q] 71)).cell? ⟨w1.heap.size, 0, none⟩ = some (.int .i64 p) := by go_simp
  have c82 : (w1.alloc (.cells #[.int .i64 p, .int .i64 q] 71)).cell? ⟨w1.heap.size, 1, none⟩ = some (.int .i64 q) := by go_simp
  replace c42 := cell_later hb11 (cell_later hb1 c42)
  clear c41
  obtain ⟨ws, hws⟩ : ∃ ws, w1.alloc (.cells #[.int .i64 p, .int .i64 q] 71) = ws := ⟨_, rfl⟩
  rw [hws] at hb02 hb11 c42 c81 c82
  have HB02 := hide hb02
  have n42 := World.block_lt_of_cell? _ _ c42
  have C42 := hide c42
  obtain ⟨L0, hL0⟩ : ∃ L : List Rw, [] = L := ⟨_, rfl⟩
  have HN0 := hide (show L0.length = 0 by rw [← hL0]; rfl)
  have HL0 := hide hL0
  have HA := hide (show RAcc ws 0 L0 (.slice none 0 0) ws from ⟨bl_refl _, by rw [← hL0]; exact ⟨rfl, .inl ⟨rfl, rfl⟩⟩⟩)
  clear hb1 hb02 hb11 hL0 c42 HSP
  obtain ⟨hA1, hA2⟩ := HA.out
  have HO := hide hA2
  have HBZ := hide hA1
  have hsz := hA1.size
  clear hA1 hA2 HA
  go_wp2_with (at_builtin; (refine wpList_push ws rfl _ _ 22 rfl ws.heap.size 46 i0 (.agg #[.string ⟨#[]⟩, .string ⟨#[]⟩]) 2 32 Tryd.underlying22 hi0 hz0' hz1 hz2 rfl (by decide) (.slice none 0 0) 0 (flatR L0) rfl HO.out 1 #[.string ⟨#[84, 77, 95, 83, 69, 76, 69, 67, 84, 69, 68, 95, 84, 69, 88, 84]⟩, .string (x.extract p q)] rfl rfl (by simp [Value.oneCell']) (by omega) (by decide) (by omega) ?_); intro v' w4 hv4 hg4 hat; clear hat; obtain ⟨aX, cX, rfl⟩ := own_slice hv4; obtain ⟨L1, hL1⟩ : ∃ L, L0 ++ [(⟨#[84, 77, 95, 83, 69, 76, 69, 67, 84, 69, 68, 95, 84, 69, 88, 84]⟩, (x.extract p q))] = L := ⟨_, rfl⟩; have HL1 := hide hL1; have HA := hide (show RAcc ws 1 L1 (.slice aX 1 cX) w4 from ⟨bl_own HBZ.out HO.out hg4 (Nat.le_refl _), by rw [← hL1, flatR_app]; exact hv4⟩); have HN1 := hide (show L1.length = 1 by rw [← hL1, List.length_append, show L0.length = 0 from HN0.out]; rfl); clear hv4 hg4 HO HBZ hL1 hsz; have c42 := cell_later HA.out.1 C42.out)
  go_wp2_with fail
  (with_reducible refine (HAT.out _).mono ?_)
  rintro e w6 ⟨rfl, hbn⟩
  have HA := hide (HA.out.bl hbn)
  clear hbn
  clear c42 c81 c82
  go_wp2_with fail
  (with_reducible refine (HST.out _).mono ?_)
  rintro e w7 ⟨rfl, hbn⟩
  have HA := hide (HA.out.bl hbn)
  clear hbn
  go_wp2_with fail
  (with_reducible refine (HEN.out _).mono ?_)
  rintro e w8 ⟨rfl, hbn⟩
  have HA := hide (HA.out.bl hbn)
  clear hbn
  obtain ⟨hA1, hA2⟩ := HA.out
  have HO := hide hA2
  have HBZ := hide hA1
  have hsz := hA1.size
  clear hA1 hA2 HA
  go_wp2_with (at_builtin; (refine wpList_push w8 rfl _ _ 22 rfl ws.heap.size 46 i0 (.agg #[.string ⟨#[]⟩, .string ⟨#[]⟩]) 2 32 Tryd.underlying22 hi0 hz0' hz1 hz2 rfl (by decide) (.slice aX 1 cX) 1 (flatR L1) rfl HO.out 1 #[.string ⟨#[84, 77, 95, 67, 85, 82, 82, 69, 78, 84, 95, 76, 73, 78, 69]⟩, .string (x.extract S E)] rfl rfl (by simp [Value.oneCell']) (by omega) (by decide) (by omega) ?_); intro v' w4 hv4 hg4 hat; clear hat; obtain ⟨aX, cX, rfl⟩ := own_slice hv4; obtain ⟨L2, hL2⟩ : ∃ L, L1 ++ [(⟨#[84, 77, 95, 67, 85, 82, 82, 69, 78, 84, 95, 76, 73, 78, 69]⟩, (x.extract S E))] = L := ⟨_, rfl⟩; have HL2 := hide hL2; have HA := hide (show RAcc ws 2 L2 (.slice aX 2 cX) w4 from ⟨bl_own HBZ.out HO.out hg4 (Nat.le_refl _), by rw [← hL2, flatR_app]; exact hv4⟩); have HN2 := hide (show L2.length = 2 by rw [← hL2, List.length_append, show L1.length = 1 from HN1.out]; rfl); clear hv4 hg4 HO HBZ hL2 hsz)
  have c42 := cell_later HA.out.1 C42.out
  go_wp2_with fail
  go_quiet (fail)
  clear c42
  have hA := HA.out.bl (bl_drewN (bl_refl w4) nq)
  obtain ⟨w10, hw10⟩ : ∃ W, w4.drewN nq = W := ⟨_, rfl⟩
  rw [hw10] at hA ⊢
  have HA := hide hA
  clear hA
  go_upto_block 0 with fail
  go_cut [16] from 82 to 92 (fun v wx => v = .int .i64 P ∧ w10 = wx)
  case first =>
    go_wp2_with fail
    go_loopg [16] H (fun g v wx => ∃ j : Nat, v = .int .i64 j ∧ P ≤ j ∧ j ≤ H ∧ g = j ∧ w10 = wx)
    case atStart => exact ⟨H, rfl, a1, Nat.le_refl _, rfl, rfl⟩
    case round =>
      obtain ⟨j, rfl, hPj, hj, hgj, rfl⟩ := hrel
      have HGJ := hide hgj
      clear hgj
      rcases Nat.eq_zero_or_pos j with h0 | h0
      · subst h0
        have hP0 : (0 : Int) = (P : Int) := by omega
        have HP0 := hide hP0
        have gz : decide ((0 : Int) < ((0 : Nat) : Int)) = false := by decide
        clear hPj hj hP0
        go_wp2
        go_meet
        exact ⟨by show Value.int _ (0 : Int) = Value.int _ (P : Int); rw [← HP0.out], rfl⟩
      · obtain ⟨m, rfl⟩ : ∃ m, j = m + 1 := ⟨j - 1, by omega⟩
        have hmx : m < x.size := by omega
        have g0 : decide ((0 : Int) < ((m + 1 : Nat) : Int)) = true := decide_eq_true (by omega)
        have g0' : decide ((0 : Int) < (m : Int) + 1) = true := decide_eq_true (by omega)
        have g0'' : decide (0 < m + 1) = true := decide_eq_true (by omega)
        have gw : IntKind.i64.wrap (((m + 1 : Nat) : Int) - 1) = (m : Int) := by rw [IntKind.wrap_i64]; omega
        by_cases hPm : P ≤ m
        · have hw : wordC x[m] = true := by rw [← wd_at x m hmx]; exact HDN2.out m hPm (by omega)
          have HC := hide (fun W => rword_m x[m] true hw W)
          clear hw h0
          go_wp2_with fail
          refine (HC.out _).mono ?_
          rintro e w11 ⟨rfl, hw11⟩
          subst hw11
          go_wp2
          go_roundg m
          case measure => (have := HGJ.out; omega)
          case rel => exact ⟨m, by go_num, hPm, by omega, rfl, by first | rfl | trivial⟩
        · obtain rfl : P = m + 1 := by omega
          have hw : wordC x[m] = false := by rw [← wd_at x m hmx]; exact HDN.out m rfl
          have HC := hide (fun W => rword_m x[m] false hw W)
          clear hw h0 hPm
          go_wp2_with fail
          refine (HC.out _).mono ?_
          rintro e w11 ⟨rfl, hw11⟩
          subst hw11
          go_wp2
          go_meet
          exact ⟨by first | rfl | go_num, by first | rfl | trivial⟩
  case rest =>
    obtain ⟨rfl, rfl⟩ := hcut
    go_upto_block 2 with fail
    go_cut [17] from 93 to 104 (fun v wx => v = .int .i64 Q ∧ w10 = wx)
    case first =>
      go_wp2_with fail
      go_loopg [17] (x.size - H) (fun g v wx => ∃ j : Nat, v = .int .i64 j ∧ H ≤ j ∧ j ≤ Q ∧ g = x.size - j ∧ w10 = wx)
      case atStart => exact ⟨H, rfl, Nat.le_refl _, b1, rfl, rfl⟩
      case round =>
        obtain ⟨j, rfl, hHj, hj, rfl, rfl⟩ := hrel
        by_cases hlt : j < x.size
        · have g0 : decide ((j : Int) < (x.size : Int)) = true := decide_eq_true (by omega)
          have g0' : decide (j < x.size) = true := decide_eq_true hlt
          by_cases hjQ : j < Q
          · have hw : wordC x[j] = true := by rw [← wd_at x j hlt]; exact HUP2.out j hHj hjQ
            have HC := hide (fun W => rword_m x[j] true hw W)
            clear hw
            go_wp2_with fail
            refine (HC.out _).mono ?_
            rintro e w11 ⟨rfl, hw11⟩
            subst hw11
            go_wp2
            go_roundg (x.size - (j + 1))
            case measure => omega
            case rel => exact ⟨j + 1, by go_num, by omega, by omega, rfl, by first | rfl | trivial⟩
          · obtain rfl : j = Q := by omega
            have hw : wordC x[j] = false := by rw [← wd_at x j hlt]; exact HUP.out hlt
            have HC := hide (fun W => rword_m x[j] false hw W)
            clear hw
            go_wp2_with fail
            refine (HC.out _).mono ?_
            rintro e w11 ⟨rfl, hw11⟩
            subst hw11
            go_wp2
            go_meet
            exact ⟨by first | rfl | go_num, by first | rfl | trivial⟩
        · have hjQ : (j : Int) = (Q : Int) := by omega
          have HJQ := hide hjQ
          have g0 : decide ((j : Int) < (x.size : Int)) = false := decide_eq_false (by omega)
          have g0' : decide (j < x.size) = false := decide_eq_false hlt
          clear hjQ
          go_wp2
          go_meet
          exact ⟨by rw [← HJQ.out], by first | rfl | trivial⟩
    case rest =>
      obtain ⟨rfl, rfl⟩ := hcut
      go_wp2_with fail
      (with_reducible refine (HD1.out _).mono ?_)
      rintro e w12 ⟨rfl, hbn⟩
      have HA := hide (HA.out.bl hbn)
      clear hbn
      go_wp2_with fail
      (with_reducible refine (HD2.out _).mono ?_)
      rintro e w13 ⟨rfl, hbn⟩
      have HA := hide (HA.out.bl hbn)
      clear hbn
      obtain ⟨hA1, hA2⟩ := HA.out
      have HO := hide hA2
      have HBZ := hide hA1
      have hsz := hA1.size
      clear hA1 hA2 HA
      go_wp2_with (at_builtin; (refine wpList_push w13 rfl _ _ 22 rfl ws.heap.size 46 i0 (.agg #[.string ⟨#[]⟩, .string ⟨#[]⟩]) 2 32 Tryd.underlying22 hi0 hz0' hz1 hz2 rfl (by decide) (.slice aX 2 cX) 2 (flatR L2) rfl HO.out 2 #[.string ⟨#[84, 77, 95, 76, 73, 78, 69, 95, 73, 78, 68, 69, 88]⟩, .string (itoaS idx), .string ⟨#[84, 77, 95, 76, 73, 78, 69, 95, 78, 85, 77, 66, 69, 82]⟩, .string (itoaS (idx + 1))] rfl rfl (by simp [Value.oneCell']) (by omega) (by decide) (by omega) ?_); intro v' w4 hv4 hg4 hat; clear hat; obtain ⟨aX, cX, rfl⟩ := own_slice hv4; obtain ⟨L4, hL4⟩ : ∃ L, L2 ++ [(⟨#[84, 77, 95, 76, 73, 78, 69, 95, 73, 78, 68, 69, 88]⟩, (itoaS idx)), (⟨#[84, 77, 95, 76, 73, 78, 69, 95, 78, 85, 77, 66, 69, 82]⟩, (itoaS (idx + 1)))] = L := ⟨_, rfl⟩; have HL4 := hide hL4; have HA := hide (show RAcc ws 4 L4 (.slice aX 4 cX) w4 from ⟨bl_own HBZ.out HO.out hg4 (Nat.le_refl _), by rw [← hL4, flatR_app]; exact hv4⟩); have HN4 := hide (show L4.length = 4 by rw [← hL4, List.length_append, show L2.length = 2 from HN2.out]; rfl); clear hv4 hg4 HO HBZ hL4 hsz)
      have hbz := bl_trans HB02.out HA.out.1
      go_wp2_with fail
      (with_reducible refine (HGET.out _ hbz).mono ?_)
      rintro e w14 ⟨rfl, hwn⟩
      subst hwn
      clear hbz
      have HRR := hide (show L4 = plAll x p q line wd idx b pa from by
        rw [← HL4.out, ← HL2.out, ← HL1.out, ← HL0.out]
        unfold plAll plSel plWord plPath
        rw [if_pos hsel]; rw [if_pos hwe']; rw [if_neg (by rw [hbt']; simp)]; rw [HLINE.out]; simp)
      obtain ⟨hA1, hA2⟩ := HA.out
      have hsz := hA1.size
      have HO := hide hA2
      have HS9 := hide (src_below HSRC.out (bl_trans HB02.out hA1))
      have hone := flatR_one env
      have HBE := hide (bl_trans HB02.out hA1)
      clear hA1 hA2 HA
      go_wp2_with (at_builtin; (refine wpList_src _ rfl _ _ 22 rfl ws.heap.size 46 i0 (.agg #[.string ⟨#[]⟩, .string ⟨#[]⟩]) 2 32 Tryd.underlying22 hi0 hz0' hz1 hz2 rfl (by decide) (.slice aX 4 cX) 4 (flatR L4) rfl HO.out vA env.length vc (flatR env) rfl HS9.out hone (by omega) (by decide) (by omega) ?_); intro v' w4 hv4 hg4; have HV4 := hide hv4; have HG4 := hide hg4; clear hv4 hg4)
      go_ret2
      have hv := HV4.out
      rw [← flatR_app, HRR.out, show 4 + env.length = (plAll x p q line wd idx b pa ++ env).length by rw [List.length_append, ← HRR.out, HN4.out]] at hv
      refine ⟨v', rfl, bl_grown HBE.out HG4.out (fun k hk => ?_), own_base hv (by omega)⟩
      have := (World.ownsRow.lt HO.out k hk).1
      omega
set_option maxHeartbeats 16000000 in
theorem rplace_snp {w : World} {x : ByteArray} (hs : x.size ≤ 100000) (A H p q idx S E d : Nat) (v0 : Value) (env : List Rw) (he : RwAt w v0 env) (hel : env.length ≤ 1000)
    (hp : min (A : Int) H = p) (hq : max (A : Int) H = q) (hqx : q ≤ x.size) (h1 : atV x.data.toList H = idx) (h2 : lnSv x.data.toList idx = S) (h3 : lnEv x.data.toList idx = E) (hd : S + d = H) (hHE : H ≤ E) (hEx : E ≤ x.size) (hidx : idx ≤ 100000)
    (line wd pa : ByteArray) (b : Bool) (hline : x.extract S E = line) (hwd : wrdF line d = wd) (hpa : getV ⟨#[84, 77, 95, 70, 73, 76, 69, 80, 65, 84, 72]⟩ env = pa) (hbb : getB ⟨#[84, 77, 95, 70, 73, 76, 69, 80, 65, 84, 72]⟩ env = b) (hpz : pa.size ≤ 1000000) (hlc : lnC x.data.toList idx = 0) (hsel : p < q) (hwe' : wd.toList.isEmpty = true) (hbt' : b = true) (hdot : ¬ 0 < lstB (cutF pa) 46) :
    Calls Tryd.prog 23 #[.string x, .agg #[.int .i64 A, .int .i64 H], v0] w (VPost w (plAll x p q line wd idx b pa ++ env)) := by
  obtain ⟨i0, hi0, hz0', hz1, hz2⟩ := info_parts info_rw
  obtain ⟨vA, vc, rfl, hsrc⟩ := rw_src he
  have hm : mayR 0 (H : Int) x.size = 0 := by unfold mayR; rw [if_neg (by omega)]
  have HSP := hide (fun W => rspanV (A : Int) H p q hp hq W)
  have HSRC := hide hsrc
  have HE := hide he
  have HAT := hide (fun W => (show Calls Tryd.prog 48 #[.string x, .int .i64 H] W fun e w' => e = .returned (.tuple #[.int .i64 idx, .int .i64 0]) ∧ Below W.heap.size W w' from by
    have := rat_any x (H : Int) W hs
    rwa [h1, hm] at this))
  have HST := hide (fun W => (show Calls Tryd.prog 49 #[.string x, .int .i64 idx] W fun e w' => e = .returned (.tuple #[.int .i64 S, .int .i64 0]) ∧ Below W.heap.size W w' from by
    have := rstart_any x (idx : Int) W hs
    rwa [h2, hlc] at this))
  have HEN := hide (fun W => (show Calls Tryd.prog 50 #[.string x, .int .i64 idx] W fun e w' => e = .returned (.tuple #[.int .i64 E, .int .i64 0]) ∧ Below W.heap.size W w' from by
    have := rend_any x (idx : Int) W hs
    rwa [h3, hlc] at this))
  have HD1 := hide (fun W => digits_any idx (by omega) W)
  have HD2 := hide (fun W => (show Calls Tryd.prog 20 #[.int .i64 ((idx : Int) + 1)] W fun e w' => e = .returned (.string (itoaS (idx + 1))) ∧ Below W.heap.size W w' from by
    have := digits_any (idx + 1) (by omega) W
    rwa [show (((idx + 1 : Nat)) : Int) = (idx : Int) + 1 by omega] at this))
  obtain ⟨e1, e2⟩ := ln_ends x idx S E H h2 h3 hlc (by omega) (by omega)
  obtain ⟨f1, f2, f3⟩ := word_line x S E d H hd hHE hEx e1 e2
  rw [hline, hwd] at f1
  obtain ⟨a1, a2, a3⟩ := dnW_at (wdP x.data.toList) H
  obtain ⟨b1, b2, b3, b4⟩ := upW_at (wdP x.data.toList) x.size H
  have b2 := b2 (by omega)
  obtain ⟨P, hP⟩ : ∃ P, dnW (wdP x.data.toList) H = P := ⟨_, rfl⟩
  obtain ⟨Q, hQ⟩ : ∃ Q, upW (wdP x.data.toList) x.size H = Q := ⟨_, rfl⟩
  rw [hP, hQ] at f1
  rw [hP] at a1 a2 a3 f2
  rw [hQ] at b1 b2 b3 b4 f3
  have hwz : wd.size = Q - P := by rw [f1, ByteArray.size_extract]; omega
  have HWE : wd.toList.isEmpty = decide (¬ P < Q) := by rw [size_lst0, hwz]; exact decide_eq_decide.2 (by omega)
  have HDN := hide a3
  have HUP := hide b4
  have HDN2 := hide a2
  have HUP2 := hide b3
  have HPQ := hide (And.intro hP hQ)
  have HF1 := hide f1
  have q2 : IntKind.i64.wrap ((idx : Int) + 1) = (idx : Int) + 1 := by rw [IntKind.wrap_i64]; omega
  have hSE : S ≤ E := by omega
  have p0 : decide ((p : Int) < 0) = false := decide_eq_false (by omega)
  have p1 : decide ((x.size : Int) < (q : Int)) = false := decide_eq_false (by omega)
  have p1' : decide (x.size < q) = false := decide_eq_false (by omega)
  have HGET := hide (fun W (hb : Below w.heap.size w W) => rget_any _ env ⟨#[84, 77, 95, 70, 73, 76, 69, 80, 65, 84, 72]⟩ pa b W (rwat_below HE.out hb) hel hpa hbb)
  have gpq : decide ((p : Int) < (q : Int)) = true := decide_eq_true (by omega)
  have gpq' : decide (p < q) = true := decide_eq_true (by omega)
  have hPQ : ¬ P < Q := by
    rw [HWE] at hwe'
    have := of_decide_eq_true hwe'; omega
  have gPQ : decide ((P : Int) < (Q : Int)) = false := decide_eq_false (by omega)
  have gPQ' : decide (P < Q) = false := decide_eq_false hPQ
  obtain ⟨kf, km, y1, y2, y3, y4, y5, y6, y7, y8⟩ := path_k pa
  obtain ⟨kk, hkk⟩ : ∃ kk, lstB pa 47 = kk := ⟨_, rfl⟩
  rw [hkk] at y1 y2 y7 y8
  have HLS := hide (fun W => rlast_any pa 47 kk hkk hpz W)
  obtain ⟨fl, hfl⟩ : ∃ fl, pa.extract kf pa.size = fl := ⟨_, rfl⟩
  rw [hfl] at y3
  have hfz : fl.size ≤ 1000000 := by rw [← hfl, ByteArray.size_extract]; omega
  rw [y3] at hdot
  have hbd := lst_bd fl 46
  obtain ⟨dd, hdd⟩ : ∃ dd, lstB fl 46 = dd := ⟨_, rfl⟩
  have HLD := hide (fun W => rlast_any fl 46 dd hdd hfz W)
  have gw1 : IntKind.i64.wrap (kk + 1) = (kf : Int) := by rw [IntKind.wrap_i64]; omega
  have gmx : max kk 0 = (km : Int) := y2
  have HFL := hide hfl
  rw [hdd] at hbd hdot
  have gdd : decide ((0 : Int) < dd) = false := decide_eq_false (by omega)
  have HBAS := hide (show basF fl = fl by unfold basF; rw [hdd, if_neg hdot])
  have HY := hide (And.intro y3 y4)
  clear y1 y2 y3 y4 hkk hfl hdd hbd hdot
  have HLINE := hide hline
  have HHD := hide hd
  clear he hsrc hm hp hq h1 h2 h3 hd hwd hpa hbb e1 e2 f1 a2 a3 b3 b4 hP hQ hwz HWE hline hlc HE
  go_enter Tryd.func23, Tryd.ntmps23
  go_wp2_with fail
  (with_reducible refine (HSP.out _).mono ?_)
  rintro e w1 ⟨rfl, hb1⟩
  have c41 : (w.alloc (.cells #[.int .i64 A, .int .i64 H] 39)).cell? ⟨w.heap.size, 0, none⟩ = some (.int .i64 A) := by go_simp
  have c42 : (w.alloc (.cells #[.int .i64 A, .int .i64 H] 39)).cell? ⟨w.heap.size, 1, none⟩ = some (.int .i64 H) := by go_simp
  have hb02 := bl_trans (bl_trans (bl_alloc (bl_refl w) (.cells #[.int .i64 A, .int .i64 H] 39)) hb1) (bl_alloc (bl_refl w1) (.cells #[.int .i64 p, .int .i64 q] 71))
  have hb11 := bl_alloc (bl_refl w1) (.cells #[.int .i64 p, .int .i64 q] 71)
  have c81 : (w1.alloc (.cells #[.int .i64 p, .int .i64 q] 71)).cell? ⟨w1.heap.size, 0, none⟩ = some (.int .i64 p) := by go_simp
  have c82 : (w1.alloc (.cells #[.int .i64 p, .int .i64 q] 71)).cell? ⟨w1.heap.size, 1, none⟩ = some (.int .i64 q) := by go_simp
  replace c42 := cell_later hb11 (cell_later hb1 c42)
  clear c41
  obtain ⟨ws, hws⟩ : ∃ ws, w1.alloc (.cells #[.int .i64 p, .int .i64 q] 71) = ws := ⟨_, rfl⟩
  rw [hws] at hb02 hb11 c42 c81 c82
  have HB02 := hide hb02
  have n42 := World.block_lt_of_cell? _ _ c42
  have C42 := hide c42
  obtain ⟨L0, hL0⟩ : ∃ L : List Rw, [] = L := ⟨_, rfl⟩
  have HN0 := hide (show L0.length = 0 by rw [← hL0]; rfl)
  have HL0 := hide hL0
  have HA := hide (show RAcc ws 0 L0 (.slice none 0 0) ws from ⟨bl_refl _, by rw [← hL0]; exact ⟨rfl, .inl ⟨rfl, rfl⟩⟩⟩)
  clear hb1 hb02 hb11 hL0 c42 HSP
  obtain ⟨hA1, hA2⟩ := HA.out
  have HO := hide hA2
  have HBZ := hide hA1
  have hsz := hA1.size
  clear hA1 hA2 HA
  go_wp2_with (at_builtin; (refine wpList_push ws rfl _ _ 22 rfl ws.heap.size 46 i0 (.agg #[.string ⟨#[]⟩, .string ⟨#[]⟩]) 2 32 Tryd.underlying22 hi0 hz0' hz1 hz2 rfl (by decide) (.slice none 0 0) 0 (flatR L0) rfl HO.out 1 #[.string ⟨#[84, 77, 95, 83, 69, 76, 69, 67, 84, 69, 68, 95, 84, 69, 88, 84]⟩, .string (x.extract p q)] rfl rfl (by simp [Value.oneCell']) (by omega) (by decide) (by omega) ?_); intro v' w4 hv4 hg4 hat; clear hat; obtain ⟨aX, cX, rfl⟩ := own_slice hv4; obtain ⟨L1, hL1⟩ : ∃ L, L0 ++ [(⟨#[84, 77, 95, 83, 69, 76, 69, 67, 84, 69, 68, 95, 84, 69, 88, 84]⟩, (x.extract p q))] = L := ⟨_, rfl⟩; have HL1 := hide hL1; have HA := hide (show RAcc ws 1 L1 (.slice aX 1 cX) w4 from ⟨bl_own HBZ.out HO.out hg4 (Nat.le_refl _), by rw [← hL1, flatR_app]; exact hv4⟩); have HN1 := hide (show L1.length = 1 by rw [← hL1, List.length_append, show L0.length = 0 from HN0.out]; rfl); clear hv4 hg4 HO HBZ hL1 hsz; have c42 := cell_later HA.out.1 C42.out)
  go_wp2_with fail
  (with_reducible refine (HAT.out _).mono ?_)
  rintro e w6 ⟨rfl, hbn⟩
  have HA := hide (HA.out.bl hbn)
  clear hbn
  clear c42 c81 c82
  go_wp2_with fail
  (with_reducible refine (HST.out _).mono ?_)
  rintro e w7 ⟨rfl, hbn⟩
  have HA := hide (HA.out.bl hbn)
  clear hbn
  go_wp2_with fail
  (with_reducible refine (HEN.out _).mono ?_)
  rintro e w8 ⟨rfl, hbn⟩
  have HA := hide (HA.out.bl hbn)
  clear hbn
  obtain ⟨hA1, hA2⟩ := HA.out
  have HO := hide hA2
  have HBZ := hide hA1
  have hsz := hA1.size
  clear hA1 hA2 HA
  go_wp2_with (at_builtin; (refine wpList_push w8 rfl _ _ 22 rfl ws.heap.size 46 i0 (.agg #[.string ⟨#[]⟩, .string ⟨#[]⟩]) 2 32 Tryd.underlying22 hi0 hz0' hz1 hz2 rfl (by decide) (.slice aX 1 cX) 1 (flatR L1) rfl HO.out 1 #[.string ⟨#[84, 77, 95, 67, 85, 82, 82, 69, 78, 84, 95, 76, 73, 78, 69]⟩, .string (x.extract S E)] rfl rfl (by simp [Value.oneCell']) (by omega) (by decide) (by omega) ?_); intro v' w4 hv4 hg4 hat; clear hat; obtain ⟨aX, cX, rfl⟩ := own_slice hv4; obtain ⟨L2, hL2⟩ : ∃ L, L1 ++ [(⟨#[84, 77, 95, 67, 85, 82, 82, 69, 78, 84, 95, 76, 73, 78, 69]⟩, (x.extract S E))] = L := ⟨_, rfl⟩; have HL2 := hide hL2; have HA := hide (show RAcc ws 2 L2 (.slice aX 2 cX) w4 from ⟨bl_own HBZ.out HO.out hg4 (Nat.le_refl _), by rw [← hL2, flatR_app]; exact hv4⟩); have HN2 := hide (show L2.length = 2 by rw [← hL2, List.length_append, show L1.length = 1 from HN1.out]; rfl); clear hv4 hg4 HO HBZ hL2 hsz)
  have c42 := cell_later HA.out.1 C42.out
  go_wp2_with fail
  go_quiet (fail)
  clear c42
  have hA := HA.out.bl (bl_drewN (bl_refl w4) nq)
  obtain ⟨w10, hw10⟩ : ∃ W, w4.drewN nq = W := ⟨_, rfl⟩
  rw [hw10] at hA ⊢
  have HA := hide hA
  clear hA
  go_upto_block 0 with fail
  go_cut [16] from 82 to 92 (fun v wx => v = .int .i64 P ∧ w10 = wx)
  case first =>
    go_wp2_with fail
    go_loopg [16] H (fun g v wx => ∃ j : Nat, v = .int .i64 j ∧ P ≤ j ∧ j ≤ H ∧ g = j ∧ w10 = wx)
    case atStart => exact ⟨H, rfl, a1, Nat.le_refl _, rfl, rfl⟩
    case round =>
      obtain ⟨j, rfl, hPj, hj, hgj, rfl⟩ := hrel
      have HGJ := hide hgj
      clear hgj
      rcases Nat.eq_zero_or_pos j with h0 | h0
      · subst h0
        have hP0 : (0 : Int) = (P : Int) := by omega
        have HP0 := hide hP0
        have gz : decide ((0 : Int) < ((0 : Nat) : Int)) = false := by decide
        clear hPj hj hP0
        go_wp2
        go_meet
        exact ⟨by show Value.int _ (0 : Int) = Value.int _ (P : Int); rw [← HP0.out], rfl⟩
      · obtain ⟨m, rfl⟩ : ∃ m, j = m + 1 := ⟨j - 1, by omega⟩
        have hmx : m < x.size := by omega
        have g0 : decide ((0 : Int) < ((m + 1 : Nat) : Int)) = true := decide_eq_true (by omega)
        have g0' : decide ((0 : Int) < (m : Int) + 1) = true := decide_eq_true (by omega)
        have g0'' : decide (0 < m + 1) = true := decide_eq_true (by omega)
        have gw : IntKind.i64.wrap (((m + 1 : Nat) : Int) - 1) = (m : Int) := by rw [IntKind.wrap_i64]; omega
        by_cases hPm : P ≤ m
        · have hw : wordC x[m] = true := by rw [← wd_at x m hmx]; exact HDN2.out m hPm (by omega)
          have HC := hide (fun W => rword_m x[m] true hw W)
          clear hw h0
          go_wp2_with fail
          refine (HC.out _).mono ?_
          rintro e w11 ⟨rfl, hw11⟩
          subst hw11
          go_wp2
          go_roundg m
          case measure => (have := HGJ.out; omega)
          case rel => exact ⟨m, by go_num, hPm, by omega, rfl, by first | rfl | trivial⟩
        · obtain rfl : P = m + 1 := by omega
          have hw : wordC x[m] = false := by rw [← wd_at x m hmx]; exact HDN.out m rfl
          have HC := hide (fun W => rword_m x[m] false hw W)
          clear hw h0 hPm
          go_wp2_with fail
          refine (HC.out _).mono ?_
          rintro e w11 ⟨rfl, hw11⟩
          subst hw11
          go_wp2
          go_meet
          exact ⟨by first | rfl | go_num, by first | rfl | trivial⟩
  case rest =>
    obtain ⟨rfl, rfl⟩ := hcut
    go_upto_block 2 with fail
    go_cut [17] from 93 to 104 (fun v wx => v = .int .i64 Q ∧ w10 = wx)
    case first =>
      go_wp2_with fail
      go_loopg [17] (x.size - H) (fun g v wx => ∃ j : Nat, v = .int .i64 j ∧ H ≤ j ∧ j ≤ Q ∧ g = x.size - j ∧ w10 = wx)
      case atStart => exact ⟨H, rfl, Nat.le_refl _, b1, rfl, rfl⟩
      case round =>
        obtain ⟨j, rfl, hHj, hj, rfl, rfl⟩ := hrel
        by_cases hlt : j < x.size
        · have g0 : decide ((j : Int) < (x.size : Int)) = true := decide_eq_true (by omega)
          have g0' : decide (j < x.size) = true := decide_eq_true hlt
          by_cases hjQ : j < Q
          · have hw : wordC x[j] = true := by rw [← wd_at x j hlt]; exact HUP2.out j hHj hjQ
            have HC := hide (fun W => rword_m x[j] true hw W)
            clear hw
            go_wp2_with fail
            refine (HC.out _).mono ?_
            rintro e w11 ⟨rfl, hw11⟩
            subst hw11
            go_wp2
            go_roundg (x.size - (j + 1))
            case measure => omega
            case rel => exact ⟨j + 1, by go_num, by omega, by omega, rfl, by first | rfl | trivial⟩
          · obtain rfl : j = Q := by omega
            have hw : wordC x[j] = false := by rw [← wd_at x j hlt]; exact HUP.out hlt
            have HC := hide (fun W => rword_m x[j] false hw W)
            clear hw
            go_wp2_with fail
            refine (HC.out _).mono ?_
            rintro e w11 ⟨rfl, hw11⟩
            subst hw11
            go_wp2
            go_meet
            exact ⟨by first | rfl | go_num, by first | rfl | trivial⟩
        · have hjQ : (j : Int) = (Q : Int) := by omega
          have HJQ := hide hjQ
          have g0 : decide ((j : Int) < (x.size : Int)) = false := decide_eq_false (by omega)
          have g0' : decide (j < x.size) = false := decide_eq_false hlt
          clear hjQ
          go_wp2
          go_meet
          exact ⟨by rw [← HJQ.out], by first | rfl | trivial⟩
    case rest =>
      obtain ⟨rfl, rfl⟩ := hcut
      go_wp2_with fail
      (with_reducible refine (HD1.out _).mono ?_)
      rintro e w12 ⟨rfl, hbn⟩
      have HA := hide (HA.out.bl hbn)
      clear hbn
      go_wp2_with fail
      (with_reducible refine (HD2.out _).mono ?_)
      rintro e w13 ⟨rfl, hbn⟩
      have HA := hide (HA.out.bl hbn)
      clear hbn
      obtain ⟨hA1, hA2⟩ := HA.out
      have HO := hide hA2
      have HBZ := hide hA1
      have hsz := hA1.size
      clear hA1 hA2 HA
      go_wp2_with (at_builtin; (refine wpList_push w13 rfl _ _ 22 rfl ws.heap.size 46 i0 (.agg #[.string ⟨#[]⟩, .string ⟨#[]⟩]) 2 32 Tryd.underlying22 hi0 hz0' hz1 hz2 rfl (by decide) (.slice aX 2 cX) 2 (flatR L2) rfl HO.out 2 #[.string ⟨#[84, 77, 95, 76, 73, 78, 69, 95, 73, 78, 68, 69, 88]⟩, .string (itoaS idx), .string ⟨#[84, 77, 95, 76, 73, 78, 69, 95, 78, 85, 77, 66, 69, 82]⟩, .string (itoaS (idx + 1))] rfl rfl (by simp [Value.oneCell']) (by omega) (by decide) (by omega) ?_); intro v' w4 hv4 hg4 hat; clear hat; obtain ⟨aX, cX, rfl⟩ := own_slice hv4; obtain ⟨L4, hL4⟩ : ∃ L, L2 ++ [(⟨#[84, 77, 95, 76, 73, 78, 69, 95, 73, 78, 68, 69, 88]⟩, (itoaS idx)), (⟨#[84, 77, 95, 76, 73, 78, 69, 95, 78, 85, 77, 66, 69, 82]⟩, (itoaS (idx + 1)))] = L := ⟨_, rfl⟩; have HL4 := hide hL4; have HA := hide (show RAcc ws 4 L4 (.slice aX 4 cX) w4 from ⟨bl_own HBZ.out HO.out hg4 (Nat.le_refl _), by rw [← hL4, flatR_app]; exact hv4⟩); have HN4 := hide (show L4.length = 4 by rw [← hL4, List.length_append, show L2.length = 2 from HN2.out]; rfl); clear hv4 hg4 HO HBZ hL4 hsz)
      have hbz := bl_trans HB02.out HA.out.1
      go_wp2_with fail
      (with_reducible refine (HGET.out _ hbz).mono ?_)
      rintro e w14 ⟨rfl, hwn⟩
      subst hwn
      clear hbz
      go_wp2_with fail
      (with_reducible refine (HLS.out _).mono ?_)
      rintro e w15 ⟨rfl, hwn⟩
      subst hwn
      have hfl := HFL.out
      go_wp2_with fail
      (with_reducible refine (HLD.out _).mono ?_)
      rintro e w16 ⟨rfl, hwn⟩
      subst hwn
      obtain ⟨hA1, hA2⟩ := HA.out
      have HO := hide hA2
      have HBZ := hide hA1
      have hsz := hA1.size
      clear hA1 hA2 HA
      go_wp2_with (first | (at_builtin; (refine wpList_push w4 rfl _ _ 22 rfl ws.heap.size 46 i0 (.agg #[.string ⟨#[]⟩, .string ⟨#[]⟩]) 2 32 Tryd.underlying22 hi0 hz0' hz1 hz2 rfl (by decide) (.slice aX 4 cX) 4 (flatR L4) rfl HO.out 3 #[.string ⟨#[84, 77, 95, 70, 73, 76, 69, 78, 65, 77, 69]⟩, .string fl, .string ⟨#[84, 77, 95, 70, 73, 76, 69, 78, 65, 77, 69, 95, 66, 65, 83, 69]⟩, .string fl, .string ⟨#[84, 77, 95, 68, 73, 82, 69, 67, 84, 79, 82, 89]⟩, .string (pa.extract 0 km)] rfl rfl (by simp [Value.oneCell']) (by omega) (by decide) (by omega) ?_); intro v' w4 hv4 hg4 hat; clear hat; obtain ⟨aX, cX, rfl⟩ := own_slice hv4; obtain ⟨L7, hL7⟩ : ∃ L, L4 ++ [(⟨#[84, 77, 95, 70, 73, 76, 69, 78, 65, 77, 69]⟩, fl), (⟨#[84, 77, 95, 70, 73, 76, 69, 78, 65, 77, 69, 95, 66, 65, 83, 69]⟩, fl), (⟨#[84, 77, 95, 68, 73, 82, 69, 67, 84, 79, 82, 89]⟩, (pa.extract 0 km))] = L := ⟨_, rfl⟩; have HL7 := hide hL7; have HA := hide (show RAcc ws 7 L7 (.slice aX 7 cX) w4 from ⟨bl_own HBZ.out HO.out hg4 (Nat.le_refl _), by rw [← hL7, flatR_app]; exact hv4⟩); have HN7 := hide (show L7.length = 7 by rw [← hL7, List.length_append, show L4.length = 4 from HN4.out]; rfl); clear hv4 hg4 HO HBZ hL7 hsz; have HRR := hide (show L7 = plAll x p q line wd idx b pa from by (rw [← HL7.out, ← HL4.out, ← HL2.out, ← HL1.out, ← HL0.out]; unfold plAll plSel plWord plPath; rw [if_pos hsel]; rw [if_pos hwe']; rw [if_pos hbt']; rw [HLINE.out, HY.out.1, HY.out.2, HBAS.out]; simp)); obtain ⟨hA1, hA2⟩ := HA.out; have hsz := hA1.size; have HO := hide hA2; have HS9 := hide (src_below HSRC.out (bl_trans HB02.out hA1)); have hone := flatR_one env; have HBE := hide (bl_trans HB02.out hA1); clear hA1 hA2 HA) | (at_builtin; (refine wpList_src _ rfl _ _ 22 rfl ws.heap.size 46 i0 (.agg #[.string ⟨#[]⟩, .string ⟨#[]⟩]) 2 32 Tryd.underlying22 hi0 hz0' hz1 hz2 rfl (by decide) (.slice aX 7 cX) 7 (flatR L7) rfl HO.out vA env.length vc (flatR env) rfl HS9.out hone (by omega) (by decide) (by omega) ?_); intro v' w4 hv4 hg4; have HV4 := hide hv4; have HG4 := hide hg4; clear hv4 hg4))
      try clear hfl
      go_ret2
      have hv := HV4.out
      rw [← flatR_app, HRR.out, show 7 + env.length = (plAll x p q line wd idx b pa ++ env).length by rw [List.length_append, ← HRR.out, HN7.out]] at hv
      refine ⟨v', rfl, bl_grown HBE.out HG4.out (fun k hk => ?_), own_base hv (by omega)⟩
      have := (World.ownsRow.lt HO.out k hk).1
      omega
set_option maxHeartbeats 16000000 in
theorem rplace_snq {w : World} {x : ByteArray} (hs : x.size ≤ 100000) (A H p q idx S E d : Nat) (v0 : Value) (env : List Rw) (he : RwAt w v0 env) (hel : env.length ≤ 1000)
    (hp : min (A : Int) H = p) (hq : max (A : Int) H = q) (hqx : q ≤ x.size) (h1 : atV x.data.toList H = idx) (h2 : lnSv x.data.toList idx = S) (h3 : lnEv x.data.toList idx = E) (hd : S + d = H) (hHE : H ≤ E) (hEx : E ≤ x.size) (hidx : idx ≤ 100000)
    (line wd pa : ByteArray) (b : Bool) (hline : x.extract S E = line) (hwd : wrdF line d = wd) (hpa : getV ⟨#[84, 77, 95, 70, 73, 76, 69, 80, 65, 84, 72]⟩ env = pa) (hbb : getB ⟨#[84, 77, 95, 70, 73, 76, 69, 80, 65, 84, 72]⟩ env = b) (hpz : pa.size ≤ 1000000) (hlc : lnC x.data.toList idx = 0) (hsel : p < q) (hwe' : wd.toList.isEmpty = true) (hbt' : b = true) (hdot : 0 < lstB (cutF pa) 46) :
    Calls Tryd.prog 23 #[.string x, .agg #[.int .i64 A, .int .i64 H], v0] w (VPost w (plAll x p q line wd idx b pa ++ env)) := by
  obtain ⟨i0, hi0, hz0', hz1, hz2⟩ := info_parts info_rw
  obtain ⟨vA, vc, rfl, hsrc⟩ := rw_src he
  have hm : mayR 0 (H : Int) x.size = 0 := by unfold mayR; rw [if_neg (by omega)]
  have HSP := hide (fun W => rspanV (A : Int) H p q hp hq W)
  have HSRC := hide hsrc
  have HE := hide he
  have HAT := hide (fun W => (show Calls Tryd.prog 48 #[.string x, .int .i64 H] W fun e w' => e = .returned (.tuple #[.int .i64 idx, .int .i64 0]) ∧ Below W.heap.size W w' from by
    have := rat_any x (H : Int) W hs
    rwa [h1, hm] at this))
  have HST := hide (fun W => (show Calls Tryd.prog 49 #[.string x, .int .i64 idx] W fun e w' => e = .returned (.tuple #[.int .i64 S, .int .i64 0]) ∧ Below W.heap.size W w' from by
    have := rstart_any x (idx : Int) W hs
    rwa [h2, hlc] at this))
  have HEN := hide (fun W => (show Calls Tryd.prog 50 #[.string x, .int .i64 idx] W fun e w' => e = .returned (.tuple #[.int .i64 E, .int .i64 0]) ∧ Below W.heap.size W w' from by
    have := rend_any x (idx : Int) W hs
    rwa [h3, hlc] at this))
  have HD1 := hide (fun W => digits_any idx (by omega) W)
  have HD2 := hide (fun W => (show Calls Tryd.prog 20 #[.int .i64 ((idx : Int) + 1)] W fun e w' => e = .returned (.string (itoaS (idx + 1))) ∧ Below W.heap.size W w' from by
    have := digits_any (idx + 1) (by omega) W
    rwa [show (((idx + 1 : Nat)) : Int) = (idx : Int) + 1 by omega] at this))
  obtain ⟨e1, e2⟩ := ln_ends x idx S E H h2 h3 hlc (by omega) (by omega)
  obtain ⟨f1, f2, f3⟩ := word_line x S E d H hd hHE hEx e1 e2
  rw [hline, hwd] at f1
  obtain ⟨a1, a2, a3⟩ := dnW_at (wdP x.data.toList) H
  obtain ⟨b1, b2, b3, b4⟩ := upW_at (wdP x.data.toList) x.size H
  have b2 := b2 (by omega)
  obtain ⟨P, hP⟩ : ∃ P, dnW (wdP x.data.toList) H = P := ⟨_, rfl⟩
  obtain ⟨Q, hQ⟩ : ∃ Q, upW (wdP x.data.toList) x.size H = Q := ⟨_, rfl⟩
  rw [hP, hQ] at f1
  rw [hP] at a1 a2 a3 f2
  rw [hQ] at b1 b2 b3 b4 f3
  have hwz : wd.size = Q - P := by rw [f1, ByteArray.size_extract]; omega
  have HWE : wd.toList.isEmpty = decide (¬ P < Q) := by rw [size_lst0, hwz]; exact decide_eq_decide.2 (by omega)
  have HDN := hide a3
  have HUP := hide b4
  have HDN2 := hide a2
  have HUP2 := hide b3
  have HPQ := hide (And.intro hP hQ)
  have HF1 := hide f1
  have q2 : IntKind.i64.wrap ((idx : Int) + 1) = (idx : Int) + 1 := by rw [IntKind.wrap_i64]; omega
  have hSE : S ≤ E := by omega
  have p0 : decide ((p : Int) < 0) = false := decide_eq_false (by omega)
  have p1 : decide ((x.size : Int) < (q : Int)) = false := decide_eq_false (by omega)
  have p1' : decide (x.size < q) = false := decide_eq_false (by omega)
  have HGET := hide (fun W (hb : Below w.heap.size w W) => rget_any _ env ⟨#[84, 77, 95, 70, 73, 76, 69, 80, 65, 84, 72]⟩ pa b W (rwat_below HE.out hb) hel hpa hbb)
  have gpq : decide ((p : Int) < (q : Int)) = true := decide_eq_true (by omega)
  have gpq' : decide (p < q) = true := decide_eq_true (by omega)
  have hPQ : ¬ P < Q := by
    rw [HWE] at hwe'
    have := of_decide_eq_true hwe'; omega
  have gPQ : decide ((P : Int) < (Q : Int)) = false := decide_eq_false (by omega)
  have gPQ' : decide (P < Q) = false := decide_eq_false hPQ
  obtain ⟨kf, km, y1, y2, y3, y4, y5, y6, y7, y8⟩ := path_k pa
  obtain ⟨kk, hkk⟩ : ∃ kk, lstB pa 47 = kk := ⟨_, rfl⟩
  rw [hkk] at y1 y2 y7 y8
  have HLS := hide (fun W => rlast_any pa 47 kk hkk hpz W)
  obtain ⟨fl, hfl⟩ : ∃ fl, pa.extract kf pa.size = fl := ⟨_, rfl⟩
  rw [hfl] at y3
  have hfz : fl.size ≤ 1000000 := by rw [← hfl, ByteArray.size_extract]; omega
  rw [y3] at hdot
  have hbd := lst_bd fl 46
  obtain ⟨dd, hdd⟩ : ∃ dd, lstB fl 46 = dd := ⟨_, rfl⟩
  have HLD := hide (fun W => rlast_any fl 46 dd hdd hfz W)
  have gw1 : IntKind.i64.wrap (kk + 1) = (kf : Int) := by rw [IntKind.wrap_i64]; omega
  have gmx : max kk 0 = (km : Int) := y2
  have HFL := hide hfl
  rw [hdd] at hbd hdot
  obtain ⟨di, hdi1, hdi2⟩ : ∃ di : Nat, di < fl.size ∧ dd = (di : Int) := by rcases hbd with h | ⟨i, h1, h2⟩; exact absurd hdot (by omega); exact ⟨i, h1, h2⟩
  subst hdi2
  have gdd : decide ((0 : Int) < (di : Int)) = true := decide_eq_true (by omega)
  have gdd' : decide (0 < di) = true := decide_eq_true (by omega)
  have HBAS := hide (show basF fl = fl.extract 0 di by unfold basF; rw [hdd, if_pos hdot, Int.toNat_natCast])
  have HY := hide (And.intro y3 y4)
  clear y1 y2 y3 y4 hkk hfl hdd hbd hdot
  have HLINE := hide hline
  have HHD := hide hd
  clear he hsrc hm hp hq h1 h2 h3 hd hwd hpa hbb e1 e2 f1 a2 a3 b3 b4 hP hQ hwz HWE hline hlc HE
  go_enter Tryd.func23, Tryd.ntmps23
  go_wp2_with fail
  (with_reducible refine (HSP.out _).mono ?_)
  rintro e w1 ⟨rfl, hb1⟩
  have c41 : (w.alloc (.cells #[.int .i64 A, .int .i64 H] 39)).cell? ⟨w.heap.size, 0, none⟩ = some (.int .i64 A) := by go_simp
  have c42 : (w.alloc (.cells #[.int .i64 A, .int .i64 H] 39)).cell? ⟨w.heap.size, 1, none⟩ = some (.int .i64 H) := by go_simp
  have hb02 := bl_trans (bl_trans (bl_alloc (bl_refl w) (.cells #[.int .i64 A, .int .i64 H] 39)) hb1) (bl_alloc (bl_refl w1) (.cells #[.int .i64 p, .int .i64 q] 71))
  have hb11 := bl_alloc (bl_refl w1) (.cells #[.int .i64 p, .int .i64 q] 71)
  have c81 : (w1.alloc (.cells #[.int .i64 p, .int .i64 q] 71)).cell? ⟨w1.heap.size, 0, none⟩ = some (.int .i64 p) := by go_simp
  have c82 : (w1.alloc (.cells #[.int .i64 p, .int .i64 q] 71)).cell? ⟨w1.heap.size, 1, none⟩ = some (.int .i64 q) := by go_simp
  replace c42 := cell_later hb11 (cell_later hb1 c42)
  clear c41
  obtain ⟨ws, hws⟩ : ∃ ws, w1.alloc (.cells #[.int .i64 p, .int .i64 q] 71) = ws := ⟨_, rfl⟩
  rw [hws] at hb02 hb11 c42 c81 c82
  have HB02 := hide hb02
  have n42 := World.block_lt_of_cell? _ _ c42
  have C42 := hide c42
  obtain ⟨L0, hL0⟩ : ∃ L : List Rw, [] = L := ⟨_, rfl⟩
  have HN0 := hide (show L0.length = 0 by rw [← hL0]; rfl)
  have HL0 := hide hL0
  have HA := hide (show RAcc ws 0 L0 (.slice none 0 0) ws from ⟨bl_refl _, by rw [← hL0]; exact ⟨rfl, .inl ⟨rfl, rfl⟩⟩⟩)
  clear hb1 hb02 hb11 hL0 c42 HSP
  obtain ⟨hA1, hA2⟩ := HA.out
  have HO := hide hA2
  have HBZ := hide hA1
  have hsz := hA1.size
  clear hA1 hA2 HA
  go_wp2_with (at_builtin; (refine wpList_push ws rfl _ _ 22 rfl ws.heap.size 46 i0 (.agg #[.string ⟨#[]⟩, .string ⟨#[]⟩]) 2 32 Tryd.underlying22 hi0 hz0' hz1 hz2 rfl (by decide) (.slice none 0 0) 0 (flatR L0) rfl HO.out 1 #[.string ⟨#[84, 77, 95, 83, 69, 76, 69, 67, 84, 69, 68, 95, 84, 69, 88, 84]⟩, .string (x.extract p q)] rfl rfl (by simp [Value.oneCell']) (by omega) (by decide) (by omega) ?_); intro v' w4 hv4 hg4 hat; clear hat; obtain ⟨aX, cX, rfl⟩ := own_slice hv4; obtain ⟨L1, hL1⟩ : ∃ L, L0 ++ [(⟨#[84, 77, 95, 83, 69, 76, 69, 67, 84, 69, 68, 95, 84, 69, 88, 84]⟩, (x.extract p q))] = L := ⟨_, rfl⟩; have HL1 := hide hL1; have HA := hide (show RAcc ws 1 L1 (.slice aX 1 cX) w4 from ⟨bl_own HBZ.out HO.out hg4 (Nat.le_refl _), by rw [← hL1, flatR_app]; exact hv4⟩); have HN1 := hide (show L1.length = 1 by rw [← hL1, List.length_append, show L0.length = 0 from HN0.out]; rfl); clear hv4 hg4 HO HBZ hL1 hsz; have c42 := cell_later HA.out.1 C42.out)
  go_wp2_with fail
  (with_reducible refine (HAT.out _).mono ?_)
  rintro e w6 ⟨rfl, hbn⟩
  have HA := hide (HA.out.bl hbn)
  clear hbn
  clear c42 c81 c82
  go_wp2_with fail
  (with_reducible refine (HST.out _).mono ?_)
  rintro e w7 ⟨rfl, hbn⟩
  have HA := hide (HA.out.bl hbn)
  clear hbn
  go_wp2_with fail
  (with_reducible refine (HEN.out _).mono ?_)
  rintro e w8 ⟨rfl, hbn⟩
  have HA := hide (HA.out.bl hbn)
  clear hbn
  obtain ⟨hA1, hA2⟩ := HA.out
  have HO := hide hA2
  have HBZ := hide hA1
  have hsz := hA1.size
  clear hA1 hA2 HA
  go_wp2_with (at_builtin; (refine wpList_push w8 rfl _ _ 22 rfl ws.heap.size 46 i0 (.agg #[.string ⟨#[]⟩, .string ⟨#[]⟩]) 2 32 Tryd.underlying22 hi0 hz0' hz1 hz2 rfl (by decide) (.slice aX 1 cX) 1 (flatR L1) rfl HO.out 1 #[.string ⟨#[84, 77, 95, 67, 85, 82, 82, 69, 78, 84, 95, 76, 73, 78, 69]⟩, .string (x.extract S E)] rfl rfl (by simp [Value.oneCell']) (by omega) (by decide) (by omega) ?_); intro v' w4 hv4 hg4 hat; clear hat; obtain ⟨aX, cX, rfl⟩ := own_slice hv4; obtain ⟨L2, hL2⟩ : ∃ L, L1 ++ [(⟨#[84, 77, 95, 67, 85, 82, 82, 69, 78, 84, 95, 76, 73, 78, 69]⟩, (x.extract S E))] = L := ⟨_, rfl⟩; have HL2 := hide hL2; have HA := hide (show RAcc ws 2 L2 (.slice aX 2 cX) w4 from ⟨bl_own HBZ.out HO.out hg4 (Nat.le_refl _), by rw [← hL2, flatR_app]; exact hv4⟩); have HN2 := hide (show L2.length = 2 by rw [← hL2, List.length_append, show L1.length = 1 from HN1.out]; rfl); clear hv4 hg4 HO HBZ hL2 hsz)
  have c42 := cell_later HA.out.1 C42.out
  go_wp2_with fail
  go_quiet (fail)
  clear c42
  have hA := HA.out.bl (bl_drewN (bl_refl w4) nq)
  obtain ⟨w10, hw10⟩ : ∃ W, w4.drewN nq = W := ⟨_, rfl⟩
  rw [hw10] at hA ⊢
  have HA := hide hA
  clear hA
  go_upto_block 0 with fail
  go_cut [16] from 82 to 92 (fun v wx => v = .int .i64 P ∧ w10 = wx)
  case first =>
    go_wp2_with fail
    go_loopg [16] H (fun g v wx => ∃ j : Nat, v = .int .i64 j ∧ P ≤ j ∧ j ≤ H ∧ g = j ∧ w10 = wx)
    case atStart => exact ⟨H, rfl, a1, Nat.le_refl _, rfl, rfl⟩
    case round =>
      obtain ⟨j, rfl, hPj, hj, hgj, rfl⟩ := hrel
      have HGJ := hide hgj
      clear hgj
      rcases Nat.eq_zero_or_pos j with h0 | h0
      · subst h0
        have hP0 : (0 : Int) = (P : Int) := by omega
        have HP0 := hide hP0
        have gz : decide ((0 : Int) < ((0 : Nat) : Int)) = false := by decide
        clear hPj hj hP0
        go_wp2
        go_meet
        exact ⟨by show Value.int _ (0 : Int) = Value.int _ (P : Int); rw [← HP0.out], rfl⟩
      · obtain ⟨m, rfl⟩ : ∃ m, j = m + 1 := ⟨j - 1, by omega⟩
        have hmx : m < x.size := by omega
        have g0 : decide ((0 : Int) < ((m + 1 : Nat) : Int)) = true := decide_eq_true (by omega)
        have g0' : decide ((0 : Int) < (m : Int) + 1) = true := decide_eq_true (by omega)
        have g0'' : decide (0 < m + 1) = true := decide_eq_true (by omega)
        have gw : IntKind.i64.wrap (((m + 1 : Nat) : Int) - 1) = (m : Int) := by rw [IntKind.wrap_i64]; omega
        by_cases hPm : P ≤ m
        · have hw : wordC x[m] = true := by rw [← wd_at x m hmx]; exact HDN2.out m hPm (by omega)
          have HC := hide (fun W => rword_m x[m] true hw W)
          clear hw h0
          go_wp2_with fail
          refine (HC.out _).mono ?_
          rintro e w11 ⟨rfl, hw11⟩
          subst hw11
          go_wp2
          go_roundg m
          case measure => (have := HGJ.out; omega)
          case rel => exact ⟨m, by go_num, hPm, by omega, rfl, by first | rfl | trivial⟩
        · obtain rfl : P = m + 1 := by omega
          have hw : wordC x[m] = false := by rw [← wd_at x m hmx]; exact HDN.out m rfl
          have HC := hide (fun W => rword_m x[m] false hw W)
          clear hw h0 hPm
          go_wp2_with fail
          refine (HC.out _).mono ?_
          rintro e w11 ⟨rfl, hw11⟩
          subst hw11
          go_wp2
          go_meet
          exact ⟨by first | rfl | go_num, by first | rfl | trivial⟩
  case rest =>
    obtain ⟨rfl, rfl⟩ := hcut
    go_upto_block 2 with fail
    go_cut [17] from 93 to 104 (fun v wx => v = .int .i64 Q ∧ w10 = wx)
    case first =>
      go_wp2_with fail
      go_loopg [17] (x.size - H) (fun g v wx => ∃ j : Nat, v = .int .i64 j ∧ H ≤ j ∧ j ≤ Q ∧ g = x.size - j ∧ w10 = wx)
      case atStart => exact ⟨H, rfl, Nat.le_refl _, b1, rfl, rfl⟩
      case round =>
        obtain ⟨j, rfl, hHj, hj, rfl, rfl⟩ := hrel
        by_cases hlt : j < x.size
        · have g0 : decide ((j : Int) < (x.size : Int)) = true := decide_eq_true (by omega)
          have g0' : decide (j < x.size) = true := decide_eq_true hlt
          by_cases hjQ : j < Q
          · have hw : wordC x[j] = true := by rw [← wd_at x j hlt]; exact HUP2.out j hHj hjQ
            have HC := hide (fun W => rword_m x[j] true hw W)
            clear hw
            go_wp2_with fail
            refine (HC.out _).mono ?_
            rintro e w11 ⟨rfl, hw11⟩
            subst hw11
            go_wp2
            go_roundg (x.size - (j + 1))
            case measure => omega
            case rel => exact ⟨j + 1, by go_num, by omega, by omega, rfl, by first | rfl | trivial⟩
          · obtain rfl : j = Q := by omega
            have hw : wordC x[j] = false := by rw [← wd_at x j hlt]; exact HUP.out hlt
            have HC := hide (fun W => rword_m x[j] false hw W)
            clear hw
            go_wp2_with fail
            refine (HC.out _).mono ?_
            rintro e w11 ⟨rfl, hw11⟩
            subst hw11
            go_wp2
            go_meet
            exact ⟨by first | rfl | go_num, by first | rfl | trivial⟩
        · have hjQ : (j : Int) = (Q : Int) := by omega
          have HJQ := hide hjQ
          have g0 : decide ((j : Int) < (x.size : Int)) = false := decide_eq_false (by omega)
          have g0' : decide (j < x.size) = false := decide_eq_false hlt
          clear hjQ
          go_wp2
          go_meet
          exact ⟨by rw [← HJQ.out], by first | rfl | trivial⟩
    case rest =>
      obtain ⟨rfl, rfl⟩ := hcut
      go_wp2_with fail
      (with_reducible refine (HD1.out _).mono ?_)
      rintro e w12 ⟨rfl, hbn⟩
      have HA := hide (HA.out.bl hbn)
      clear hbn
      go_wp2_with fail
      (with_reducible refine (HD2.out _).mono ?_)
      rintro e w13 ⟨rfl, hbn⟩
      have HA := hide (HA.out.bl hbn)
      clear hbn
      obtain ⟨hA1, hA2⟩ := HA.out
      have HO := hide hA2
      have HBZ := hide hA1
      have hsz := hA1.size
      clear hA1 hA2 HA
      go_wp2_with (at_builtin; (refine wpList_push w13 rfl _ _ 22 rfl ws.heap.size 46 i0 (.agg #[.string ⟨#[]⟩, .string ⟨#[]⟩]) 2 32 Tryd.underlying22 hi0 hz0' hz1 hz2 rfl (by decide) (.slice aX 2 cX) 2 (flatR L2) rfl HO.out 2 #[.string ⟨#[84, 77, 95, 76, 73, 78, 69, 95, 73, 78, 68, 69, 88]⟩, .string (itoaS idx), .string ⟨#[84, 77, 95, 76, 73, 78, 69, 95, 78, 85, 77, 66, 69, 82]⟩, .string (itoaS (idx + 1))] rfl rfl (by simp [Value.oneCell']) (by omega) (by decide) (by omega) ?_); intro v' w4 hv4 hg4 hat; clear hat; obtain ⟨aX, cX, rfl⟩ := own_slice hv4; obtain ⟨L4, hL4⟩ : ∃ L, L2 ++ [(⟨#[84, 77, 95, 76, 73, 78, 69, 95, 73, 78, 68, 69, 88]⟩, (itoaS idx)), (⟨#[84, 77, 95, 76, 73, 78, 69, 95, 78, 85, 77, 66, 69, 82]⟩, (itoaS (idx + 1)))] = L := ⟨_, rfl⟩; have HL4 := hide hL4; have HA := hide (show RAcc ws 4 L4 (.slice aX 4 cX) w4 from ⟨bl_own HBZ.out HO.out hg4 (Nat.le_refl _), by rw [← hL4, flatR_app]; exact hv4⟩); have HN4 := hide (show L4.length = 4 by rw [← hL4, List.length_append, show L2.length = 2 from HN2.out]; rfl); clear hv4 hg4 HO HBZ hL4 hsz)
      have hbz := bl_trans HB02.out HA.out.1
      go_wp2_with fail
      (with_reducible refine (HGET.out _ hbz).mono ?_)
      rintro e w14 ⟨rfl, hwn⟩
      subst hwn
      clear hbz
      go_wp2_with fail
      (with_reducible refine (HLS.out _).mono ?_)
      rintro e w15 ⟨rfl, hwn⟩
      subst hwn
      have hfl := HFL.out
      go_wp2_with fail
      (with_reducible refine (HLD.out _).mono ?_)
      rintro e w16 ⟨rfl, hwn⟩
      subst hwn
      obtain ⟨hA1, hA2⟩ := HA.out
      have HO := hide hA2
      have HBZ := hide hA1
      have hsz := hA1.size
      clear hA1 hA2 HA
      go_wp2_with (first | (at_builtin; (refine wpList_push w4 rfl _ _ 22 rfl ws.heap.size 46 i0 (.agg #[.string ⟨#[]⟩, .string ⟨#[]⟩]) 2 32 Tryd.underlying22 hi0 hz0' hz1 hz2 rfl (by decide) (.slice aX 4 cX) 4 (flatR L4) rfl HO.out 3 #[.string ⟨#[84, 77, 95, 70, 73, 76, 69, 78, 65, 77, 69]⟩, .string fl, .string ⟨#[84, 77, 95, 70, 73, 76, 69, 78, 65, 77, 69, 95, 66, 65, 83, 69]⟩, .string (fl.extract 0 di), .string ⟨#[84, 77, 95, 68, 73, 82, 69, 67, 84, 79, 82, 89]⟩, .string (pa.extract 0 km)] rfl rfl (by simp [Value.oneCell']) (by omega) (by decide) (by omega) ?_); intro v' w4 hv4 hg4 hat; clear hat; obtain ⟨aX, cX, rfl⟩ := own_slice hv4; obtain ⟨L7, hL7⟩ : ∃ L, L4 ++ [(⟨#[84, 77, 95, 70, 73, 76, 69, 78, 65, 77, 69]⟩, fl), (⟨#[84, 77, 95, 70, 73, 76, 69, 78, 65, 77, 69, 95, 66, 65, 83, 69]⟩, (fl.extract 0 di)), (⟨#[84, 77, 95, 68, 73, 82, 69, 67, 84, 79, 82, 89]⟩, (pa.extract 0 km))] = L := ⟨_, rfl⟩; have HL7 := hide hL7; have HA := hide (show RAcc ws 7 L7 (.slice aX 7 cX) w4 from ⟨bl_own HBZ.out HO.out hg4 (Nat.le_refl _), by rw [← hL7, flatR_app]; exact hv4⟩); have HN7 := hide (show L7.length = 7 by rw [← hL7, List.length_append, show L4.length = 4 from HN4.out]; rfl); clear hv4 hg4 HO HBZ hL7 hsz; have HRR := hide (show L7 = plAll x p q line wd idx b pa from by (rw [← HL7.out, ← HL4.out, ← HL2.out, ← HL1.out, ← HL0.out]; unfold plAll plSel plWord plPath; rw [if_pos hsel]; rw [if_pos hwe']; rw [if_pos hbt']; rw [HLINE.out, HY.out.1, HY.out.2, HBAS.out]; simp)); obtain ⟨hA1, hA2⟩ := HA.out; have hsz := hA1.size; have HO := hide hA2; have HS9 := hide (src_below HSRC.out (bl_trans HB02.out hA1)); have hone := flatR_one env; have HBE := hide (bl_trans HB02.out hA1); clear hA1 hA2 HA) | (at_builtin; (refine wpList_src _ rfl _ _ 22 rfl ws.heap.size 46 i0 (.agg #[.string ⟨#[]⟩, .string ⟨#[]⟩]) 2 32 Tryd.underlying22 hi0 hz0' hz1 hz2 rfl (by decide) (.slice aX 7 cX) 7 (flatR L7) rfl HO.out vA env.length vc (flatR env) rfl HS9.out hone (by omega) (by decide) (by omega) ?_); intro v' w4 hv4 hg4; have HV4 := hide hv4; have HG4 := hide hg4; clear hv4 hg4))
      try clear hfl
      go_ret2
      have hv := HV4.out
      rw [← flatR_app, HRR.out, show 7 + env.length = (plAll x p q line wd idx b pa ++ env).length by rw [List.length_append, ← HRR.out, HN7.out]] at hv
      refine ⟨v', rfl, bl_grown HBE.out HG4.out (fun k hk => ?_), own_base hv (by omega)⟩
      have := (World.ownsRow.lt HO.out k hk).1
      omega
set_option maxHeartbeats 16000000 in
theorem rplace_swn {w : World} {x : ByteArray} (hs : x.size ≤ 100000) (A H p q idx S E d : Nat) (v0 : Value) (env : List Rw) (he : RwAt w v0 env) (hel : env.length ≤ 1000)
    (hp : min (A : Int) H = p) (hq : max (A : Int) H = q) (hqx : q ≤ x.size) (h1 : atV x.data.toList H = idx) (h2 : lnSv x.data.toList idx = S) (h3 : lnEv x.data.toList idx = E) (hd : S + d = H) (hHE : H ≤ E) (hEx : E ≤ x.size) (hidx : idx ≤ 100000)
    (line wd pa : ByteArray) (b : Bool) (hline : x.extract S E = line) (hwd : wrdF line d = wd) (hpa : getV ⟨#[84, 77, 95, 70, 73, 76, 69, 80, 65, 84, 72]⟩ env = pa) (hbb : getB ⟨#[84, 77, 95, 70, 73, 76, 69, 80, 65, 84, 72]⟩ env = b) (hpz : pa.size ≤ 1000000) (hlc : lnC x.data.toList idx = 0) (hsel : p < q) (hwe' : wd.toList.isEmpty = false) (hbt' : b = false) :
    Calls Tryd.prog 23 #[.string x, .agg #[.int .i64 A, .int .i64 H], v0] w (VPost w (plAll x p q line wd idx b pa ++ env)) := by
  obtain ⟨i0, hi0, hz0', hz1, hz2⟩ := info_parts info_rw
  obtain ⟨vA, vc, rfl, hsrc⟩ := rw_src he
  have hm : mayR 0 (H : Int) x.size = 0 := by unfold mayR; rw [if_neg (by omega)]
  have HSP := hide (fun W => rspanV (A : Int) H p q hp hq W)
  have HSRC := hide hsrc
  have HE := hide he
  have HAT := hide (fun W => (show Calls Tryd.prog 48 #[.string x, .int .i64 H] W fun e w' => e = .returned (.tuple #[.int .i64 idx, .int .i64 0]) ∧ Below W.heap.size W w' from by
    have := rat_any x (H : Int) W hs
    rwa [h1, hm] at this))
  have HST := hide (fun W => (show Calls Tryd.prog 49 #[.string x, .int .i64 idx] W fun e w' => e = .returned (.tuple #[.int .i64 S, .int .i64 0]) ∧ Below W.heap.size W w' from by
    have := rstart_any x (idx : Int) W hs
    rwa [h2, hlc] at this))
  have HEN := hide (fun W => (show Calls Tryd.prog 50 #[.string x, .int .i64 idx] W fun e w' => e = .returned (.tuple #[.int .i64 E, .int .i64 0]) ∧ Below W.heap.size W w' from by
    have := rend_any x (idx : Int) W hs
    rwa [h3, hlc] at this))
  have HD1 := hide (fun W => digits_any idx (by omega) W)
  have HD2 := hide (fun W => (show Calls Tryd.prog 20 #[.int .i64 ((idx : Int) + 1)] W fun e w' => e = .returned (.string (itoaS (idx + 1))) ∧ Below W.heap.size W w' from by
    have := digits_any (idx + 1) (by omega) W
    rwa [show (((idx + 1 : Nat)) : Int) = (idx : Int) + 1 by omega] at this))
  obtain ⟨e1, e2⟩ := ln_ends x idx S E H h2 h3 hlc (by omega) (by omega)
  obtain ⟨f1, f2, f3⟩ := word_line x S E d H hd hHE hEx e1 e2
  rw [hline, hwd] at f1
  obtain ⟨a1, a2, a3⟩ := dnW_at (wdP x.data.toList) H
  obtain ⟨b1, b2, b3, b4⟩ := upW_at (wdP x.data.toList) x.size H
  have b2 := b2 (by omega)
  obtain ⟨P, hP⟩ : ∃ P, dnW (wdP x.data.toList) H = P := ⟨_, rfl⟩
  obtain ⟨Q, hQ⟩ : ∃ Q, upW (wdP x.data.toList) x.size H = Q := ⟨_, rfl⟩
  rw [hP, hQ] at f1
  rw [hP] at a1 a2 a3 f2
  rw [hQ] at b1 b2 b3 b4 f3
  have hwz : wd.size = Q - P := by rw [f1, ByteArray.size_extract]; omega
  have HWE : wd.toList.isEmpty = decide (¬ P < Q) := by rw [size_lst0, hwz]; exact decide_eq_decide.2 (by omega)
  have HDN := hide a3
  have HUP := hide b4
  have HDN2 := hide a2
  have HUP2 := hide b3
  have HPQ := hide (And.intro hP hQ)
  have HF1 := hide f1
  have q2 : IntKind.i64.wrap ((idx : Int) + 1) = (idx : Int) + 1 := by rw [IntKind.wrap_i64]; omega
  have hSE : S ≤ E := by omega
  have p0 : decide ((p : Int) < 0) = false := decide_eq_false (by omega)
  have p1 : decide ((x.size : Int) < (q : Int)) = false := decide_eq_false (by omega)
  have p1' : decide (x.size < q) = false := decide_eq_false (by omega)
  have HGET := hide (fun W (hb : Below w.heap.size w W) => rget_any _ env ⟨#[84, 77, 95, 70, 73, 76, 69, 80, 65, 84, 72]⟩ pa b W (rwat_below HE.out hb) hel hpa hbb)
  have gpq : decide ((p : Int) < (q : Int)) = true := decide_eq_true (by omega)
  have gpq' : decide (p < q) = true := decide_eq_true (by omega)
  have hPQ : P < Q := by
    rw [HWE] at hwe'
    have := of_decide_eq_false hwe'; omega
  have gPQ : decide ((P : Int) < (Q : Int)) = true := decide_eq_true (by omega)
  have gPQ' : decide (P < Q) = true := decide_eq_true hPQ
  have HLINE := hide hline
  have HHD := hide hd
  clear he hsrc hm hp hq h1 h2 h3 hd hwd hpa hbb e1 e2 f1 a2 a3 b3 b4 hP hQ hwz HWE hline hlc HE
  go_enter Tryd.func23, Tryd.ntmps23
  go_wp2_with fail
  (with_reducible refine (HSP.out _).mono ?_)
  rintro e w1 ⟨rfl, hb1⟩
  have c41 : (w.alloc (.cells #[.int .i64 A, .int .i64 H] 39)).cell? ⟨w.heap.size, 0, none⟩ = some (.int .i64 A) := by go_simp
  have c42 : (w.alloc (.cells #[.int .i64 A, .int .i64 H] 39)).cell? ⟨w.heap.size, 1, none⟩ = some (.int .i64 H) := by go_simp
  have hb02 := bl_trans (bl_trans (bl_alloc (bl_refl w) (.cells #[.int .i64 A, .int .i64 H] 39)) hb1) (bl_alloc (bl_refl w1) (.cells #[.int .i64 p, .int .i64 q] 71))
  have hb11 := bl_alloc (bl_refl w1) (.cells #[.int .i64 p, .int .i64 q] 71)
  have c81 : (w1.alloc (.cells #[.int .i64 p, .int .i64 q] 71)).cell? ⟨w1.heap.size, 0, none⟩ = some (.int .i64 p) := by go_simp
  have c82 : (w1.alloc (.cells #[.int .i64 p, .int .i64 q] 71)).cell? ⟨w1.heap.size, 1, none⟩ = some (.int .i64 q) := by go_simp
  replace c42 := cell_later hb11 (cell_later hb1 c42)
  clear c41
  obtain ⟨ws, hws⟩ : ∃ ws, w1.alloc (.cells #[.int .i64 p, .int .i64 q] 71) = ws := ⟨_, rfl⟩
  rw [hws] at hb02 hb11 c42 c81 c82
  have HB02 := hide hb02
  have n42 := World.block_lt_of_cell? _ _ c42
  have C42 := hide c42
  obtain ⟨L0, hL0⟩ : ∃ L : List Rw, [] = L := ⟨_, rfl⟩
  have HN0 := hide (show L0.length = 0 by rw [← hL0]; rfl)
  have HL0 := hide hL0
  have HA := hide (show RAcc ws 0 L0 (.slice none 0 0) ws from ⟨bl_refl _, by rw [← hL0]; exact ⟨rfl, .inl ⟨rfl, rfl⟩⟩⟩)
  clear hb1 hb02 hb11 hL0 c42 HSP
  obtain ⟨hA1, hA2⟩ := HA.out
  have HO := hide hA2
  have HBZ := hide hA1
  have hsz := hA1.size
  clear hA1 hA2 HA
  go_wp2_with (at_builtin; (refine wpList_push ws rfl _ _ 22 rfl ws.heap.size 46 i0 (.agg #[.string ⟨#[]⟩, .string ⟨#[]⟩]) 2 32 Tryd.underlying22 hi0 hz0' hz1 hz2 rfl (by decide) (.slice none 0 0) 0 (flatR L0) rfl HO.out 1 #[.string ⟨#[84, 77, 95, 83, 69, 76, 69, 67, 84, 69, 68, 95, 84, 69, 88, 84]⟩, .string (x.extract p q)] rfl rfl (by simp [Value.oneCell']) (by omega) (by decide) (by omega) ?_); intro v' w4 hv4 hg4 hat; clear hat; obtain ⟨aX, cX, rfl⟩ := own_slice hv4; obtain ⟨L1, hL1⟩ : ∃ L, L0 ++ [(⟨#[84, 77, 95, 83, 69, 76, 69, 67, 84, 69, 68, 95, 84, 69, 88, 84]⟩, (x.extract p q))] = L := ⟨_, rfl⟩; have HL1 := hide hL1; have HA := hide (show RAcc ws 1 L1 (.slice aX 1 cX) w4 from ⟨bl_own HBZ.out HO.out hg4 (Nat.le_refl _), by rw [← hL1, flatR_app]; exact hv4⟩); have HN1 := hide (show L1.length = 1 by rw [← hL1, List.length_append, show L0.length = 0 from HN0.out]; rfl); clear hv4 hg4 HO HBZ hL1 hsz; have c42 := cell_later HA.out.1 C42.out)
  go_wp2_with fail
  (with_reducible refine (HAT.out _).mono ?_)
  rintro e w6 ⟨rfl, hbn⟩
  have HA := hide (HA.out.bl hbn)
  clear hbn
  clear c42 c81 c82
  go_wp2_with fail
  (with_reducible refine (HST.out _).mono ?_)
  rintro e w7 ⟨rfl, hbn⟩
  have HA := hide (HA.out.bl hbn)
  clear hbn
  go_wp2_with fail
  (with_reducible refine (HEN.out _).mono ?_)
  rintro e w8 ⟨rfl, hbn⟩
  have HA := hide (HA.out.bl hbn)
  clear hbn
  obtain ⟨hA1, hA2⟩ := HA.out
  have HO := hide hA2
  have HBZ := hide hA1
  have hsz := hA1.size
  clear hA1 hA2 HA
  go_wp2_with (at_builtin; (refine wpList_push w8 rfl _ _ 22 rfl ws.heap.size 46 i0 (.agg #[.string ⟨#[]⟩, .string ⟨#[]⟩]) 2 32 Tryd.underlying22 hi0 hz0' hz1 hz2 rfl (by decide) (.slice aX 1 cX) 1 (flatR L1) rfl HO.out 1 #[.string ⟨#[84, 77, 95, 67, 85, 82, 82, 69, 78, 84, 95, 76, 73, 78, 69]⟩, .string (x.extract S E)] rfl rfl (by simp [Value.oneCell']) (by omega) (by decide) (by omega) ?_); intro v' w4 hv4 hg4 hat; clear hat; obtain ⟨aX, cX, rfl⟩ := own_slice hv4; obtain ⟨L2, hL2⟩ : ∃ L, L1 ++ [(⟨#[84, 77, 95, 67, 85, 82, 82, 69, 78, 84, 95, 76, 73, 78, 69]⟩, (x.extract S E))] = L := ⟨_, rfl⟩; have HL2 := hide hL2; have HA := hide (show RAcc ws 2 L2 (.slice aX 2 cX) w4 from ⟨bl_own HBZ.out HO.out hg4 (Nat.le_refl _), by rw [← hL2, flatR_app]; exact hv4⟩); have HN2 := hide (show L2.length = 2 by rw [← hL2, List.length_append, show L1.length = 1 from HN1.out]; rfl); clear hv4 hg4 HO HBZ hL2 hsz)
  have c42 := cell_later HA.out.1 C42.out
  go_wp2_with fail
  go_quiet (fail)
  clear c42
  have hA := HA.out.bl (bl_drewN (bl_refl w4) nq)
  obtain ⟨w10, hw10⟩ : ∃ W, w4.drewN nq = W := ⟨_, rfl⟩
  rw [hw10] at hA ⊢
  have HA := hide hA
  clear hA
  go_upto_block 0 with fail
  go_cut [16] from 82 to 92 (fun v wx => v = .int .i64 P ∧ w10 = wx)
  case first =>
    go_wp2_with fail
    go_loopg [16] H (fun g v wx => ∃ j : Nat, v = .int .i64 j ∧ P ≤ j ∧ j ≤ H ∧ g = j ∧ w10 = wx)
    case atStart => exact ⟨H, rfl, a1, Nat.le_refl _, rfl, rfl⟩
    case round =>
      obtain ⟨j, rfl, hPj, hj, hgj, rfl⟩ := hrel
      have HGJ := hide hgj
      clear hgj
      rcases Nat.eq_zero_or_pos j with h0 | h0
      · subst h0
        have hP0 : (0 : Int) = (P : Int) := by omega
        have HP0 := hide hP0
        have gz : decide ((0 : Int) < ((0 : Nat) : Int)) = false := by decide
        clear hPj hj hP0
        go_wp2
        go_meet
        exact ⟨by show Value.int _ (0 : Int) = Value.int _ (P : Int); rw [← HP0.out], rfl⟩
      · obtain ⟨m, rfl⟩ : ∃ m, j = m + 1 := ⟨j - 1, by omega⟩
        have hmx : m < x.size := by omega
        have g0 : decide ((0 : Int) < ((m + 1 : Nat) : Int)) = true := decide_eq_true (by omega)
        have g0' : decide ((0 : Int) < (m : Int) + 1) = true := decide_eq_true (by omega)
        have g0'' : decide (0 < m + 1) = true := decide_eq_true (by omega)
        have gw : IntKind.i64.wrap (((m + 1 : Nat) : Int) - 1) = (m : Int) := by rw [IntKind.wrap_i64]; omega
        by_cases hPm : P ≤ m
        · have hw : wordC x[m] = true := by rw [← wd_at x m hmx]; exact HDN2.out m hPm (by omega)
          have HC := hide (fun W => rword_m x[m] true hw W)
          clear hw h0
          go_wp2_with fail
          refine (HC.out _).mono ?_
          rintro e w11 ⟨rfl, hw11⟩
          subst hw11
          go_wp2
          go_roundg m
          case measure => (have := HGJ.out; omega)
          case rel => exact ⟨m, by go_num, hPm, by omega, rfl, by first | rfl | trivial⟩
        · obtain rfl : P = m + 1 := by omega
          have hw : wordC x[m] = false := by rw [← wd_at x m hmx]; exact HDN.out m rfl
          have HC := hide (fun W => rword_m x[m] false hw W)
          clear hw h0 hPm
          go_wp2_with fail
          refine (HC.out _).mono ?_
          rintro e w11 ⟨rfl, hw11⟩
          subst hw11
          go_wp2
          go_meet
          exact ⟨by first | rfl | go_num, by first | rfl | trivial⟩
  case rest =>
    obtain ⟨rfl, rfl⟩ := hcut
    go_upto_block 2 with fail
    go_cut [17] from 93 to 104 (fun v wx => v = .int .i64 Q ∧ w10 = wx)
    case first =>
      go_wp2_with fail
      go_loopg [17] (x.size - H) (fun g v wx => ∃ j : Nat, v = .int .i64 j ∧ H ≤ j ∧ j ≤ Q ∧ g = x.size - j ∧ w10 = wx)
      case atStart => exact ⟨H, rfl, Nat.le_refl _, b1, rfl, rfl⟩
      case round =>
        obtain ⟨j, rfl, hHj, hj, rfl, rfl⟩ := hrel
        by_cases hlt : j < x.size
        · have g0 : decide ((j : Int) < (x.size : Int)) = true := decide_eq_true (by omega)
          have g0' : decide (j < x.size) = true := decide_eq_true hlt
          by_cases hjQ : j < Q
          · have hw : wordC x[j] = true := by rw [← wd_at x j hlt]; exact HUP2.out j hHj hjQ
            have HC := hide (fun W => rword_m x[j] true hw W)
            clear hw
            go_wp2_with fail
            refine (HC.out _).mono ?_
            rintro e w11 ⟨rfl, hw11⟩
            subst hw11
            go_wp2
            go_roundg (x.size - (j + 1))
            case measure => omega
            case rel => exact ⟨j + 1, by go_num, by omega, by omega, rfl, by first | rfl | trivial⟩
          · obtain rfl : j = Q := by omega
            have hw : wordC x[j] = false := by rw [← wd_at x j hlt]; exact HUP.out hlt
            have HC := hide (fun W => rword_m x[j] false hw W)
            clear hw
            go_wp2_with fail
            refine (HC.out _).mono ?_
            rintro e w11 ⟨rfl, hw11⟩
            subst hw11
            go_wp2
            go_meet
            exact ⟨by first | rfl | go_num, by first | rfl | trivial⟩
        · have hjQ : (j : Int) = (Q : Int) := by omega
          have HJQ := hide hjQ
          have g0 : decide ((j : Int) < (x.size : Int)) = false := decide_eq_false (by omega)
          have g0' : decide (j < x.size) = false := decide_eq_false hlt
          clear hjQ
          go_wp2
          go_meet
          exact ⟨by rw [← HJQ.out], by first | rfl | trivial⟩
    case rest =>
      obtain ⟨rfl, rfl⟩ := hcut
      obtain ⟨hA1, hA2⟩ := HA.out
      have HO := hide hA2
      have HBZ := hide hA1
      have hsz := hA1.size
      clear hA1 hA2 HA
      go_wp2_with (at_builtin; (refine wpList_push w10 rfl _ _ 22 rfl ws.heap.size 46 i0 (.agg #[.string ⟨#[]⟩, .string ⟨#[]⟩]) 2 32 Tryd.underlying22 hi0 hz0' hz1 hz2 rfl (by decide) (.slice aX 2 cX) 2 (flatR L2) rfl HO.out 1 #[.string ⟨#[84, 77, 95, 67, 85, 82, 82, 69, 78, 84, 95, 87, 79, 82, 68]⟩, .string (x.extract P Q)] rfl rfl (by simp [Value.oneCell']) (by omega) (by decide) (by omega) ?_); intro v' w4 hv4 hg4 hat; clear hat; obtain ⟨aX, cX, rfl⟩ := own_slice hv4; obtain ⟨L3, hL3⟩ : ∃ L, L2 ++ [(⟨#[84, 77, 95, 67, 85, 82, 82, 69, 78, 84, 95, 87, 79, 82, 68]⟩, (x.extract P Q))] = L := ⟨_, rfl⟩; have HL3 := hide hL3; have HA := hide (show RAcc ws 3 L3 (.slice aX 3 cX) w4 from ⟨bl_own HBZ.out HO.out hg4 (Nat.le_refl _), by rw [← hL3, flatR_app]; exact hv4⟩); have HN3 := hide (show L3.length = 3 by rw [← hL3, List.length_append, show L2.length = 2 from HN2.out]; rfl); clear hv4 hg4 HO HBZ hL3 hsz)
      go_wp2_with fail
      (with_reducible refine (HD1.out _).mono ?_)
      rintro e w12 ⟨rfl, hbn⟩
      have HA := hide (HA.out.bl hbn)
      clear hbn
      go_wp2_with fail
      (with_reducible refine (HD2.out _).mono ?_)
      rintro e w13 ⟨rfl, hbn⟩
      have HA := hide (HA.out.bl hbn)
      clear hbn
      obtain ⟨hA1, hA2⟩ := HA.out
      have HO := hide hA2
      have HBZ := hide hA1
      have hsz := hA1.size
      clear hA1 hA2 HA
      go_wp2_with (at_builtin; (refine wpList_push w13 rfl _ _ 22 rfl ws.heap.size 46 i0 (.agg #[.string ⟨#[]⟩, .string ⟨#[]⟩]) 2 32 Tryd.underlying22 hi0 hz0' hz1 hz2 rfl (by decide) (.slice aX 3 cX) 3 (flatR L3) rfl HO.out 2 #[.string ⟨#[84, 77, 95, 76, 73, 78, 69, 95, 73, 78, 68, 69, 88]⟩, .string (itoaS idx), .string ⟨#[84, 77, 95, 76, 73, 78, 69, 95, 78, 85, 77, 66, 69, 82]⟩, .string (itoaS (idx + 1))] rfl rfl (by simp [Value.oneCell']) (by omega) (by decide) (by omega) ?_); intro v' w4 hv4 hg4 hat; clear hat; obtain ⟨aX, cX, rfl⟩ := own_slice hv4; obtain ⟨L5, hL5⟩ : ∃ L, L3 ++ [(⟨#[84, 77, 95, 76, 73, 78, 69, 95, 73, 78, 68, 69, 88]⟩, (itoaS idx)), (⟨#[84, 77, 95, 76, 73, 78, 69, 95, 78, 85, 77, 66, 69, 82]⟩, (itoaS (idx + 1)))] = L := ⟨_, rfl⟩; have HL5 := hide hL5; have HA := hide (show RAcc ws 5 L5 (.slice aX 5 cX) w4 from ⟨bl_own HBZ.out HO.out hg4 (Nat.le_refl _), by rw [← hL5, flatR_app]; exact hv4⟩); have HN5 := hide (show L5.length = 5 by rw [← hL5, List.length_append, show L3.length = 3 from HN3.out]; rfl); clear hv4 hg4 HO HBZ hL5 hsz)
      have hbz := bl_trans HB02.out HA.out.1
      go_wp2_with fail
      (with_reducible refine (HGET.out _ hbz).mono ?_)
      rintro e w14 ⟨rfl, hwn⟩
      subst hwn
      clear hbz
      have HRR := hide (show L5 = plAll x p q line wd idx b pa from by
        rw [← HL5.out, ← HL3.out, ← HL2.out, ← HL1.out, ← HL0.out]
        unfold plAll plSel plWord plPath
        rw [if_pos hsel]; rw [if_neg (by rw [hwe']; simp)]; rw [HF1.out]; rw [if_neg (by rw [hbt']; simp)]; rw [HLINE.out]; simp)
      obtain ⟨hA1, hA2⟩ := HA.out
      have hsz := hA1.size
      have HO := hide hA2
      have HS9 := hide (src_below HSRC.out (bl_trans HB02.out hA1))
      have hone := flatR_one env
      have HBE := hide (bl_trans HB02.out hA1)
      clear hA1 hA2 HA
      go_wp2_with (at_builtin; (refine wpList_src _ rfl _ _ 22 rfl ws.heap.size 46 i0 (.agg #[.string ⟨#[]⟩, .string ⟨#[]⟩]) 2 32 Tryd.underlying22 hi0 hz0' hz1 hz2 rfl (by decide) (.slice aX 5 cX) 5 (flatR L5) rfl HO.out vA env.length vc (flatR env) rfl HS9.out hone (by omega) (by decide) (by omega) ?_); intro v' w4 hv4 hg4; have HV4 := hide hv4; have HG4 := hide hg4; clear hv4 hg4)
      go_ret2
      have hv := HV4.out
      rw [← flatR_app, HRR.out, show 5 + env.length = (plAll x p q line wd idx b pa ++ env).length by rw [List.length_append, ← HRR.out, HN5.out]] at hv
      refine ⟨v', rfl, bl_grown HBE.out HG4.out (fun k hk => ?_), own_base hv (by omega)⟩
      have := (World.ownsRow.lt HO.out k hk).1
      omega
set_option maxHeartbeats 16000000 in
theorem rplace_swp {w : World} {x : ByteArray} (hs : x.size ≤ 100000) (A H p q idx S E d : Nat) (v0 : Value) (env : List Rw) (he : RwAt w v0 env) (hel : env.length ≤ 1000)
    (hp : min (A : Int) H = p) (hq : max (A : Int) H = q) (hqx : q ≤ x.size) (h1 : atV x.data.toList H = idx) (h2 : lnSv x.data.toList idx = S) (h3 : lnEv x.data.toList idx = E) (hd : S + d = H) (hHE : H ≤ E) (hEx : E ≤ x.size) (hidx : idx ≤ 100000)
    (line wd pa : ByteArray) (b : Bool) (hline : x.extract S E = line) (hwd : wrdF line d = wd) (hpa : getV ⟨#[84, 77, 95, 70, 73, 76, 69, 80, 65, 84, 72]⟩ env = pa) (hbb : getB ⟨#[84, 77, 95, 70, 73, 76, 69, 80, 65, 84, 72]⟩ env = b) (hpz : pa.size ≤ 1000000) (hlc : lnC x.data.toList idx = 0) (hsel : p < q) (hwe' : wd.toList.isEmpty = false) (hbt' : b = true) (hdot : ¬ 0 < lstB (cutF pa) 46) :
    Calls Tryd.prog 23 #[.string x, .agg #[.int .i64 A, .int .i64 H], v0] w (VPost w (plAll x p q line wd idx b pa ++ env)) := by
  obtain ⟨i0, hi0, hz0', hz1, hz2⟩ := info_parts info_rw
  obtain ⟨vA, vc, rfl, hsrc⟩ := rw_src he
  have hm : mayR 0 (H : Int) x.size = 0 := by unfold mayR; rw [if_neg (by omega)]
  have HSP := hide (fun W => rspanV (A : Int) H p q hp hq W)
  have HSRC := hide hsrc
  have HE := hide he
  have HAT := hide (fun W => (show Calls Tryd.prog 48 #[.string x, .int .i64 H] W fun e w' => e = .returned (.tuple #[.int .i64 idx, .int .i64 0]) ∧ Below W.heap.size W w' from by
    have := rat_any x (H : Int) W hs
    rwa [h1, hm] at this))
  have HST := hide (fun W => (show Calls Tryd.prog 49 #[.string x, .int .i64 idx] W fun e w' => e = .returned (.tuple #[.int .i64 S, .int .i64 0]) ∧ Below W.heap.size W w' from by
    have := rstart_any x (idx : Int) W hs
    rwa [h2, hlc] at this))
  have HEN := hide (fun W => (show Calls Tryd.prog 50 #[.string x, .int .i64 idx] W fun e w' => e = .returned (.tuple #[.int .i64 E, .int .i64 0]) ∧ Below W.heap.size W w' from by
    have := rend_any x (idx : Int) W hs
    rwa [h3, hlc] at this))
  have HD1 := hide (fun W => digits_any idx (by omega) W)
  have HD2 := hide (fun W => (show Calls Tryd.prog 20 #[.int .i64 ((idx : Int) + 1)] W fun e w' => e = .returned (.string (itoaS (idx + 1))) ∧ Below W.heap.size W w' from by
    have := digits_any (idx + 1) (by omega) W
    rwa [show (((idx + 1 : Nat)) : Int) = (idx : Int) + 1 by omega] at this))
  obtain ⟨e1, e2⟩ := ln_ends x idx S E H h2 h3 hlc (by omega) (by omega)
  obtain ⟨f1, f2, f3⟩ := word_line x S E d H hd hHE hEx e1 e2
  rw [hline, hwd] at f1
  obtain ⟨a1, a2, a3⟩ := dnW_at (wdP x.data.toList) H
  obtain ⟨b1, b2, b3, b4⟩ := upW_at (wdP x.data.toList) x.size H
  have b2 := b2 (by omega)
  obtain ⟨P, hP⟩ : ∃ P, dnW (wdP x.data.toList) H = P := ⟨_, rfl⟩
  obtain ⟨Q, hQ⟩ : ∃ Q, upW (wdP x.data.toList) x.size H = Q := ⟨_, rfl⟩
  rw [hP, hQ] at f1
  rw [hP] at a1 a2 a3 f2
  rw [hQ] at b1 b2 b3 b4 f3
  have hwz : wd.size = Q - P := by rw [f1, ByteArray.size_extract]; omega
  have HWE : wd.toList.isEmpty = decide (¬ P < Q) := by rw [size_lst0, hwz]; exact decide_eq_decide.2 (by omega)
  have HDN := hide a3
  have HUP := hide b4
  have HDN2 := hide a2
  have HUP2 := hide b3
  have HPQ := hide (And.intro hP hQ)
  have HF1 := hide f1
  have q2 : IntKind.i64.wrap ((idx : Int) + 1) = (idx : Int) + 1 := by rw [IntKind.wrap_i64]; omega
  have hSE : S ≤ E := by omega
  have p0 : decide ((p : Int) < 0) = false := decide_eq_false (by omega)
  have p1 : decide ((x.size : Int) < (q : Int)) = false := decide_eq_false (by omega)
  have p1' : decide (x.size < q) = false := decide_eq_false (by omega)
  have HGET := hide (fun W (hb : Below w.heap.size w W) => rget_any _ env ⟨#[84, 77, 95, 70, 73, 76, 69, 80, 65, 84, 72]⟩ pa b W (rwat_below HE.out hb) hel hpa hbb)
  have gpq : decide ((p : Int) < (q : Int)) = true := decide_eq_true (by omega)
  have gpq' : decide (p < q) = true := decide_eq_true (by omega)
  have hPQ : P < Q := by
    rw [HWE] at hwe'
    have := of_decide_eq_false hwe'; omega
  have gPQ : decide ((P : Int) < (Q : Int)) = true := decide_eq_true (by omega)
  have gPQ' : decide (P < Q) = true := decide_eq_true hPQ
  obtain ⟨kf, km, y1, y2, y3, y4, y5, y6, y7, y8⟩ := path_k pa
  obtain ⟨kk, hkk⟩ : ∃ kk, lstB pa 47 = kk := ⟨_, rfl⟩
  rw [hkk] at y1 y2 y7 y8
  have HLS := hide (fun W => rlast_any pa 47 kk hkk hpz W)
  obtain ⟨fl, hfl⟩ : ∃ fl, pa.extract kf pa.size = fl := ⟨_, rfl⟩
  rw [hfl] at y3
  have hfz : fl.size ≤ 1000000 := by rw [← hfl, ByteArray.size_extract]; omega
  rw [y3] at hdot
  have hbd := lst_bd fl 46
  obtain ⟨dd, hdd⟩ : ∃ dd, lstB fl 46 = dd := ⟨_, rfl⟩
  have HLD := hide (fun W => rlast_any fl 46 dd hdd hfz W)
  have gw1 : IntKind.i64.wrap (kk + 1) = (kf : Int) := by rw [IntKind.wrap_i64]; omega
  have gmx : max kk 0 = (km : Int) := y2
  have HFL := hide hfl
  rw [hdd] at hbd hdot
  have gdd : decide ((0 : Int) < dd) = false := decide_eq_false (by omega)
  have HBAS := hide (show basF fl = fl by unfold basF; rw [hdd, if_neg hdot])
  have HY := hide (And.intro y3 y4)
  clear y1 y2 y3 y4 hkk hfl hdd hbd hdot
  have HLINE := hide hline
  have HHD := hide hd
  clear he hsrc hm hp hq h1 h2 h3 hd hwd hpa hbb e1 e2 f1 a2 a3 b3 b4 hP hQ hwz HWE hline hlc HE
  go_enter Tryd.func23, Tryd.ntmps23
  go_wp2_with fail
  (with_reducible refine (HSP.out _).mono ?_)
  rintro e w1 ⟨rfl, hb1⟩
  have c41 : (w.alloc (.cells #[.int .i64 A, .int .i64 H] 39)).cell? ⟨w.heap.size, 0, none⟩ = some (.int .i64 A) := by go_simp
  have c42 : (w.alloc (.cells #[.int .i64 A, .int .i64 H] 39)).cell? ⟨w.heap.size, 1, none⟩ = some (.int .i64 H) := by go_simp
  have hb02 := bl_trans (bl_trans (bl_alloc (bl_refl w) (.cells #[.int .i64 A, .int .i64 H] 39)) hb1) (bl_alloc (bl_refl w1) (.cells #[.int .i64 p, .int .i64 q] 71))
  have hb11 := bl_alloc (bl_refl w1) (.cells #[.int .i64 p, .int .i64 q] 71)
  have c81 : (w1.alloc (.cells #[.int .i64 p, .int .i64 q] 71)).cell? ⟨w1.heap.size, 0, none⟩ = some (.int .i64 p) := by go_simp
  have c82 : (w1.alloc (.cells #[.int .i64 p, .int .i64 q] 71)).cell? ⟨w1.heap.size, 1, none⟩ = some (.int .i64 q) := by go_simp
  replace c42 := cell_later hb11 (cell_later hb1 c42)
  clear c41
  obtain ⟨ws, hws⟩ : ∃ ws, w1.alloc (.cells #[.int .i64 p, .int .i64 q] 71) = ws := ⟨_, rfl⟩
  rw [hws] at hb02 hb11 c42 c81 c82
  have HB02 := hide hb02
  have n42 := World.block_lt_of_cell? _ _ c42
  have C42 := hide c42
  obtain ⟨L0, hL0⟩ : ∃ L : List Rw, [] = L := ⟨_, rfl⟩
  have HN0 := hide (show L0.length = 0 by rw [← hL0]; rfl)
  have HL0 := hide hL0
  have HA := hide (show RAcc ws 0 L0 (.slice none 0 0) ws from ⟨bl_refl _, by rw [← hL0]; exact ⟨rfl, .inl ⟨rfl, rfl⟩⟩⟩)
  clear hb1 hb02 hb11 hL0 c42 HSP
  obtain ⟨hA1, hA2⟩ := HA.out
  have HO := hide hA2
  have HBZ := hide hA1
  have hsz := hA1.size
  clear hA1 hA2 HA
  go_wp2_with (at_builtin; (refine wpList_push ws rfl _ _ 22 rfl ws.heap.size 46 i0 (.agg #[.string ⟨#[]⟩, .string ⟨#[]⟩]) 2 32 Tryd.underlying22 hi0 hz0' hz1 hz2 rfl (by decide) (.slice none 0 0) 0 (flatR L0) rfl HO.out 1 #[.string ⟨#[84, 77, 95, 83, 69, 76, 69, 67, 84, 69, 68, 95, 84, 69, 88, 84]⟩, .string (x.extract p q)] rfl rfl (by simp [Value.oneCell']) (by omega) (by decide) (by omega) ?_); intro v' w4 hv4 hg4 hat; clear hat; obtain ⟨aX, cX, rfl⟩ := own_slice hv4; obtain ⟨L1, hL1⟩ : ∃ L, L0 ++ [(⟨#[84, 77, 95, 83, 69, 76, 69, 67, 84, 69, 68, 95, 84, 69, 88, 84]⟩, (x.extract p q))] = L := ⟨_, rfl⟩; have HL1 := hide hL1; have HA := hide (show RAcc ws 1 L1 (.slice aX 1 cX) w4 from ⟨bl_own HBZ.out HO.out hg4 (Nat.le_refl _), by rw [← hL1, flatR_app]; exact hv4⟩); have HN1 := hide (show L1.length = 1 by rw [← hL1, List.length_append, show L0.length = 0 from HN0.out]; rfl); clear hv4 hg4 HO HBZ hL1 hsz; have c42 := cell_later HA.out.1 C42.out)
  go_wp2_with fail
  (with_reducible refine (HAT.out _).mono ?_)
  rintro e w6 ⟨rfl, hbn⟩
  have HA := hide (HA.out.bl hbn)
  clear hbn
  clear c42 c81 c82
  go_wp2_with fail
  (with_reducible refine (HST.out _).mono ?_)
  rintro e w7 ⟨rfl, hbn⟩
  have HA := hide (HA.out.bl hbn)
  clear hbn
  go_wp2_with fail
  (with_reducible refine (HEN.out _).mono ?_)
  rintro e w8 ⟨rfl, hbn⟩
  have HA := hide (HA.out.bl hbn)
  clear hbn
  obtain ⟨hA1, hA2⟩ := HA.out
  have HO := hide hA2
  have HBZ := hide hA1
  have hsz := hA1.size
  clear hA1 hA2 HA
  go_wp2_with (at_builtin; (refine wpList_push w8 rfl _ _ 22 rfl ws.heap.size 46 i0 (.agg #[.string ⟨#[]⟩, .string ⟨#[]⟩]) 2 32 Tryd.underlying22 hi0 hz0' hz1 hz2 rfl (by decide) (.slice aX 1 cX) 1 (flatR L1) rfl HO.out 1 #[.string ⟨#[84, 77, 95, 67, 85, 82, 82, 69, 78, 84, 95, 76, 73, 78, 69]⟩, .string (x.extract S E)] rfl rfl (by simp [Value.oneCell']) (by omega) (by decide) (by omega) ?_); intro v' w4 hv4 hg4 hat; clear hat; obtain ⟨aX, cX, rfl⟩ := own_slice hv4; obtain ⟨L2, hL2⟩ : ∃ L, L1 ++ [(⟨#[84, 77, 95, 67, 85, 82, 82, 69, 78, 84, 95, 76, 73, 78, 69]⟩, (x.extract S E))] = L := ⟨_, rfl⟩; have HL2 := hide hL2; have HA := hide (show RAcc ws 2 L2 (.slice aX 2 cX) w4 from ⟨bl_own HBZ.out HO.out hg4 (Nat.le_refl _), by rw [← hL2, flatR_app]; exact hv4⟩); have HN2 := hide (show L2.length = 2 by rw [← hL2, List.length_append, show L1.length = 1 from HN1.out]; rfl); clear hv4 hg4 HO HBZ hL2 hsz)
  have c42 := cell_later HA.out.1 C42.out
  go_wp2_with fail
  go_quiet (fail)
  clear c42
  have hA := HA.out.bl (bl_drewN (bl_refl w4) nq)
  obtain ⟨w10, hw10⟩ : ∃ W, w4.drewN nq = W := ⟨_, rfl⟩
  rw [hw10] at hA ⊢
  have HA := hide hA
  clear hA
  go_upto_block 0 with fail
  go_cut [16] from 82 to 92 (fun v wx => v = .int .i64 P ∧ w10 = wx)
  case first =>
    go_wp2_with fail
    go_loopg [16] H (fun g v wx => ∃ j : Nat, v = .int .i64 j ∧ P ≤ j ∧ j ≤ H ∧ g = j ∧ w10 = wx)
    case atStart => exact ⟨H, rfl, a1, Nat.le_refl _, rfl, rfl⟩
    case round =>
      obtain ⟨j, rfl, hPj, hj, hgj, rfl⟩ := hrel
      have HGJ := hide hgj
      clear hgj
      rcases Nat.eq_zero_or_pos j with h0 | h0
      · subst h0
        have hP0 : (0 : Int) = (P : Int) := by omega
        have HP0 := hide hP0
        have gz : decide ((0 : Int) < ((0 : Nat) : Int)) = false := by decide
        clear hPj hj hP0
        go_wp2
        go_meet
        exact ⟨by show Value.int _ (0 : Int) = Value.int _ (P : Int); rw [← HP0.out], rfl⟩
      · obtain ⟨m, rfl⟩ : ∃ m, j = m + 1 := ⟨j - 1, by omega⟩
        have hmx : m < x.size := by omega
        have g0 : decide ((0 : Int) < ((m + 1 : Nat) : Int)) = true := decide_eq_true (by omega)
        have g0' : decide ((0 : Int) < (m : Int) + 1) = true := decide_eq_true (by omega)
        have g0'' : decide (0 < m + 1) = true := decide_eq_true (by omega)
        have gw : IntKind.i64.wrap (((m + 1 : Nat) : Int) - 1) = (m : Int) := by rw [IntKind.wrap_i64]; omega
        by_cases hPm : P ≤ m
        · have hw : wordC x[m] = true := by rw [← wd_at x m hmx]; exact HDN2.out m hPm (by omega)
          have HC := hide (fun W => rword_m x[m] true hw W)
          clear hw h0
          go_wp2_with fail
          refine (HC.out _).mono ?_
          rintro e w11 ⟨rfl, hw11⟩
          subst hw11
          go_wp2
          go_roundg m
          case measure => (have := HGJ.out; omega)
          case rel => exact ⟨m, by go_num, hPm, by omega, rfl, by first | rfl | trivial⟩
        · obtain rfl : P = m + 1 := by omega
          have hw : wordC x[m] = false := by rw [← wd_at x m hmx]; exact HDN.out m rfl
          have HC := hide (fun W => rword_m x[m] false hw W)
          clear hw h0 hPm
          go_wp2_with fail
          refine (HC.out _).mono ?_
          rintro e w11 ⟨rfl, hw11⟩
          subst hw11
          go_wp2
          go_meet
          exact ⟨by first | rfl | go_num, by first | rfl | trivial⟩
  case rest =>
    obtain ⟨rfl, rfl⟩ := hcut
    go_upto_block 2 with fail
    go_cut [17] from 93 to 104 (fun v wx => v = .int .i64 Q ∧ w10 = wx)
    case first =>
      go_wp2_with fail
      go_loopg [17] (x.size - H) (fun g v wx => ∃ j : Nat, v = .int .i64 j ∧ H ≤ j ∧ j ≤ Q ∧ g = x.size - j ∧ w10 = wx)
      case atStart => exact ⟨H, rfl, Nat.le_refl _, b1, rfl, rfl⟩
      case round =>
        obtain ⟨j, rfl, hHj, hj, rfl, rfl⟩ := hrel
        by_cases hlt : j < x.size
        · have g0 : decide ((j : Int) < (x.size : Int)) = true := decide_eq_true (by omega)
          have g0' : decide (j < x.size) = true := decide_eq_true hlt
          by_cases hjQ : j < Q
          · have hw : wordC x[j] = true := by rw [← wd_at x j hlt]; exact HUP2.out j hHj hjQ
            have HC := hide (fun W => rword_m x[j] true hw W)
            clear hw
            go_wp2_with fail
            refine (HC.out _).mono ?_
            rintro e w11 ⟨rfl, hw11⟩
            subst hw11
            go_wp2
            go_roundg (x.size - (j + 1))
            case measure => omega
            case rel => exact ⟨j + 1, by go_num, by omega, by omega, rfl, by first | rfl | trivial⟩
          · obtain rfl : j = Q := by omega
            have hw : wordC x[j] = false := by rw [← wd_at x j hlt]; exact HUP.out hlt
            have HC := hide (fun W => rword_m x[j] false hw W)
            clear hw
            go_wp2_with fail
            refine (HC.out _).mono ?_
            rintro e w11 ⟨rfl, hw11⟩
            subst hw11
            go_wp2
            go_meet
            exact ⟨by first | rfl | go_num, by first | rfl | trivial⟩
        · have hjQ : (j : Int) = (Q : Int) := by omega
          have HJQ := hide hjQ
          have g0 : decide ((j : Int) < (x.size : Int)) = false := decide_eq_false (by omega)
          have g0' : decide (j < x.size) = false := decide_eq_false hlt
          clear hjQ
          go_wp2
          go_meet
          exact ⟨by rw [← HJQ.out], by first | rfl | trivial⟩
    case rest =>
      obtain ⟨rfl, rfl⟩ := hcut
      obtain ⟨hA1, hA2⟩ := HA.out
      have HO := hide hA2
      have HBZ := hide hA1
      have hsz := hA1.size
      clear hA1 hA2 HA
      go_wp2_with (at_builtin; (refine wpList_push w10 rfl _ _ 22 rfl ws.heap.size 46 i0 (.agg #[.string ⟨#[]⟩, .string ⟨#[]⟩]) 2 32 Tryd.underlying22 hi0 hz0' hz1 hz2 rfl (by decide) (.slice aX 2 cX) 2 (flatR L2) rfl HO.out 1 #[.string ⟨#[84, 77, 95, 67, 85, 82, 82, 69, 78, 84, 95, 87, 79, 82, 68]⟩, .string (x.extract P Q)] rfl rfl (by simp [Value.oneCell']) (by omega) (by decide) (by omega) ?_); intro v' w4 hv4 hg4 hat; clear hat; obtain ⟨aX, cX, rfl⟩ := own_slice hv4; obtain ⟨L3, hL3⟩ : ∃ L, L2 ++ [(⟨#[84, 77, 95, 67, 85, 82, 82, 69, 78, 84, 95, 87, 79, 82, 68]⟩, (x.extract P Q))] = L := ⟨_, rfl⟩; have HL3 := hide hL3; have HA := hide (show RAcc ws 3 L3 (.slice aX 3 cX) w4 from ⟨bl_own HBZ.out HO.out hg4 (Nat.le_refl _), by rw [← hL3, flatR_app]; exact hv4⟩); have HN3 := hide (show L3.length = 3 by rw [← hL3, List.length_append, show L2.length = 2 from HN2.out]; rfl); clear hv4 hg4 HO HBZ hL3 hsz)
      go_wp2_with fail
      (with_reducible refine (HD1.out _).mono ?_)
      rintro e w12 ⟨rfl, hbn⟩
      have HA := hide (HA.out.bl hbn)
      clear hbn
      go_wp2_with fail
      (with_reducible refine (HD2.out _).mono ?_)
      rintro e w13 ⟨rfl, hbn⟩
      have HA := hide (HA.out.bl hbn)
      clear hbn
      obtain ⟨hA1, hA2⟩ := HA.out
      have HO := hide hA2
      have HBZ := hide hA1
      have hsz := hA1.size
      clear hA1 hA2 HA
      go_wp2_with (at_builtin; (refine wpList_push w13 rfl _ _ 22 rfl ws.heap.size 46 i0 (.agg #[.string ⟨#[]⟩, .string ⟨#[]⟩]) 2 32 Tryd.underlying22 hi0 hz0' hz1 hz2 rfl (by decide) (.slice aX 3 cX) 3 (flatR L3) rfl HO.out 2 #[.string ⟨#[84, 77, 95, 76, 73, 78, 69, 95, 73, 78, 68, 69, 88]⟩, .string (itoaS idx), .string ⟨#[84, 77, 95, 76, 73, 78, 69, 95, 78, 85, 77, 66, 69, 82]⟩, .string (itoaS (idx + 1))] rfl rfl (by simp [Value.oneCell']) (by omega) (by decide) (by omega) ?_); intro v' w4 hv4 hg4 hat; clear hat; obtain ⟨aX, cX, rfl⟩ := own_slice hv4; obtain ⟨L5, hL5⟩ : ∃ L, L3 ++ [(⟨#[84, 77, 95, 76, 73, 78, 69, 95, 73, 78, 68, 69, 88]⟩, (itoaS idx)), (⟨#[84, 77, 95, 76, 73, 78, 69, 95, 78, 85, 77, 66, 69, 82]⟩, (itoaS (idx + 1)))] = L := ⟨_, rfl⟩; have HL5 := hide hL5; have HA := hide (show RAcc ws 5 L5 (.slice aX 5 cX) w4 from ⟨bl_own HBZ.out HO.out hg4 (Nat.le_refl _), by rw [← hL5, flatR_app]; exact hv4⟩); have HN5 := hide (show L5.length = 5 by rw [← hL5, List.length_append, show L3.length = 3 from HN3.out]; rfl); clear hv4 hg4 HO HBZ hL5 hsz)
      have hbz := bl_trans HB02.out HA.out.1
      go_wp2_with fail
      (with_reducible refine (HGET.out _ hbz).mono ?_)
      rintro e w14 ⟨rfl, hwn⟩
      subst hwn
      clear hbz
      go_wp2_with fail
      (with_reducible refine (HLS.out _).mono ?_)
      rintro e w15 ⟨rfl, hwn⟩
      subst hwn
      have hfl := HFL.out
      go_wp2_with fail
      (with_reducible refine (HLD.out _).mono ?_)
      rintro e w16 ⟨rfl, hwn⟩
      subst hwn
      obtain ⟨hA1, hA2⟩ := HA.out
      have HO := hide hA2
      have HBZ := hide hA1
      have hsz := hA1.size
      clear hA1 hA2 HA
      go_wp2_with (first | (at_builtin; (refine wpList_push w4 rfl _ _ 22 rfl ws.heap.size 46 i0 (.agg #[.string ⟨#[]⟩, .string ⟨#[]⟩]) 2 32 Tryd.underlying22 hi0 hz0' hz1 hz2 rfl (by decide) (.slice aX 5 cX) 5 (flatR L5) rfl HO.out 3 #[.string ⟨#[84, 77, 95, 70, 73, 76, 69, 78, 65, 77, 69]⟩, .string fl, .string ⟨#[84, 77, 95, 70, 73, 76, 69, 78, 65, 77, 69, 95, 66, 65, 83, 69]⟩, .string fl, .string ⟨#[84, 77, 95, 68, 73, 82, 69, 67, 84, 79, 82, 89]⟩, .string (pa.extract 0 km)] rfl rfl (by simp [Value.oneCell']) (by omega) (by decide) (by omega) ?_); intro v' w4 hv4 hg4 hat; clear hat; obtain ⟨aX, cX, rfl⟩ := own_slice hv4; obtain ⟨L8, hL8⟩ : ∃ L, L5 ++ [(⟨#[84, 77, 95, 70, 73, 76, 69, 78, 65, 77, 69]⟩, fl), (⟨#[84, 77, 95, 70, 73, 76, 69, 78, 65, 77, 69, 95, 66, 65, 83, 69]⟩, fl), (⟨#[84, 77, 95, 68, 73, 82, 69, 67, 84, 79, 82, 89]⟩, (pa.extract 0 km))] = L := ⟨_, rfl⟩; have HL8 := hide hL8; have HA := hide (show RAcc ws 8 L8 (.slice aX 8 cX) w4 from ⟨bl_own HBZ.out HO.out hg4 (Nat.le_refl _), by rw [← hL8, flatR_app]; exact hv4⟩); have HN8 := hide (show L8.length = 8 by rw [← hL8, List.length_append, show L5.length = 5 from HN5.out]; rfl); clear hv4 hg4 HO HBZ hL8 hsz; have HRR := hide (show L8 = plAll x p q line wd idx b pa from by (rw [← HL8.out, ← HL5.out, ← HL3.out, ← HL2.out, ← HL1.out, ← HL0.out]; unfold plAll plSel plWord plPath; rw [if_pos hsel]; rw [if_neg (by rw [hwe']; simp)]; rw [HF1.out]; rw [if_pos hbt']; rw [HLINE.out, HY.out.1, HY.out.2, HBAS.out]; simp)); obtain ⟨hA1, hA2⟩ := HA.out; have hsz := hA1.size; have HO := hide hA2; have HS9 := hide (src_below HSRC.out (bl_trans HB02.out hA1)); have hone := flatR_one env; have HBE := hide (bl_trans HB02.out hA1); clear hA1 hA2 HA) | (at_builtin; (refine wpList_src _ rfl _ _ 22 rfl ws.heap.size 46 i0 (.agg #[.string ⟨#[]⟩, .string ⟨#[]⟩]) 2 32 Tryd.underlying22 hi0 hz0' hz1 hz2 rfl (by decide) (.slice aX 8 cX) 8 (flatR L8) rfl HO.out vA env.length vc (flatR env) rfl HS9.out hone (by omega) (by decide) (by omega) ?_); intro v' w4 hv4 hg4; have HV4 := hide hv4; have HG4 := hide hg4; clear hv4 hg4))
      try clear hfl
      go_ret2
      have hv := HV4.out
      rw [← flatR_app, HRR.out, show 8 + env.length = (plAll x p q line wd idx b pa ++ env).length by rw [List.length_append, ← HRR.out, HN8.out]] at hv
      refine ⟨v', rfl, bl_grown HBE.out HG4.out (fun k hk => ?_), own_base hv (by omega)⟩
      have := (World.ownsRow.lt HO.out k hk).1
      omega
set_option maxHeartbeats 16000000 in
theorem rplace_swq {w : World} {x : ByteArray} (hs : x.size ≤ 100000) (A H p q idx S E d : Nat) (v0 : Value) (env : List Rw) (he : RwAt w v0 env) (hel : env.length ≤ 1000)
    (hp : min (A : Int) H = p) (hq : max (A : Int) H = q) (hqx : q ≤ x.size) (h1 : atV x.data.toList H = idx) (h2 : lnSv x.data.toList idx = S) (h3 : lnEv x.data.toList idx = E) (hd : S + d = H) (hHE : H ≤ E) (hEx : E ≤ x.size) (hidx : idx ≤ 100000)
    (line wd pa : ByteArray) (b : Bool) (hline : x.extract S E = line) (hwd : wrdF line d = wd) (hpa : getV ⟨#[84, 77, 95, 70, 73, 76, 69, 80, 65, 84, 72]⟩ env = pa) (hbb : getB ⟨#[84, 77, 95, 70, 73, 76, 69, 80, 65, 84, 72]⟩ env = b) (hpz : pa.size ≤ 1000000) (hlc : lnC x.data.toList idx = 0) (hsel : p < q) (hwe' : wd.toList.isEmpty = false) (hbt' : b = true) (hdot : 0 < lstB (cutF pa) 46) :
    Calls Tryd.prog 23 #[.string x, .agg #[.int .i64 A, .int .i64 H], v0] w (VPost w (plAll x p q line wd idx b pa ++ env)) := by
  obtain ⟨i0, hi0, hz0', hz1, hz2⟩ := info_parts info_rw
  obtain ⟨vA, vc, rfl, hsrc⟩ := rw_src he
  have hm : mayR 0 (H : Int) x.size = 0 := by unfold mayR; rw [if_neg (by omega)]
  have HSP := hide (fun W => rspanV (A : Int) H p q hp hq W)
  have HSRC := hide hsrc
  have HE := hide he
  have HAT := hide (fun W => (show Calls Tryd.prog 48 #[.string x, .int .i64 H] W fun e w' => e = .returned (.tuple #[.int .i64 idx, .int .i64 0]) ∧ Below W.heap.size W w' from by
    have := rat_any x (H : Int) W hs
    rwa [h1, hm] at this))
  have HST := hide (fun W => (show Calls Tryd.prog 49 #[.string x, .int .i64 idx] W fun e w' => e = .returned (.tuple #[.int .i64 S, .int .i64 0]) ∧ Below W.heap.size W w' from by
    have := rstart_any x (idx : Int) W hs
    rwa [h2, hlc] at this))
  have HEN := hide (fun W => (show Calls Tryd.prog 50 #[.string x, .int .i64 idx] W fun e w' => e = .returned (.tuple #[.int .i64 E, .int .i64 0]) ∧ Below W.heap.size W w' from by
    have := rend_any x (idx : Int) W hs
    rwa [h3, hlc] at this))
  have HD1 := hide (fun W => digits_any idx (by omega) W)
  have HD2 := hide (fun W => (show Calls Tryd.prog 20 #[.int .i64 ((idx : Int) + 1)] W fun e w' => e = .returned (.string (itoaS (idx + 1))) ∧ Below W.heap.size W w' from by
    have := digits_any (idx + 1) (by omega) W
    rwa [show (((idx + 1 : Nat)) : Int) = (idx : Int) + 1 by omega] at this))
  obtain ⟨e1, e2⟩ := ln_ends x idx S E H h2 h3 hlc (by omega) (by omega)
  obtain ⟨f1, f2, f3⟩ := word_line x S E d H hd hHE hEx e1 e2
  rw [hline, hwd] at f1
  obtain ⟨a1, a2, a3⟩ := dnW_at (wdP x.data.toList) H
  obtain ⟨b1, b2, b3, b4⟩ := upW_at (wdP x.data.toList) x.size H
  have b2 := b2 (by omega)
  obtain ⟨P, hP⟩ : ∃ P, dnW (wdP x.data.toList) H = P := ⟨_, rfl⟩
  obtain ⟨Q, hQ⟩ : ∃ Q, upW (wdP x.data.toList) x.size H = Q := ⟨_, rfl⟩
  rw [hP, hQ] at f1
  rw [hP] at a1 a2 a3 f2
  rw [hQ] at b1 b2 b3 b4 f3
  have hwz : wd.size = Q - P := by rw [f1, ByteArray.size_extract]; omega
  have HWE : wd.toList.isEmpty = decide (¬ P < Q) := by rw [size_lst0, hwz]; exact decide_eq_decide.2 (by omega)
  have HDN := hide a3
  have HUP := hide b4
  have HDN2 := hide a2
  have HUP2 := hide b3
  have HPQ := hide (And.intro hP hQ)
  have HF1 := hide f1
  have q2 : IntKind.i64.wrap ((idx : Int) + 1) = (idx : Int) + 1 := by rw [IntKind.wrap_i64]; omega
  have hSE : S ≤ E := by omega
  have p0 : decide ((p : Int) < 0) = false := decide_eq_false (by omega)
  have p1 : decide ((x.size : Int) < (q : Int)) = false := decide_eq_false (by omega)
  have p1' : decide (x.size < q) = false := decide_eq_false (by omega)
  have HGET := hide (fun W (hb : Below w.heap.size w W) => rget_any _ env ⟨#[84, 77, 95, 70, 73, 76, 69, 80, 65, 84, 72]⟩ pa b W (rwat_below HE.out hb) hel hpa hbb)
  have gpq : decide ((p : Int) < (q : Int)) = true := decide_eq_true (by omega)
  have gpq' : decide (p < q) = true := decide_eq_true (by omega)
  have hPQ : P < Q := by
    rw [HWE] at hwe'
    have := of_decide_eq_false hwe'; omega
  have gPQ : decide ((P : Int) < (Q : Int)) = true := decide_eq_true (by omega)
  have gPQ' : decide (P < Q) = true := decide_eq_true hPQ
  obtain ⟨kf, km, y1, y2, y3, y4, y5, y6, y7, y8⟩ := path_k pa
  obtain ⟨kk, hkk⟩ : ∃ kk, lstB pa 47 = kk := ⟨_, rfl⟩
  rw [hkk] at y1 y2 y7 y8
  have HLS := hide (fun W => rlast_any pa 47 kk hkk hpz W)
  obtain ⟨fl, hfl⟩ : ∃ fl, pa.extract kf pa.size = fl := ⟨_, rfl⟩
  rw [hfl] at y3
  have hfz : fl.size ≤ 1000000 := by rw [← hfl, ByteArray.size_extract]; omega
  rw [y3] at hdot
  have hbd := lst_bd fl 46
  obtain ⟨dd, hdd⟩ : ∃ dd, lstB fl 46 = dd := ⟨_, rfl⟩
  have HLD := hide (fun W => rlast_any fl 46 dd hdd hfz W)
  have gw1 : IntKind.i64.wrap (kk + 1) = (kf : Int) := by rw [IntKind.wrap_i64]; omega
  have gmx : max kk 0 = (km : Int) := y2
  have HFL := hide hfl
  rw [hdd] at hbd hdot
  obtain ⟨di, hdi1, hdi2⟩ : ∃ di : Nat, di < fl.size ∧ dd = (di : Int) := by rcases hbd with h | ⟨i, h1, h2⟩; exact absurd hdot (by omega); exact ⟨i, h1, h2⟩
  subst hdi2
  have gdd : decide ((0 : Int) < (di : Int)) = true := decide_eq_true (by omega)
  have gdd' : decide (0 < di) = true := decide_eq_true (by omega)
  have HBAS := hide (show basF fl = fl.extract 0 di by unfold basF; rw [hdd, if_pos hdot, Int.toNat_natCast])
  have HY := hide (And.intro y3 y4)
  clear y1 y2 y3 y4 hkk hfl hdd hbd hdot
  have HLINE := hide hline
  have HHD := hide hd
  clear he hsrc hm hp hq h1 h2 h3 hd hwd hpa hbb e1 e2 f1 a2 a3 b3 b4 hP hQ hwz HWE hline hlc HE
  go_enter Tryd.func23, Tryd.ntmps23
  go_wp2_with fail
  (with_reducible refine (HSP.out _).mono ?_)
  rintro e w1 ⟨rfl, hb1⟩
  have c41 : (w.alloc (.cells #[.int .i64 A, .int .i64 H] 39)).cell? ⟨w.heap.size, 0, none⟩ = some (.int .i64 A) := by go_simp
  have c42 : (w.alloc (.cells #[.int .i64 A, .int .i64 H] 39)).cell? ⟨w.heap.size, 1, none⟩ = some (.int .i64 H) := by go_simp
  have hb02 := bl_trans (bl_trans (bl_alloc (bl_refl w) (.cells #[.int .i64 A, .int .i64 H] 39)) hb1) (bl_alloc (bl_refl w1) (.cells #[.int .i64 p, .int .i64 q] 71))
  have hb11 := bl_alloc (bl_refl w1) (.cells #[.int .i64 p, .int .i64 q] 71)
  have c81 : (w1.alloc (.cells #[.int .i64 p, .int .i64 q] 71)).cell? ⟨w1.heap.size, 0, none⟩ = some (.int .i64 p) := by go_simp
  have c82 : (w1.alloc (.cells #[.int .i64 p, .int .i64 q] 71)).cell? ⟨w1.heap.size, 1, none⟩ = some (.int .i64 q) := by go_simp
  replace c42 := cell_later hb11 (cell_later hb1 c42)
  clear c41
  obtain ⟨ws, hws⟩ : ∃ ws, w1.alloc (.cells #[.int .i64 p, .int .i64 q] 71) = ws := ⟨_, rfl⟩
  rw [hws] at hb02 hb11 c42 c81 c82
  have HB02 := hide hb02
  have n42 := World.block_lt_of_cell? _ _ c42
  have C42 := hide c42
  obtain ⟨L0, hL0⟩ : ∃ L : List Rw, [] = L := ⟨_, rfl⟩
  have HN0 := hide (show L0.length = 0 by rw [← hL0]; rfl)
  have HL0 := hide hL0
  have HA := hide (show RAcc ws 0 L0 (.slice none 0 0) ws from ⟨bl_refl _, by rw [← hL0]; exact ⟨rfl, .inl ⟨rfl, rfl⟩⟩⟩)
  clear hb1 hb02 hb11 hL0 c42 HSP
  obtain ⟨hA1, hA2⟩ := HA.out
  have HO := hide hA2
  have HBZ := hide hA1
  have hsz := hA1.size
  clear hA1 hA2 HA
  go_wp2_with (at_builtin; (refine wpList_push ws rfl _ _ 22 rfl ws.heap.size 46 i0 (.agg #[.string ⟨#[]⟩, .string ⟨#[]⟩]) 2 32 Tryd.underlying22 hi0 hz0' hz1 hz2 rfl (by decide) (.slice none 0 0) 0 (flatR L0) rfl HO.out 1 #[.string ⟨#[84, 77, 95, 83, 69, 76, 69, 67, 84, 69, 68, 95, 84, 69, 88, 84]⟩, .string (x.extract p q)] rfl rfl (by simp [Value.oneCell']) (by omega) (by decide) (by omega) ?_); intro v' w4 hv4 hg4 hat; clear hat; obtain ⟨aX, cX, rfl⟩ := own_slice hv4; obtain ⟨L1, hL1⟩ : ∃ L, L0 ++ [(⟨#[84, 77, 95, 83, 69, 76, 69, 67, 84, 69, 68, 95, 84, 69, 88, 84]⟩, (x.extract p q))] = L := ⟨_, rfl⟩; have HL1 := hide hL1; have HA := hide (show RAcc ws 1 L1 (.slice aX 1 cX) w4 from ⟨bl_own HBZ.out HO.out hg4 (Nat.le_refl _), by rw [← hL1, flatR_app]; exact hv4⟩); have HN1 := hide (show L1.length = 1 by rw [← hL1, List.length_append, show L0.length = 0 from HN0.out]; rfl); clear hv4 hg4 HO HBZ hL1 hsz; have c42 := cell_later HA.out.1 C42.out)
  go_wp2_with fail
  (with_reducible refine (HAT.out _).mono ?_)
  rintro e w6 ⟨rfl, hbn⟩
  have HA := hide (HA.out.bl hbn)
  clear hbn
  clear c42 c81 c82
  go_wp2_with fail
  (with_reducible refine (HST.out _).mono ?_)
  rintro e w7 ⟨rfl, hbn⟩
  have HA := hide (HA.out.bl hbn)
  clear hbn
  go_wp2_with fail
  (with_reducible refine (HEN.out _).mono ?_)
  rintro e w8 ⟨rfl, hbn⟩
  have HA := hide (HA.out.bl hbn)
  clear hbn
  obtain ⟨hA1, hA2⟩ := HA.out
  have HO := hide hA2
  have HBZ := hide hA1
  have hsz := hA1.size
  clear hA1 hA2 HA
  go_wp2_with (at_builtin; (refine wpList_push w8 rfl _ _ 22 rfl ws.heap.size 46 i0 (.agg #[.string ⟨#[]⟩, .string ⟨#[]⟩]) 2 32 Tryd.underlying22 hi0 hz0' hz1 hz2 rfl (by decide) (.slice aX 1 cX) 1 (flatR L1) rfl HO.out 1 #[.string ⟨#[84, 77, 95, 67, 85, 82, 82, 69, 78, 84, 95, 76, 73, 78, 69]⟩, .string (x.extract S E)] rfl rfl (by simp [Value.oneCell']) (by omega) (by decide) (by omega) ?_); intro v' w4 hv4 hg4 hat; clear hat; obtain ⟨aX, cX, rfl⟩ := own_slice hv4; obtain ⟨L2, hL2⟩ : ∃ L, L1 ++ [(⟨#[84, 77, 95, 67, 85, 82, 82, 69, 78, 84, 95, 76, 73, 78, 69]⟩, (x.extract S E))] = L := ⟨_, rfl⟩; have HL2 := hide hL2; have HA := hide (show RAcc ws 2 L2 (.slice aX 2 cX) w4 from ⟨bl_own HBZ.out HO.out hg4 (Nat.le_refl _), by rw [← hL2, flatR_app]; exact hv4⟩); have HN2 := hide (show L2.length = 2 by rw [← hL2, List.length_append, show L1.length = 1 from HN1.out]; rfl); clear hv4 hg4 HO HBZ hL2 hsz)
  have c42 := cell_later HA.out.1 C42.out
  go_wp2_with fail
  go_quiet (fail)
  clear c42
  have hA := HA.out.bl (bl_drewN (bl_refl w4) nq)
  obtain ⟨w10, hw10⟩ : ∃ W, w4.drewN nq = W := ⟨_, rfl⟩
  rw [hw10] at hA ⊢
  have HA := hide hA
  clear hA
  go_upto_block 0 with fail
  go_cut [16] from 82 to 92 (fun v wx => v = .int .i64 P ∧ w10 = wx)
  case first =>
    go_wp2_with fail
    go_loopg [16] H (fun g v wx => ∃ j : Nat, v = .int .i64 j ∧ P ≤ j ∧ j ≤ H ∧ g = j ∧ w10 = wx)
    case atStart => exact ⟨H, rfl, a1, Nat.le_refl _, rfl, rfl⟩
    case round =>
      obtain ⟨j, rfl, hPj, hj, hgj, rfl⟩ := hrel
      have HGJ := hide hgj
      clear hgj
      rcases Nat.eq_zero_or_pos j with h0 | h0
      · subst h0
        have hP0 : (0 : Int) = (P : Int) := by omega
        have HP0 := hide hP0
        have gz : decide ((0 : Int) < ((0 : Nat) : Int)) = false := by decide
        clear hPj hj hP0
        go_wp2
        go_meet
        exact ⟨by show Value.int _ (0 : Int) = Value.int _ (P : Int); rw [← HP0.out], rfl⟩
      · obtain ⟨m, rfl⟩ : ∃ m, j = m + 1 := ⟨j - 1, by omega⟩
        have hmx : m < x.size := by omega
        have g0 : decide ((0 : Int) < ((m + 1 : Nat) : Int)) = true := decide_eq_true (by omega)
        have g0' : decide ((0 : Int) < (m : Int) + 1) = true := decide_eq_true (by omega)
        have g0'' : decide (0 < m + 1) = true := decide_eq_true (by omega)
        have gw : IntKind.i64.wrap (((m + 1 : Nat) : Int) - 1) = (m : Int) := by rw [IntKind.wrap_i64]; omega
        by_cases hPm : P ≤ m
        · have hw : wordC x[m] = true := by rw [← wd_at x m hmx]; exact HDN2.out m hPm (by omega)
          have HC := hide (fun W => rword_m x[m] true hw W)
          clear hw h0
          go_wp2_with fail
          refine (HC.out _).mono ?_
          rintro e w11 ⟨rfl, hw11⟩
          subst hw11
          go_wp2
          go_roundg m
          case measure => (have := HGJ.out; omega)
          case rel => exact ⟨m, by go_num, hPm, by omega, rfl, by first | rfl | trivial⟩
        · obtain rfl : P = m + 1 := by omega
          have hw : wordC x[m] = false := by rw [← wd_at x m hmx]; exact HDN.out m rfl
          have HC := hide (fun W => rword_m x[m] false hw W)
          clear hw h0 hPm
          go_wp2_with fail
          refine (HC.out _).mono ?_
          rintro e w11 ⟨rfl, hw11⟩
          subst hw11
          go_wp2
          go_meet
          exact ⟨by first | rfl | go_num, by first | rfl | trivial⟩
  case rest =>
    obtain ⟨rfl, rfl⟩ := hcut
    go_upto_block 2 with fail
    go_cut [17] from 93 to 104 (fun v wx => v = .int .i64 Q ∧ w10 = wx)
    case first =>
      go_wp2_with fail
      go_loopg [17] (x.size - H) (fun g v wx => ∃ j : Nat, v = .int .i64 j ∧ H ≤ j ∧ j ≤ Q ∧ g = x.size - j ∧ w10 = wx)
      case atStart => exact ⟨H, rfl, Nat.le_refl _, b1, rfl, rfl⟩
      case round =>
        obtain ⟨j, rfl, hHj, hj, rfl, rfl⟩ := hrel
        by_cases hlt : j < x.size
        · have g0 : decide ((j : Int) < (x.size : Int)) = true := decide_eq_true (by omega)
          have g0' : decide (j < x.size) = true := decide_eq_true hlt
          by_cases hjQ : j < Q
          · have hw : wordC x[j] = true := by rw [← wd_at x j hlt]; exact HUP2.out j hHj hjQ
            have HC := hide (fun W => rword_m x[j] true hw W)
            clear hw
            go_wp2_with fail
            refine (HC.out _).mono ?_
            rintro e w11 ⟨rfl, hw11⟩
            subst hw11
            go_wp2
            go_roundg (x.size - (j + 1))
            case measure => omega
            case rel => exact ⟨j + 1, by go_num, by omega, by omega, rfl, by first | rfl | trivial⟩
          · obtain rfl : j = Q := by omega
            have hw : wordC x[j] = false := by rw [← wd_at x j hlt]; exact HUP.out hlt
            have HC := hide (fun W => rword_m x[j] false hw W)
            clear hw
            go_wp2_with fail
            refine (HC.out _).mono ?_
            rintro e w11 ⟨rfl, hw11⟩
            subst hw11
            go_wp2
            go_meet
            exact ⟨by first | rfl | go_num, by first | rfl | trivial⟩
        · have hjQ : (j : Int) = (Q : Int) := by omega
          have HJQ := hide hjQ
          have g0 : decide ((j : Int) < (x.size : Int)) = false := decide_eq_false (by omega)
          have g0' : decide (j < x.size) = false := decide_eq_false hlt
          clear hjQ
          go_wp2
          go_meet
          exact ⟨by rw [← HJQ.out], by first | rfl | trivial⟩
    case rest =>
      obtain ⟨rfl, rfl⟩ := hcut
      obtain ⟨hA1, hA2⟩ := HA.out
      have HO := hide hA2
      have HBZ := hide hA1
      have hsz := hA1.size
      clear hA1 hA2 HA
      go_wp2_with (at_builtin; (refine wpList_push w10 rfl _ _ 22 rfl ws.heap.size 46 i0 (.agg #[.string ⟨#[]⟩, .string ⟨#[]⟩]) 2 32 Tryd.underlying22 hi0 hz0' hz1 hz2 rfl (by decide) (.slice aX 2 cX) 2 (flatR L2) rfl HO.out 1 #[.string ⟨#[84, 77, 95, 67, 85, 82, 82, 69, 78, 84, 95, 87, 79, 82, 68]⟩, .string (x.extract P Q)] rfl rfl (by simp [Value.oneCell']) (by omega) (by decide) (by omega) ?_); intro v' w4 hv4 hg4 hat; clear hat; obtain ⟨aX, cX, rfl⟩ := own_slice hv4; obtain ⟨L3, hL3⟩ : ∃ L, L2 ++ [(⟨#[84, 77, 95, 67, 85, 82, 82, 69, 78, 84, 95, 87, 79, 82, 68]⟩, (x.extract P Q))] = L := ⟨_, rfl⟩; have HL3 := hide hL3; have HA := hide (show RAcc ws 3 L3 (.slice aX 3 cX) w4 from ⟨bl_own HBZ.out HO.out hg4 (Nat.le_refl _), by rw [← hL3, flatR_app]; exact hv4⟩); have HN3 := hide (show L3.length = 3 by rw [← hL3, List.length_append, show L2.length = 2 from HN2.out]; rfl); clear hv4 hg4 HO HBZ hL3 hsz)
      go_wp2_with fail
      (with_reducible refine (HD1.out _).mono ?_)
      rintro e w12 ⟨rfl, hbn⟩
      have HA := hide (HA.out.bl hbn)
      clear hbn
      go_wp2_with fail
      (with_reducible refine (HD2.out _).mono ?_)
      rintro e w13 ⟨rfl, hbn⟩
      have HA := hide (HA.out.bl hbn)
      clear hbn
      obtain ⟨hA1, hA2⟩ := HA.out
      have HO := hide hA2
      have HBZ := hide hA1
      have hsz := hA1.size
      clear hA1 hA2 HA
      go_wp2_with (at_builtin; (refine wpList_push w13 rfl _ _ 22 rfl ws.heap.size 46 i0 (.agg #[.string ⟨#[]⟩, .string ⟨#[]⟩]) 2 32 Tryd.underlying22 hi0 hz0' hz1 hz2 rfl (by decide) (.slice aX 3 cX) 3 (flatR L3) rfl HO.out 2 #[.string ⟨#[84, 77, 95, 76, 73, 78, 69, 95, 73, 78, 68, 69, 88]⟩, .string (itoaS idx), .string ⟨#[84, 77, 95, 76, 73, 78, 69, 95, 78, 85, 77, 66, 69, 82]⟩, .string (itoaS (idx + 1))] rfl rfl (by simp [Value.oneCell']) (by omega) (by decide) (by omega) ?_); intro v' w4 hv4 hg4 hat; clear hat; obtain ⟨aX, cX, rfl⟩ := own_slice hv4; obtain ⟨L5, hL5⟩ : ∃ L, L3 ++ [(⟨#[84, 77, 95, 76, 73, 78, 69, 95, 73, 78, 68, 69, 88]⟩, (itoaS idx)), (⟨#[84, 77, 95, 76, 73, 78, 69, 95, 78, 85, 77, 66, 69, 82]⟩, (itoaS (idx + 1)))] = L := ⟨_, rfl⟩; have HL5 := hide hL5; have HA := hide (show RAcc ws 5 L5 (.slice aX 5 cX) w4 from ⟨bl_own HBZ.out HO.out hg4 (Nat.le_refl _), by rw [← hL5, flatR_app]; exact hv4⟩); have HN5 := hide (show L5.length = 5 by rw [← hL5, List.length_append, show L3.length = 3 from HN3.out]; rfl); clear hv4 hg4 HO HBZ hL5 hsz)
      have hbz := bl_trans HB02.out HA.out.1
      go_wp2_with fail
      (with_reducible refine (HGET.out _ hbz).mono ?_)
      rintro e w14 ⟨rfl, hwn⟩
      subst hwn
      clear hbz
      go_wp2_with fail
      (with_reducible refine (HLS.out _).mono ?_)
      rintro e w15 ⟨rfl, hwn⟩
      subst hwn
      have hfl := HFL.out
      go_wp2_with fail
      (with_reducible refine (HLD.out _).mono ?_)
      rintro e w16 ⟨rfl, hwn⟩
      subst hwn
      obtain ⟨hA1, hA2⟩ := HA.out
      have HO := hide hA2
      have HBZ := hide hA1
      have hsz := hA1.size
      clear hA1 hA2 HA
      go_wp2_with (first | (at_builtin; (refine wpList_push w4 rfl _ _ 22 rfl ws.heap.size 46 i0 (.agg #[.string ⟨#[]⟩, .string ⟨#[]⟩]) 2 32 Tryd.underlying22 hi0 hz0' hz1 hz2 rfl (by decide) (.slice aX 5 cX) 5 (flatR L5) rfl HO.out 3 #[.string ⟨#[84, 77, 95, 70, 73, 76, 69, 78, 65, 77, 69]⟩, .string fl, .string ⟨#[84, 77, 95, 70, 73, 76, 69, 78, 65, 77, 69, 95, 66, 65, 83, 69]⟩, .string (fl.extract 0 di), .string ⟨#[84, 77, 95, 68, 73, 82, 69, 67, 84, 79, 82, 89]⟩, .string (pa.extract 0 km)] rfl rfl (by simp [Value.oneCell']) (by omega) (by decide) (by omega) ?_); intro v' w4 hv4 hg4 hat; clear hat; obtain ⟨aX, cX, rfl⟩ := own_slice hv4; obtain ⟨L8, hL8⟩ : ∃ L, L5 ++ [(⟨#[84, 77, 95, 70, 73, 76, 69, 78, 65, 77, 69]⟩, fl), (⟨#[84, 77, 95, 70, 73, 76, 69, 78, 65, 77, 69, 95, 66, 65, 83, 69]⟩, (fl.extract 0 di)), (⟨#[84, 77, 95, 68, 73, 82, 69, 67, 84, 79, 82, 89]⟩, (pa.extract 0 km))] = L := ⟨_, rfl⟩; have HL8 := hide hL8; have HA := hide (show RAcc ws 8 L8 (.slice aX 8 cX) w4 from ⟨bl_own HBZ.out HO.out hg4 (Nat.le_refl _), by rw [← hL8, flatR_app]; exact hv4⟩); have HN8 := hide (show L8.length = 8 by rw [← hL8, List.length_append, show L5.length = 5 from HN5.out]; rfl); clear hv4 hg4 HO HBZ hL8 hsz; have HRR := hide (show L8 = plAll x p q line wd idx b pa from by (rw [← HL8.out, ← HL5.out, ← HL3.out, ← HL2.out, ← HL1.out, ← HL0.out]; unfold plAll plSel plWord plPath; rw [if_pos hsel]; rw [if_neg (by rw [hwe']; simp)]; rw [HF1.out]; rw [if_pos hbt']; rw [HLINE.out, HY.out.1, HY.out.2, HBAS.out]; simp)); obtain ⟨hA1, hA2⟩ := HA.out; have hsz := hA1.size; have HO := hide hA2; have HS9 := hide (src_below HSRC.out (bl_trans HB02.out hA1)); have hone := flatR_one env; have HBE := hide (bl_trans HB02.out hA1); clear hA1 hA2 HA) | (at_builtin; (refine wpList_src _ rfl _ _ 22 rfl ws.heap.size 46 i0 (.agg #[.string ⟨#[]⟩, .string ⟨#[]⟩]) 2 32 Tryd.underlying22 hi0 hz0' hz1 hz2 rfl (by decide) (.slice aX 8 cX) 8 (flatR L8) rfl HO.out vA env.length vc (flatR env) rfl HS9.out hone (by omega) (by decide) (by omega) ?_); intro v' w4 hv4 hg4; have HV4 := hide hv4; have HG4 := hide hg4; clear hv4 hg4))
      try clear hfl
      go_ret2
      have hv := HV4.out
      rw [← flatR_app, HRR.out, show 8 + env.length = (plAll x p q line wd idx b pa ++ env).length by rw [List.length_append, ← HRR.out, HN8.out]] at hv
      refine ⟨v', rfl, bl_grown HBE.out HG4.out (fun k hk => ?_), own_base hv (by omega)⟩
      have := (World.ownsRow.lt HO.out k hk).1
      omega
end Go.Proofs.YtmjadcjpgcbalaaDoor
