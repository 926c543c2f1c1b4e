/- Two trees that are told the same, in at most MaxRx bytes, are the Same. Conditions: none beyond the form's own. -/
import Derived.Test.YtmacpmblodhcpaaGreatDoorRows
import Derived.Test.YtmacpmblodhcpaaGreatDoorCards
import Derived.Test.YtmacpmblodhcpaaGreatDoorTie
import Derived.Lay
import Derived.LaidMore
import Derived.MakeChecks
import Derived.Stop.Joined
import Derived.SevenTiedAt
import Derived.Test.YtmacpmblodhcpaaGreatDoorArgs
import Derived.Test.YtmacpmblodhcpaaGreatDoorPcC
namespace Go.Proofs.YtmacpmblodhcpaaGreatDoor.showUnlike
open Go.Proofs.YtmacpmblodhcpaaGreatDoor
open Go.ChangeShapes Go.WideShapes Go.ChangeAt Go.RowKit Go.Deep
open Go.ChangeMaps (open_string shut_string)
set_option linter.unusedVariables false

theorem own : ownKnob Tryz.prog.godebug = none := by kernel_rfl
theorem laidOut : laidOutB Tryz.prog = true := by kernel_rfl
-- opt: 4000000
-- tied
open SetM
attribute [local go_sem ↓] Go.wp_at_zero Go.wp_at_succ
theorem shw_same {t u : Rt} (h1 : shwE t = 0) (h2 : shwE u = 0) (h3 : shwS t = shwS u) (h4 : (shwS t).size ≤ 256) : sameM t u = true := by
  have no : ∀ {v : Rt}, shwE v = 0 → cnB v 16 512 = true := by
    intro v hv
    unfold shwE at hv
    split at hv
    · assumption
    · cases hv
  have r1 := shw_read (no h1)
  have r2 := shw_read (no h2)
  rw [if_neg (by omega)] at r1
  rw [← h3, if_neg (by omega), r1] at r2
  injection r2 with r2
  exact sameM_of r2
/-- What is read, or nothing: it may be if it was read. -/
def RzPost (l : Nat) (w : World) : Ending → World → Prop := fun e w' => ∃ (z : Rt) (n : Int), e = .returned (.tuple #[z.v, .int .i64 n]) ∧ Below w.heap.size w w' ∧ RxAt w' z ∧ (n = 0 → shwE z = 0) ∧ sM z ≤ 8 * l + 2
theorem read_z (s : ByteArray) (hz : s.size ≤ 1000000) (w : World) : Calls Tryz.prog 11 #[.string s] w (RzPost s.size w) := by
  refine (read_any s hz w _ rfl).mono ?_
  intro e w' h
  have hl : s.data.toList.length = s.size := Array.length_toList
  rcases readP_cases s.data.toList with ⟨m, hm, hm2⟩ | ⟨x, hx⟩
  · rw [hm] at h
    obtain ⟨rfl, hb⟩ := h
    exact ⟨rt0, m, rfl, hb, rx_leaf _ _ rfl rfl rfl rfl, fun h0 => by omega, by have : sM rt0 = 1 := rfl; omega⟩
  · rw [hx] at h
    obtain ⟨t, rfl, hb, hr, _, he⟩ := h
    refine ⟨t, 0, rfl, hb, hr, fun _ => (shwS_yes ?_).2, ?_⟩
    · rw [cnB_er2 he]; exact readP_cn hx
    · have := (readP_va hx).2.2.2.2.2.2.2.2.2.1
      rw [← sM_er, he]; omega
set_option maxRecDepth 100000 in
set_option maxHeartbeats 4000000 in
theorem walk (t0 : Rt) (t1 : Rt) (a2 : ByteArray) (w : World) (w0 : RxAt w t0) (b0 : WfX t0) (w1 : RxAt w t1) (b1 : WfX t1) (w2 : a2.size ≤ maxLen) (hT : laidMetH Tryz.prog Rows.showUnlikeRow.laid w) :
    Calls Tryz.prog 5 #[t0.v, t1.v, .string a2] w fun e w' => e = .returned (.bool true) ∧ Below w.heap.size w w' := by
  have HTAB := hide (pow_tab hT)
  have HAW := hide (fun W hb => awake15_any HTAB.out W hb)
  obtain ⟨xA, xa, xB, xb, hrvx, hkvx, hvx⟩ := rx_vv w0
  obtain ⟨yA, ya, yB, yb, hrvy, hkvy, hvy⟩ := rx_vv w1
  have HG := hide (fun W hb => rxl_any w0 b0 80 (by decide) (by decide) W hb)
  have HG1 := hide (fun W hb => rxl_any w1 b1 80 (by decide) (by decide) W hb)
  unfold GuPost at HG HG1
  have XR := hide hrvx
  have XK := hide hkvx
  have XV := hide hvx
  have YR := hide hrvy
  have YK := hide hkvy
  have YV := hide hvy
  rw [hvx] at HG ⊢
  rw [hvy] at HG1 ⊢
  have hcx0 := cx_new w t0 hrvx hkvx
  obtain ⟨W0, hW0⟩ : ∃ W, w.alloc (.cells #[.int .i64 t0.k, .string t0.ch, .bool t0.nt, .slice xA t0.rows.length xa, .int .i64 t0.mi, .int .i64 t0.ma, .bool t0.lz, .slice xB t0.kids.length xb] 25) = W := ⟨_, rfl⟩
  have hb00 : Below w.heap.size w W0 := by rw [← hW0]; exact bl_alloc (bl_refl w) _
  have hcy0 := cx_new W0 t1 hrvy hkvy
  obtain ⟨W1, hW1⟩ : ∃ W, W0.alloc (.cells #[.int .i64 t1.k, .string t1.ch, .bool t1.nt, .slice yA t1.rows.length ya, .int .i64 t1.mi, .int .i64 t1.ma, .bool t1.lz, .slice yB t1.kids.length yb] 25) = W := ⟨_, rfl⟩
  have hb01 : Below W0.heap.size W0 W1 := by rw [← hW1]; exact bl_alloc (bl_refl W0) _
  rw [hW1] at hcy0
  rw [hW0] at hcx0
  have HB1 := hide (bl_trans hb00 hb01)
  have HCX := hide (cx_below hcx0 hb01)
  have HCY := hide hcy0
  have HRX := hide (rx_below w0 HB1.out)
  have HRY := hide (rx_below w1 HB1.out)
  have HHT := hide hT
  obtain ⟨c0, c1, c2, c3, c4, c5, c6, c7⟩ := cx_8 HCX.out XR.out XK.out
  obtain ⟨d0, d1, d2, d3, d4, d5, d6, d7⟩ := cx_8 HCY.out YR.out YK.out
  have hlt : w.heap.size < W1.heap.size := World.block_lt_of_cell? _ _ c0
  have hlt' : W0.heap.size < W1.heap.size := World.block_lt_of_cell? _ _ d0
  clear w0 b0 w1 b1 hrvx hkvx hvx hrvy hkvy hvy hT hcx0 hcy0 hb00 hb01
  go_enter Tryz.func5, Tryz.ntmps5
  go_wp2_with fail
  refine (HG.out _ HB1.out).mono ?_
  rintro e w2 ⟨r, rfl, hr0, hr1, hr2, hb2⟩
  have HB2 := hide hb2
  clear hb2 hr0 hr1
  clear c0 c1 c2 c3 c4 c5 c6 c7 d0 d1 d2 d3 d4 d5 d6 d7 hlt hlt'
  by_cases hn : r < 0
  case pos =>
    have z1 : decide (r < 0) = true := decide_eq_true hn
    clear hr2 hn
    go_wp2_with fail
    refine (HAW.out _ (bl_trans HB1.out HB2.out)).mono ?_
    rintro e w3 ⟨rfl, hb3⟩
    have HB3 := hide (bl_trans (bl_trans HB1.out HB2.out) hb3)
    clear hb3
    go_wp2
    go_ret
    exact ⟨rfl, HB3.out⟩
  case neg =>
    have z1 : decide (r < 0) = false := decide_eq_false hn
    have hs0 : sM t0 ≤ 80 := by have := hr2.out (by omega); omega
    have HS0 := hide hs0
    obtain ⟨d0, d1, d2, d3, d4, d5, d6, d7⟩ := cx_8 (cx_below HCY.out HB2.out) YR.out YK.out
    clear hr2 hn hs0
    go_wp2_with fail
    refine (HG1.out _ (bl_trans HB1.out HB2.out)).mono ?_
    rintro e w3 ⟨r1, rfl, hr0, hr1, hr2, hb3⟩
    have HB3 := hide (bl_trans HB2.out hb3)
    clear hb3 hr0 hr1
    clear d0 d1 d2 d3 d4 d5 d6 d7
    by_cases hn1 : r1 < 0
    case pos =>
      have z2 : decide (r1 < 0) = true := decide_eq_true hn1
      clear hr2 hn1
      go_wp2_with fail
      refine (HAW.out _ (bl_trans HB1.out HB3.out)).mono ?_
      rintro e w4 ⟨rfl, hb4⟩
      have HB4 := hide (bl_trans (bl_trans HB1.out HB3.out) hb4)
      clear hb4
      go_wp2
      go_ret
      exact ⟨rfl, HB4.out⟩
    case neg =>
      have z2 : decide (r1 < 0) = false := decide_eq_false hn1
      have hs1 : sM t1 ≤ 80 := by have := hr2.out (by omega); omega
      have HS1 := hide hs1
      clear hr2 hn1 hs1
      by_cases hl : 80 < a2.size
      case pos =>
        have z3 : decide (80 < a2.size) = true := decide_eq_true hl
        have z3' : decide (80 < (a2.size : Int)) = true := decide_eq_true (by omega)
        clear hl
        go_wp2_with fail
        refine (HAW.out _ (bl_trans HB1.out HB3.out)).mono ?_
        rintro e w4 ⟨rfl, hb4⟩
        have HB4 := hide (bl_trans (bl_trans HB1.out HB3.out) hb4)
        clear hb4
        go_wp2
        go_ret
        exact ⟨rfl, HB4.out⟩
      case neg =>
        have z3 : decide (80 < a2.size) = false := decide_eq_false hl
        have z3' : decide (80 < (a2.size : Int)) = false := decide_eq_false (by omega)
        have HLZ := hide (show a2.size ≤ 80 by omega)
        have HRD := hide (fun W => read_z a2 (by omega) W)
        unfold RzPost at HRD
        clear hl
        go_wp2_with fail
        refine (HRD.out _).mono ?_
        rintro e w4 ⟨z, n, rfl, hb4, hrz, hnz, hsz⟩
        obtain ⟨zA, za, zB, zb, hrvz, hkvz, hvz⟩ := rx_vv hrz
        rw [hvz]
        have ZR := hide hrvz
        have ZK := hide hkvz
        have ZV := hide hvz
        obtain ⟨W4, hW4⟩ : ∃ W, w4.alloc (.cells #[.int .i64 z.k, .string z.ch, .bool z.nt, .slice zA z.rows.length za, .int .i64 z.mi, .int .i64 z.ma, .bool z.lz, .slice zB z.kids.length zb] 25) = W := ⟨_, rfl⟩
        have hb44 : Below w4.heap.size w4 W4 := by rw [← hW4]; exact bl_alloc (bl_refl w4) _
        have HCZ := hide (show CxAt W4 w4.heap.size z by rw [← hW4]; exact cx_new w4 z hrvz hkvz)
        have HB4 := hide (bl_trans HB3.out (bl_trans hb4 hb44))
        have HRZ := hide (rx_below hrz hb44)
        have HNZ := hide hnz
        have HSZ := hide hsz
        have hx1 := fun W (hb : Below W1.heap.size W1 W) => rxshow_any HTAB.out HB1.out HRX.out (by have := HS0.out; omega) W hb
        have hy1 := fun W (hb : Below W1.heap.size W1 W) => rxshow_any HTAB.out HB1.out HRY.out (by have := HS1.out; omega) W hb
        have hz1 := fun W (hb : Below W4.heap.size W4 W) => rxshow_any HTAB.out (bl_trans HB1.out HB4.out) HRZ.out (by have := HSZ.out; have := HLZ.out; omega) W hb
        unfold ShowPost at hx1 hy1 hz1
        rw [XV.out] at hx1
        rw [YV.out] at hy1
        rw [ZV.out] at hz1
        obtain ⟨SA, hSA⟩ : ∃ S, shwS t0 = S := ⟨_, rfl⟩
        obtain ⟨SB, hSB⟩ : ∃ S, shwS t1 = S := ⟨_, rfl⟩
        obtain ⟨SC, hSC⟩ : ∃ S, shwS z = S := ⟨_, rfl⟩
        obtain ⟨nA, hnA⟩ : ∃ S, shwE t0 = S := ⟨_, rfl⟩
        obtain ⟨nB, hnB⟩ : ∃ S, shwE t1 = S := ⟨_, rfl⟩
        obtain ⟨nC, hnC⟩ : ∃ S, shwE z = S := ⟨_, rfl⟩
        rw [hSA, hnA] at hx1
        rw [hSB, hnB] at hy1
        rw [hSC, hnC] at hz1
        have HX1 := hide hx1
        have HY1 := hide hy1
        have HZ1 := hide hz1
        have FAB := hide (show nA = 0 → nB = 0 → SA = SB → SA.size ≤ 256 → sameM t0 t1 = true from fun e1 e2 e3 e4 => by
          rw [← hnA] at e1; rw [← hnB] at e2; rw [← hSA, ← hSB] at e3; rw [← hSA] at e4
          exact shw_same e1 e2 e3 e4)
        have FAC := hide (show nA = 0 → n = 0 → SA = SC → SA.size ≤ 256 → sameM t0 z = true from fun e1 e2 e3 e4 => by
          rw [← hnA] at e1; rw [← hSA, ← hSC] at e3; rw [← hSA] at e4
          exact shw_same e1 (HNZ.out e2) e3 e4)
        have FC := hide (show n = 0 → nC = 0 from fun e => by rw [← hnC]; exact HNZ.out e)
        have HSXY := hide (fun W (hb : Below W1.heap.size W1 W) => same_any HRX.out HRY.out W hb)
        have HSXZ := hide (fun W (hb : Below W4.heap.size W4 W) => same_any (rx_below HRX.out HB4.out) HRZ.out W hb)
        rw [XV.out, YV.out] at HSXY
        rw [XV.out, ZV.out] at HSXZ
        unfold SmPost at HSXY HSXZ
        obtain ⟨c0, c1, c2, c3, c4, c5, c6, c7⟩ := cx_8 (cx_below HCX.out HB4.out) XR.out XK.out
        have hq0 : w4.heap.size < W4.heap.size := by rw [← hW4]; simp
        clear hb4 hb44 hrz hrvz hkvz hvz hx1 hy1 hz1 hSA hSB hSC hnA hnB hnC hnz hsz
        go_wp2_with fail
        refine (HX1.out _ HB4.out).mono ?_
        rintro e w5 ⟨rfl, hb5⟩
        have HB5 := hide (bl_trans HB4.out hb5)
        have HB45 := hide hb5
        clear c0 c1 c2 c3 c4 c5 c6 c7
        obtain ⟨d0, d1, d2, d3, d4, d5, d6, d7⟩ := cx_8 (cx_below HCY.out HB5.out) YR.out YK.out
        clear hb5
        go_wp2_with fail
        refine (HY1.out _ HB5.out).mono ?_
        rintro e w6 ⟨rfl, hb6⟩
        have HB46 := hide (bl_trans HB45.out hb6)
        clear d0 d1 d2 d3 d4 d5 d6 d7
        obtain ⟨e0, e1, e2, e3, e4, e5, e6, e7⟩ := cx_8 (cx_below HCZ.out HB46.out) ZR.out ZK.out
        clear hb6
        go_wp2_with fail
        refine (HZ1.out _ HB46.out).mono ?_
        rintro e w7 ⟨rfl, hb7⟩
        have HB47 := hide (bl_trans HB46.out hb7)
        clear e0 e1 e2 e3 e4 e5 e6 e7
        clear hb7
        by_cases kA : nA = 0
        case neg =>
          have kA' : (nA == 0) = false := by first | (rw [beq_iff_eq]; exact kA) | (rw [Bool.eq_false_iff]; intro q; exact kA (beq_iff_eq.1 q))
          by_cases kn : n = 0
          case neg =>
            have kn' : (n == 0) = false := by first | (rw [beq_iff_eq]; exact kn) | (rw [Bool.eq_false_iff]; intro q; exact kn (beq_iff_eq.1 q))
            go_wp2_with fail
            refine (HAW.out _ (bl_trans HB1.out (bl_trans HB4.out HB47.out))).mono ?_
            rintro e w10 ⟨rfl, hb10⟩
            have HB10 := hide (bl_trans HB1.out (bl_trans HB4.out (bl_trans HB47.out hb10)))
            clear hb10
            go_wp2
            go_ret
            exact ⟨rfl, HB10.out⟩
          case pos =>
            have kC := FC.out kn
            have kn' : (n == 0) = true := by first | (rw [beq_iff_eq]; exact kn) | (rw [Bool.eq_false_iff]; intro q; exact kn (beq_iff_eq.1 q))
            have kC' : (nC == 0) = true := by first | (rw [beq_iff_eq]; exact kC) | (rw [Bool.eq_false_iff]; intro q; exact kC (beq_iff_eq.1 q))
            go_wp2_with fail
            refine (HAW.out _ (bl_trans HB1.out (bl_trans HB4.out HB47.out))).mono ?_
            rintro e w10 ⟨rfl, hb10⟩
            have HB10 := hide (bl_trans HB1.out (bl_trans HB4.out (bl_trans HB47.out hb10)))
            clear hb10
            go_wp2
            go_ret
            exact ⟨rfl, HB10.out⟩
        case pos =>
          have kA' : (nA == 0) = true := by first | (rw [beq_iff_eq]; exact kA) | (rw [Bool.eq_false_iff]; intro q; exact kA (beq_iff_eq.1 q))
          by_cases kB : nB = 0
          case neg =>
            have kB' : (nB == 0) = false := by first | (rw [beq_iff_eq]; exact kB) | (rw [Bool.eq_false_iff]; intro q; exact kB (beq_iff_eq.1 q))
            by_cases kn : n = 0
            case neg =>
              have kn' : (n == 0) = false := by first | (rw [beq_iff_eq]; exact kn) | (rw [Bool.eq_false_iff]; intro q; exact kn (beq_iff_eq.1 q))
              go_wp2_with fail
              refine (HAW.out _ (bl_trans HB1.out (bl_trans HB4.out HB47.out))).mono ?_
              rintro e w10 ⟨rfl, hb10⟩
              have HB10 := hide (bl_trans HB1.out (bl_trans HB4.out (bl_trans HB47.out hb10)))
              clear hb10
              go_wp2
              go_ret
              exact ⟨rfl, HB10.out⟩
            case pos =>
              have kC := FC.out kn
              have kn' : (n == 0) = true := by first | (rw [beq_iff_eq]; exact kn) | (rw [Bool.eq_false_iff]; intro q; exact kn (beq_iff_eq.1 q))
              have kC' : (nC == 0) = true := by first | (rw [beq_iff_eq]; exact kC) | (rw [Bool.eq_false_iff]; intro q; exact kC (beq_iff_eq.1 q))
              by_cases kS : SA = SC
              case neg =>
                have gS : (SA.toList == SC.toList) = false := by rw [Bool.eq_false_iff]; intro q; exact kS ((tl_iff _ _).1 (beq_iff_eq.1 q))
                go_wp2_with fail
                refine (HAW.out _ (bl_trans HB1.out (bl_trans HB4.out HB47.out))).mono ?_
                rintro e w10 ⟨rfl, hb10⟩
                have HB10 := hide (bl_trans HB1.out (bl_trans HB4.out (bl_trans HB47.out hb10)))
                clear hb10
                go_wp2
                go_ret
                exact ⟨rfl, HB10.out⟩
              case pos =>
                have gS : (SA.toList == SC.toList) = true := by rw [kS]; simp
                by_cases kL : SA.size ≤ 256
                case neg =>
                  have gL : decide (SA.size ≤ 256) = false := decide_eq_false kL
                  have gL' : decide ((SA.size : Int) ≤ 256) = false := decide_eq_false (by omega)
                  clear kS
                  go_wp2_with fail
                  refine (HAW.out _ (bl_trans HB1.out (bl_trans HB4.out HB47.out))).mono ?_
                  rintro e w10 ⟨rfl, hb10⟩
                  have HB10 := hide (bl_trans HB1.out (bl_trans HB4.out (bl_trans HB47.out hb10)))
                  clear hb10
                  go_wp2
                  go_ret
                  exact ⟨rfl, HB10.out⟩
                case pos =>
                  have gL : decide (SA.size ≤ 256) = true := decide_eq_true kL
                  have gL' : decide ((SA.size : Int) ≤ 256) = true := decide_eq_true (by omega)
                  rw [FAC.out kA kn kS kL] at HSXZ
                  clear kS
                  obtain ⟨c0, c1, c2, c3, c4, c5, c6, c7⟩ := cx_8 (cx_below HCX.out (bl_trans HB4.out HB47.out)) XR.out XK.out
                  obtain ⟨e0, e1, e2, e3, e4, e5, e6, e7⟩ := cx_8 (cx_below HCZ.out HB47.out) ZR.out ZK.out
                  go_wp2_with fail
                  refine (HSXZ.out _ HB47.out).mono ?_
                  rintro e w9 ⟨rfl, hb9⟩
                  have HB49 := hide (bl_trans HB47.out hb9)
                  clear hb9
                  clear c0 c1 c2 c3 c4 c5 c6 c7 e0 e1 e2 e3 e4 e5 e6 e7
                  go_wp2_with fail
                  refine (HAW.out _ (bl_trans HB1.out (bl_trans HB4.out HB49.out))).mono ?_
                  rintro e w10 ⟨rfl, hb10⟩
                  have HB10 := hide (bl_trans HB1.out (bl_trans HB4.out (bl_trans HB49.out hb10)))
                  clear hb10
                  go_wp2
                  go_ret
                  exact ⟨rfl, HB10.out⟩
          case pos =>
            have kB' : (nB == 0) = true := by first | (rw [beq_iff_eq]; exact kB) | (rw [Bool.eq_false_iff]; intro q; exact kB (beq_iff_eq.1 q))
            by_cases kT : SA = SB
            case neg =>
              have gT : (SA.toList == SB.toList) = false := by rw [Bool.eq_false_iff]; intro q; exact kT ((tl_iff _ _).1 (beq_iff_eq.1 q))
              by_cases kn : n = 0
              case neg =>
                have kn' : (n == 0) = false := by first | (rw [beq_iff_eq]; exact kn) | (rw [Bool.eq_false_iff]; intro q; exact kn (beq_iff_eq.1 q))
                go_wp2_with fail
                refine (HAW.out _ (bl_trans HB1.out (bl_trans HB4.out HB47.out))).mono ?_
                rintro e w10 ⟨rfl, hb10⟩
                have HB10 := hide (bl_trans HB1.out (bl_trans HB4.out (bl_trans HB47.out hb10)))
                clear hb10
                go_wp2
                go_ret
                exact ⟨rfl, HB10.out⟩
              case pos =>
                have kC := FC.out kn
                have kn' : (n == 0) = true := by first | (rw [beq_iff_eq]; exact kn) | (rw [Bool.eq_false_iff]; intro q; exact kn (beq_iff_eq.1 q))
                have kC' : (nC == 0) = true := by first | (rw [beq_iff_eq]; exact kC) | (rw [Bool.eq_false_iff]; intro q; exact kC (beq_iff_eq.1 q))
                by_cases kS : SA = SC
                case neg =>
                  have gS : (SA.toList == SC.toList) = false := by rw [Bool.eq_false_iff]; intro q; exact kS ((tl_iff _ _).1 (beq_iff_eq.1 q))
                  go_wp2_with fail
                  refine (HAW.out _ (bl_trans HB1.out (bl_trans HB4.out HB47.out))).mono ?_
                  rintro e w10 ⟨rfl, hb10⟩
                  have HB10 := hide (bl_trans HB1.out (bl_trans HB4.out (bl_trans HB47.out hb10)))
                  clear hb10
                  go_wp2
                  go_ret
                  exact ⟨rfl, HB10.out⟩
                case pos =>
                  have gS : (SA.toList == SC.toList) = true := by rw [kS]; simp
                  by_cases kL : SA.size ≤ 256
                  case neg =>
                    have gL : decide (SA.size ≤ 256) = false := decide_eq_false kL
                    have gL' : decide ((SA.size : Int) ≤ 256) = false := decide_eq_false (by omega)
                    clear kS
                    go_wp2_with fail
                    refine (HAW.out _ (bl_trans HB1.out (bl_trans HB4.out HB47.out))).mono ?_
                    rintro e w10 ⟨rfl, hb10⟩
                    have HB10 := hide (bl_trans HB1.out (bl_trans HB4.out (bl_trans HB47.out hb10)))
                    clear hb10
                    go_wp2
                    go_ret
                    exact ⟨rfl, HB10.out⟩
                  case pos =>
                    have gL : decide (SA.size ≤ 256) = true := decide_eq_true kL
                    have gL' : decide ((SA.size : Int) ≤ 256) = true := decide_eq_true (by omega)
                    rw [FAC.out kA kn kS kL] at HSXZ
                    clear kS
                    obtain ⟨c0, c1, c2, c3, c4, c5, c6, c7⟩ := cx_8 (cx_below HCX.out (bl_trans HB4.out HB47.out)) XR.out XK.out
                    obtain ⟨e0, e1, e2, e3, e4, e5, e6, e7⟩ := cx_8 (cx_below HCZ.out HB47.out) ZR.out ZK.out
                    go_wp2_with fail
                    refine (HSXZ.out _ HB47.out).mono ?_
                    rintro e w9 ⟨rfl, hb9⟩
                    have HB49 := hide (bl_trans HB47.out hb9)
                    clear hb9
                    clear c0 c1 c2 c3 c4 c5 c6 c7 e0 e1 e2 e3 e4 e5 e6 e7
                    go_wp2_with fail
                    refine (HAW.out _ (bl_trans HB1.out (bl_trans HB4.out HB49.out))).mono ?_
                    rintro e w10 ⟨rfl, hb10⟩
                    have HB10 := hide (bl_trans HB1.out (bl_trans HB4.out (bl_trans HB49.out hb10)))
                    clear hb10
                    go_wp2
                    go_ret
                    exact ⟨rfl, HB10.out⟩
            case pos =>
              have gT : (SA.toList == SB.toList) = true := by rw [kT]; simp
              by_cases kM : SA.size ≤ 256
              case neg =>
                have gM : decide (SA.size ≤ 256) = false := decide_eq_false kM
                have gM' : decide ((SA.size : Int) ≤ 256) = false := decide_eq_false (by omega)
                clear kT
                by_cases kn : n = 0
                case neg =>
                  have kn' : (n == 0) = false := by first | (rw [beq_iff_eq]; exact kn) | (rw [Bool.eq_false_iff]; intro q; exact kn (beq_iff_eq.1 q))
                  go_wp2_with fail
                  refine (HAW.out _ (bl_trans HB1.out (bl_trans HB4.out HB47.out))).mono ?_
                  rintro e w10 ⟨rfl, hb10⟩
                  have HB10 := hide (bl_trans HB1.out (bl_trans HB4.out (bl_trans HB47.out hb10)))
                  clear hb10
                  go_wp2
                  go_ret
                  exact ⟨rfl, HB10.out⟩
                case pos =>
                  have kC := FC.out kn
                  have kn' : (n == 0) = true := by first | (rw [beq_iff_eq]; exact kn) | (rw [Bool.eq_false_iff]; intro q; exact kn (beq_iff_eq.1 q))
                  have kC' : (nC == 0) = true := by first | (rw [beq_iff_eq]; exact kC) | (rw [Bool.eq_false_iff]; intro q; exact kC (beq_iff_eq.1 q))
                  by_cases kS : SA = SC
                  case neg =>
                    have gS : (SA.toList == SC.toList) = false := by rw [Bool.eq_false_iff]; intro q; exact kS ((tl_iff _ _).1 (beq_iff_eq.1 q))
                    go_wp2_with fail
                    refine (HAW.out _ (bl_trans HB1.out (bl_trans HB4.out HB47.out))).mono ?_
                    rintro e w10 ⟨rfl, hb10⟩
                    have HB10 := hide (bl_trans HB1.out (bl_trans HB4.out (bl_trans HB47.out hb10)))
                    clear hb10
                    go_wp2
                    go_ret
                    exact ⟨rfl, HB10.out⟩
                  case pos =>
                    have gS : (SA.toList == SC.toList) = true := by rw [kS]; simp
                    by_cases kL : SA.size ≤ 256
                    case neg =>
                      have gL : decide (SA.size ≤ 256) = false := decide_eq_false kL
                      have gL' : decide ((SA.size : Int) ≤ 256) = false := decide_eq_false (by omega)
                      clear kS
                      go_wp2_with fail
                      refine (HAW.out _ (bl_trans HB1.out (bl_trans HB4.out HB47.out))).mono ?_
                      rintro e w10 ⟨rfl, hb10⟩
                      have HB10 := hide (bl_trans HB1.out (bl_trans HB4.out (bl_trans HB47.out hb10)))
                      clear hb10
                      go_wp2
                      go_ret
                      exact ⟨rfl, HB10.out⟩
                    case pos =>
                      exact absurd kL kM
              case pos =>
                have gM : decide (SA.size ≤ 256) = true := decide_eq_true kM
                have gM' : decide ((SA.size : Int) ≤ 256) = true := decide_eq_true (by omega)
                rw [FAB.out kA kB kT kM] at HSXY
                clear kT
                obtain ⟨c0, c1, c2, c3, c4, c5, c6, c7⟩ := cx_8 (cx_below HCX.out (bl_trans HB4.out HB47.out)) XR.out XK.out
                obtain ⟨d0, d1, d2, d3, d4, d5, d6, d7⟩ := cx_8 (cx_below HCY.out (bl_trans HB4.out HB47.out)) YR.out YK.out
                go_wp2_with fail
                refine (HSXY.out _ (bl_trans HB4.out HB47.out)).mono ?_
                rintro e w8 ⟨rfl, hb8⟩
                have HB48 := hide (bl_trans HB47.out hb8)
                clear hb8
                clear c0 c1 c2 c3 c4 c5 c6 c7 d0 d1 d2 d3 d4 d5 d6 d7
                by_cases kn : n = 0
                case neg =>
                  have kn' : (n == 0) = false := by first | (rw [beq_iff_eq]; exact kn) | (rw [Bool.eq_false_iff]; intro q; exact kn (beq_iff_eq.1 q))
                  go_wp2_with fail
                  refine (HAW.out _ (bl_trans HB1.out (bl_trans HB4.out HB48.out))).mono ?_
                  rintro e w10 ⟨rfl, hb10⟩
                  have HB10 := hide (bl_trans HB1.out (bl_trans HB4.out (bl_trans HB48.out hb10)))
                  clear hb10
                  go_wp2
                  go_ret
                  exact ⟨rfl, HB10.out⟩
                case pos =>
                  have kC := FC.out kn
                  have kn' : (n == 0) = true := by first | (rw [beq_iff_eq]; exact kn) | (rw [Bool.eq_false_iff]; intro q; exact kn (beq_iff_eq.1 q))
                  have kC' : (nC == 0) = true := by first | (rw [beq_iff_eq]; exact kC) | (rw [Bool.eq_false_iff]; intro q; exact kC (beq_iff_eq.1 q))
                  by_cases kS : SA = SC
                  case neg =>
                    have gS : (SA.toList == SC.toList) = false := by rw [Bool.eq_false_iff]; intro q; exact kS ((tl_iff _ _).1 (beq_iff_eq.1 q))
                    go_wp2_with fail
                    refine (HAW.out _ (bl_trans HB1.out (bl_trans HB4.out HB48.out))).mono ?_
                    rintro e w10 ⟨rfl, hb10⟩
                    have HB10 := hide (bl_trans HB1.out (bl_trans HB4.out (bl_trans HB48.out hb10)))
                    clear hb10
                    go_wp2
                    go_ret
                    exact ⟨rfl, HB10.out⟩
                  case pos =>
                    have gS : (SA.toList == SC.toList) = true := by rw [kS]; simp
                    by_cases kL : SA.size ≤ 256
                    case neg =>
                      exact absurd kM kL
                    case pos =>
                      have gL : decide (SA.size ≤ 256) = true := decide_eq_true kL
                      have gL' : decide ((SA.size : Int) ≤ 256) = true := decide_eq_true (by omega)
                      rw [FAC.out kA kn kS kL] at HSXZ
                      clear kS
                      obtain ⟨c0, c1, c2, c3, c4, c5, c6, c7⟩ := cx_8 (cx_below HCX.out (bl_trans HB4.out HB48.out)) XR.out XK.out
                      obtain ⟨e0, e1, e2, e3, e4, e5, e6, e7⟩ := cx_8 (cx_below HCZ.out HB48.out) ZR.out ZK.out
                      go_wp2_with fail
                      refine (HSXZ.out _ HB48.out).mono ?_
                      rintro e w9 ⟨rfl, hb9⟩
                      have HB49 := hide (bl_trans HB48.out hb9)
                      clear hb9
                      clear c0 c1 c2 c3 c4 c5 c6 c7 e0 e1 e2 e3 e4 e5 e6 e7
                      go_wp2_with fail
                      refine (HAW.out _ (bl_trans HB1.out (bl_trans HB4.out HB49.out))).mono ?_
                      rintro e w10 ⟨rfl, hb10⟩
                      have HB10 := hide (bl_trans HB1.out (bl_trans HB4.out (bl_trans HB49.out hb10)))
                      clear hb10
                      go_wp2
                      go_ret
                      exact ⟨rfl, HB10.out⟩

set_option maxRecDepth 100000 in
theorem lifted (os : Os) (started : os.Started) (H : Type) (enc : TypeId × Value → H) :
    ReturnsInHanded {} Tryz.checked os 5 .any (fun w args => (Rows.showUnlikeSpec.pre enc Tryz.prog Tryz.f5 Rows.showUnlikeRow.domain false w args ∧ laidMetH Tryz.prog Rows.showUnlikeRow.laid w) ∧ sizedMet enc Tryz.prog Tryz.f5 (OpenSpec.ofChange Rows.showUnlikeSpec) false w args) (Rows.showUnlikeSpec.post enc Tryz.prog Tryz.f5 false true false false) := by
  refine returnsInHanded_of_change_and (C := Tryz.checked) (X := fun w _ => laidMetH Tryz.prog Rows.showUnlikeRow.laid w) (fun _ _ _ hh h => h.of_heap hh) own started (by kernel_rfl) Tryz.func5
    (ChangeSpec.witness_shaped (enc := enc) (C := Tryz.checked) (os := os) (X := fun w _ => laidMetH Tryz.prog Rows.showUnlikeRow.laid w) false (World.laidAll Tryz.prog os Rows.showUnlikeRow.laid) #[.agg #[.int .i64 0, .string ByteArray.empty, .bool false, .slice none 0 0, .int .i64 0, .int .i64 0, .bool false, .slice none 0 0], .agg #[.int .i64 0, .string ByteArray.empty, .bool false, .slice none 0 0, .int .i64 0, .int .i64 0, .bool false, .slice none 0 0], .string ByteArray.empty] 8 (World.laidAll_os _ _ _)
      (World.shaped_of_ZipB (by kernel_rfl) (by kernel_rfl)) (by kernel_rfl) (by kernel_rfl) (by kernel_rfl)
      (by rw [MakeChecks.laidMetH_plain _ _ _ (by kernel_rfl)]; exact laidMet_laidAll _ (by kernel_rfl) (by kernel_rfl))) ?_
  intro W base args ds gs before hval0 hW hcnd _ hL _
  have hval : ∀ (j : Nat) t v, Tryz.f5.params[j]? = some t → args[j]? = some v → Value.okWide Tryz.prog W .any base t v := hval0
  have hW' := hW
  obtain ⟨p, q, hA0, hV, rfl, hfz, hnd⟩ := hW
  have hA : DataW.TrodAll enc Tryz.prog W 0 (fun _ => true) true Tryz.f5.params.toList args.toList ds p := hA0
  rw [Tryz.params5] at hA hval
  obtain ⟨v0, vs0, d0, ds0, p0, q0, hargs, rfl, rfl, h0, r0⟩ := trodAll_cons hA
  obtain ⟨v1, vs1, d1, ds1, p1, q1, rfl, rfl, rfl, h1, r1⟩ := trodAll_cons r0
  obtain ⟨v2, vs2, d2, ds2, p2, q2, rfl, rfl, rfl, h2, r2⟩ := trodAll_cons r1
  obtain ⟨rfl, rfl, rfl⟩ := trodAll_nil r2
  obtain rfl : args = #[v0, v1, v2] := by cases args; simp_all
  obtain ⟨rfl, rfl⟩ := trodVars_none hV
  have k0 := h0
  have lt0 : ∀ x ∈ p0, x.block < W.heap.size := by obtain ⟨m, hm⟩ := k0; exact DataW.trod_lt m _ _ _ hm
  obtain ⟨t0, rfl, w0, b0⟩ := open_rx (hval 0 25 v0 rfl rfl) h0
  have k1 := h1
  have lt1 : ∀ x ∈ p1, x.block < W.heap.size := by obtain ⟨m, hm⟩ := k1; exact DataW.trod_lt m _ _ _ hm
  obtain ⟨t1, rfl, w1, b1⟩ := open_rx (hval 1 25 v1 rfl rfl) h1
  have k2 := h2
  have lt2 : ∀ x ∈ p2, x.block < W.heap.size := by obtain ⟨m, hm⟩ := k2; exact DataW.trod_lt m _ _ _ hm
  obtain ⟨a2, rfl, hd2, hp2, w2⟩ := open_string Tryz.underlying9 (hval 2 9 v2 rfl rfl) h2
  clear hA0 hval0
  refine (walk t0 t1 a2 W w0 b0 w1 b1 w2 hL).mono fun e W' ⟨he, bel⟩ => ?_
  subst he
  exact ⟨_, rfl, _, _, _, [], _, [], hW', trodAll_mk1 (shut_bool Tryz.underlying4 _), (trodAll_cons_mk (Below.trod laidOut (by kernel_rfl) (of_decide_eq_true (by kernel_rfl)) k0 bel lt0) (trodAll_cons_mk (Below.trod laidOut (by kernel_rfl) (of_decide_eq_true (by kernel_rfl)) k1 bel lt1) (trodAll_cons_mk (Below.trod laidOut (by kernel_rfl) (of_decide_eq_true (by kernel_rfl)) k2 bel lt2) trodAll_mk0))), rfl, bel.frame _, fun h => by cases h⟩

theorem over : Rows.showUnlikeRow.holds Tryz.pinned (OpenSpec.ofChange Rows.showUnlikeSpec) :=
  OpenClaim.holds_of_wide 5 Tryz.f5 rfl rfl rfl rfl rfl rfl rfl ⟨rfl, rfl, rfl, rfl, rfl⟩ rfl rfl rfl rfl rfl (by kernel_rfl) Tryz.func5 (by kernel_rfl)
    (of_decide_eq_true (by kernel_rfl)) (by unfold Func.isWrapper; first | (rw [if_pos (by decide +kernel)]; kernel_rfl) | (rw [if_neg (by decide +kernel)]; exact ⟨rfl, rfl⟩))
    (fun os started H enc _ => lifted os started H enc)

set_option maxRecDepth 100000 in
theorem proved : Rows.ShowUnlikeCardSaid :=
  Claim7.holds_tied_plain_at .later [] [.data, .data, .data] true (true, "0b14b1e7891513a005332d515165d8773ecaaafd2dcfb3e3ccda27e83b91e4a8") false
    over (fun _ h => by cases h) (by kernel_rfl) (fun _ h => by cases h) showUnlike_row_tie rfl ⟨rfl, rfl⟩ (by kernel_rfl) rfl
    (fun f fn hf hfn => by
      obtain rfl : f = 5 := Option.some.inj ((show Tryz.prog.funcNamed "gimlet/gimletlaw15.ShowUnlike" = some 5 by kernel_rfl).symm.trans hf) |>.symm
      obtain rfl : fn = Tryz.f5 := (Option.some.inj (Tryz.func5.symm.trans hfn)).symm
      refine ⟨by kernel_rfl, fun j t ht => ?_⟩
      rw [Tryz.params5] at ht
      have hm := Array.mem_of_getElem? ht
      simp at hm
      first
        | (rcases hm with rfl <;> first  | exact (show Tryz.prog.wantsStandIn 9 = false by kernel_rfl) | exact (show Tryz.prog.wantsStandIn 25 = false by kernel_rfl))
        | (rcases hm with rfl | rfl <;> first  | exact (show Tryz.prog.wantsStandIn 9 = false by kernel_rfl) | exact (show Tryz.prog.wantsStandIn 25 = false by kernel_rfl))
        | (rcases hm with rfl | rfl | rfl <;> first  | exact (show Tryz.prog.wantsStandIn 9 = false by kernel_rfl) | exact (show Tryz.prog.wantsStandIn 25 = false by kernel_rfl)))
    (by kernel_rfl)
end Go.Proofs.YtmacpmblodhcpaaGreatDoor.showUnlike
