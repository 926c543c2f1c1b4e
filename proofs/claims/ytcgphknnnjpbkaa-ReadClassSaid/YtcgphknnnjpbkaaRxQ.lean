/- Contracts: slices.EqualFunc over trees, deep.SameRx, rxtree.Same. No condition. -/
import Derived.Test.YtcgphknnnjpbkaaRxS
namespace Go.Proofs.Ytcgphknnnjpbkaa
open Go.ChangeShapes Go.WideShapes Go.ChangeAt Go.RowKit
open SetM
attribute [local go_sem ↓] Go.wp_at_zero Go.wp_at_succ
set_option maxRecDepth 100000
set_option linter.unusedVariables false
def SmPost (b : Bool) (w : World) : Ending → World → Prop := fun e w' => e = .returned (.bool b) ∧ Below w.heap.size w w'
set_option maxHeartbeats 4000000 in
theorem eqfunc_any (v u : Value) (l m : List Rt) (w0 : World) (h : KsAt w0 v l) (g : KsAt w0 u m) (hx : ∀ i (hi : i < l.length), RxAt w0 l[i]) (gx : ∀ i (hi : i < m.length), RxAt w0 m[i])
    (HF : ∀ i (hi : i < l.length) (gi : i < m.length) W, Below w0.heap.size w0 W → Calls Try.prog 33 #[l[i].v, m[i].v] W (SmPost (sameM l[i] m[i]) W)) (w : World) (hb0 : Below w0.heap.size w0 w) :
    Calls Try.prog 51 #[v, u, .func (.func 33) #[] #[]] w (SmPost (sameL l m) w) := by
  unfold SmPost at *
  obtain ⟨a, c, rfl⟩ := ksat_len h
  obtain ⟨b, d, rfl⟩ := ksat_len g
  obtain ⟨r, hr⟩ : ∃ r, sameL l m = r := ⟨_, rfl⟩
  have HRR := hide hr
  rw [hr]
  clear hr
  by_cases hlen : l.length = m.length
  · have e1 : ((l.length : Int) != (m.length : Int)) = false := by simp [hlen]
    have HL := hide hlen
    have HK := hide h
    have GK := hide g
    have HX := hide hx
    have GX := hide gx
    have HF2 := hide HF
    have HB0 := hide hb0
    have hlen' : l.length ≤ m.length := by omega
    clear h g hx gx HF hb0 hlen
    go_enter Try.func51, Try.ntmps51
    go_wp2
    go_loopw [17] (fun i wr => ∃ j : Nat, j ≤ l.length ∧ i = .int .i64 j ∧ Hid (sameL (l.take j) (m.take j) = true) ∧ Hid (Below w.heap.size w wr))
      (fun i _ => l.length - (intOf i).toNat)
    case atStart => exact ⟨0, Nat.zero_le _, rfl, hide (by simp [sameL]), hide (bl_refl w)⟩
    case round =>
      obtain ⟨j, hj, rfl, HT, HBL⟩ := hrel
      by_cases hlt : j < l.length
      · have HBW := hide (bl_trans HB0.out HBL.out)
        obtain ⟨b1, o1, c1, hv1, hc1, hm1, hlb1, hcell1⟩ := ksat_8 (ksat_below HK.out HBW.out) (by omega)
        obtain ⟨b2, o2, c2, hv2, hc2, hm2, hlb2, hcell2⟩ := ksat_8 (ksat_below GK.out HBW.out) (by omega)
        injection hv1 with hv1 _ hv1c
        injection hv2 with hv2 _ hv2c
        subst hv1 hv1c hv2 hv2c
        unfold maxLen at hm1 hm2
        have hlt2 : j < m.length := by omega
        obtain ⟨x0, x1, x2, x3, x4, x5, x6, x7⟩ := hcell1 j hlt
        obtain ⟨y0, y1, y2, y3, y4, y5, y6, y7⟩ := hcell2 j hlt2
        have HC := fun W hb => HF2.out j hlt hlt2 W hb
        have hrx := HX.out j hlt
        have grx := GX.out j hlt2
        have HS := hide (fun e => sameL_succ l m j hlt hlt2 HT.out e)
        have HN := hide (fun e => sameL_at l m j hlt hlt2 e)
        clear hcell1 hcell2
        obtain ⟨p, hp⟩ : ∃ p, l[j] = p := ⟨_, rfl⟩
        obtain ⟨q, hq⟩ : ∃ q, m[j] = q := ⟨_, rfl⟩
        rw [hp] at x0 x1 x2 x3 x4 x5 x6 x7 HC hrx HS HN
        rw [hq] at y0 y1 y2 y3 y4 y5 y6 y7 HC grx HS HN
        obtain ⟨rA, rc, hrv⟩ := rwat_len hrx.rows
        obtain ⟨kA, kc, hkv⟩ := ksat_len hrx.ks
        obtain ⟨rA', rc', hrv'⟩ := rwat_len grx.rows
        obtain ⟨kA', kc', hkv'⟩ := ksat_len grx.ks
        rw [hrv] at x3
        rw [hkv] at x7
        rw [hrv'] at y3
        rw [hkv'] at y7
        unfold Rt.v Rt.cs at HC
        rw [hrv, hkv, hrv', hkv'] at HC
        have HC2 := hide HC
        have i1 : (0 : Int) ≤ (j : Int) := by omega
        have i2 : (j : Int) < (l.length : Int) := by omega
        have i3 : (j : Int) < (m.length : Int) := by omega
        have gl : decide ((j : Int) < (l.length : Int)) = true := decide_eq_true i2
        have gl' : decide (j < l.length) = true := decide_eq_true hlt
        have e5 : IntKind.i64.wrap ((j : Int) + 1) = (j : Int) + 1 := by rw [IntKind.wrap_i64]; omega
        obtain ⟨s, hs⟩ : ∃ s, sameM p q = s := ⟨_, rfl⟩
        rw [hs] at HC2 HS HN
        clear hp hq hrx grx hrv hkv hrv' hkv' HC HT hs
        have hba1 := bl_alloc (bl_refl wr) (.cells #[.int .i64 p.k, .string p.ch, .bool p.nt, .slice rA p.rows.length rc, .int .i64 p.mi, .int .i64 p.ma, .bool p.lz, .slice kA p.kids.length kc] 26)
        have hba2 := bl_alloc hba1 (.cells #[.int .i64 q.k, .string q.ch, .bool q.nt, .slice rA' q.rows.length rc', .int .i64 q.mi, .int .i64 q.ma, .bool q.lz, .slice kA' q.kids.length kc'] 26)
        have HBC := hide (bl_trans HBL.out hba2)
        have HBD := hide (bl_trans HB0.out HBC.out)
        clear hba1 hba2
        cases s with
        | true =>
          have HS2 := hide (HS.out rfl)
          clear HS HN
          go_wp2_with fail
          refine (HC2.out _ HBD.out).mono ?_
          rintro e w2 ⟨rfl, hb2⟩
          have HB3 := hide (bl_trans HBC.out hb2)
          clear hb2 x0 x1 x2 x3 x4 x5 x6 x7 y0 y1 y2 y3 y4 y5 y6 y7
          go_wp2
          refine ⟨?_, by first | (simp [intOf]; done) | (simp [intOf]; omega)⟩
          first
            | exact ⟨j + 1, by omega, by go_num, HS2, HB3⟩
            | ((repeat apply Exists.intro); exact ⟨⟨j + 1, by omega, by go_num, HS2, HB3⟩, rfl⟩)
        | false =>
          have HN2 := hide (show r = false by
            cases r with
            | true => exact (HN.out HRR.out).symm
            | false => rfl)
          clear HS HN
          go_wp2_with fail
          refine (HC2.out _ HBD.out).mono ?_
          rintro e w2 ⟨rfl, hb2⟩
          have HB3 := hide (bl_trans HBC.out hb2)
          clear hb2 x0 x1 x2 x3 x4 x5 x6 x7 y0 y1 y2 y3 y4 y5 y6 y7
          go_wp2
          go_ret
          exact ⟨ret_bool HN2.out.symm, HB3.out⟩
      · obtain rfl : j = l.length := by omega
        have hj := HT.out
        rw [List.take_length, HL.out, List.take_length] at hj
        have HE := hide (show r = true by rw [← HRR.out]; exact hj)
        have gl : decide ((l.length : Int) < (l.length : Int)) = false := by simp
        have gl' : decide (l.length < l.length) = false := by simp
        clear hj hlt HT
        go_wp2
        go_ret
        exact ⟨ret_bool HE.out.symm, HBL.out⟩
  · have e1 : ((l.length : Int) != (m.length : Int)) = true := by simp; omega
    have hne : r = false := by
      cases r with
      | true => exact absurd (sameL_len _ _ HRR.out) hlen
      | false => rfl
    subst hne
    clear h g hx gx HF hb0 HRR
    go_enter Try.func51, Try.ntmps51
    go_wp2
    go_ret
    exact ⟨rfl, bl_refl w⟩
end Go.Proofs.Ytcgphknnnjpbkaa
