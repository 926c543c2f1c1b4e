/- Contract: rxtree.mayKids. No condition. -/
import Derived.Test.YtcgphknnnjpbkaaRyA
namespace Go.Proofs.Ytcgphknnnjpbkaa
open Go.ChangeShapes Go.WideShapes Go.ChangeAt Go.RowKit
open SetM
attribute [local go_sem ↓] Go.wp_at_zero Go.wp_at_succ
set_option maxRecDepth 100000
set_option linter.unusedVariables false
def mkB (k : Int) (l : List Rt) : Bool :=
  if k = 0 then !decide (l.length = 1) && l.all (fun t => seqkB t.k)
  else if k = 1 then decide (2 ≤ l.length) && l.all (fun t => altkB t.k)
  else if k = 5 ∨ k = 6 then decide (l.length = 1)
  else if k = 7 then decide (l.length = 1) && l.all (fun t => atomB t.k)
  else if k = 2 ∨ k = 3 ∨ k = 4 ∨ k = 8 ∨ k = 9 ∨ k = 10 ∨ k = 11 then decide (l.length = 0)
  else false
set_option maxHeartbeats 16000000 in
theorem maykids_any {w0 : World} {t : Rt} (h : RxAt w0 t) (w : World) (hb0 : Below w0.heap.size w0 w) : Calls Try.prog 53 #[t.v] w (SmPost (mkB t.k t.kids) w) := by
  have hk := ksat_below h.ks hb0
  have HA0 := hide (fun W (hb : Below w.heap.size w W) => allseq_any _ _ W (ksat_below hk hb) (fun i hi => rx_below (h.kid i hi) (bl_trans hb0 hb)))
  have HA1 := hide (fun W (hb : Below w.heap.size w W) => allalt_any _ _ W (ksat_below hk hb) (fun i hi => rx_below (h.kid i hi) (bl_trans hb0 hb)))
  have HA7 := hide (fun W (hb : Below w.heap.size w W) => allatom_any _ _ W (ksat_below hk hb) (fun i hi => rx_below (h.kid i hi) (bl_trans hb0 hb)))
  obtain ⟨A, c, hkv⟩ := ksat_len h.ks
  obtain ⟨RA, rc, hrv⟩ := rwat_len h.rows
  unfold SmPost at *
  rw [show t.v = .agg #[.int .i64 t.k, .string t.ch, .bool t.nt, .slice RA t.rows.length rc, .int .i64 t.mi, .int .i64 t.ma, .bool t.lz, .slice A t.kids.length c] by unfold Rt.v Rt.cs; rw [hkv, hrv]]
  rw [hkv] at HA0 HA1 HA7
  obtain ⟨r, hr⟩ : ∃ r, mkB t.k t.kids = r := ⟨_, rfl⟩
  rw [hr]
  unfold mkB at hr
  generalize (t.kids.all fun t => seqkB t.k) = a0 at *
  generalize (t.kids.all fun t => altkB t.k) = a1 at *
  generalize (t.kids.all fun t => atomB t.k) = a7 at *
  clear h hk hkv hrv hb0
  generalize t.kids.length = n at *
  generalize t.rows.length = m at *
  generalize t.k = k at *
  generalize t.ch = ch at *
  generalize t.nt = nt at *
  generalize t.mi = mi at *
  generalize t.ma = ma at *
  generalize t.lz = lz at *
  have HBA := hide (fun o => bl_alloc (bl_refl w) o)
  by_cases q0 : k = 0
  case pos =>
    subst q0
    by_cases hn : n = 1
    case pos =>
      obtain rfl : r = false := by rw [← hr]; simp [hn]
      have z1 : ((n : Int) == 1) = true := beq_iff_eq.2 (by omega)
      have z2 : ((n : Int) != 1) = false := by rw [bne, z1]; rfl
      clear hr hn
      go_enter Try.func53, Try.ntmps53
      go_wp2
      go_ret
      exact ⟨rfl, HBA.out _⟩
    obtain rfl : r = a0 := by rw [← hr]; simp [hn]
    have z1 : ((n : Int) == 1) = false := beq_eq_false_iff_ne.2 (by omega)
    have z2 : ((n : Int) != 1) = true := by rw [bne, z1]; rfl
    clear hr hn
    go_enter Try.func53, Try.ntmps53
    go_wp2_with fail
    refine (HA0.out _ (HBA.out _)).mono ?_
    rintro e w2 ⟨rfl, hb2⟩
    have HB2 := hide (bl_trans (HBA.out _) hb2)
    clear hb2
    go_wp2
    go_ret
    exact ⟨rfl, HB2.out⟩
  by_cases q1 : k = 1
  case pos =>
    subst q1
    by_cases hn : 2 ≤ n
    case neg =>
      obtain rfl : r = false := by rw [← hr]; simp [hn]
      have z1 : decide ((2 : Int) ≤ (n : Int)) = false := decide_eq_false (by omega)
      have z2 : decide ((n : Int) ≥ 2) = false := z1
      have z3 : decide (2 ≤ n) = false := decide_eq_false hn
      clear hr hn
      go_enter Try.func53, Try.ntmps53
      go_wp2
      go_ret
      exact ⟨rfl, HBA.out _⟩
    obtain rfl : r = a1 := by rw [← hr]; simp [hn]
    have z1 : decide ((2 : Int) ≤ (n : Int)) = true := decide_eq_true (by omega)
    have z2 : decide ((n : Int) ≥ 2) = true := z1
    have z3 : decide (2 ≤ n) = true := decide_eq_true hn
    clear hr hn
    go_enter Try.func53, Try.ntmps53
    go_wp2_with fail
    refine (HA1.out _ (HBA.out _)).mono ?_
    rintro e w2 ⟨rfl, hb2⟩
    have HB2 := hide (bl_trans (HBA.out _) hb2)
    clear hb2
    go_wp2
    go_ret
    exact ⟨rfl, HB2.out⟩
  by_cases q5 : k = 5
  case pos =>
    subst q5
    by_cases hn : n = 1
    case pos =>
      obtain rfl : r = true := by rw [← hr]; simp [hn]
      have z1 : ((n : Int) == 1) = true := beq_iff_eq.2 (by omega)
      have z2 : ((n : Int) != 1) = false := by rw [bne, z1]; rfl
      clear hr hn
      go_enter Try.func53, Try.ntmps53
      go_wp2
      go_ret
      exact ⟨rfl, HBA.out _⟩
    obtain rfl : r = false := by rw [← hr]; simp [hn]
    have z1 : ((n : Int) == 1) = false := beq_eq_false_iff_ne.2 (by omega)
    have z2 : ((n : Int) != 1) = true := by rw [bne, z1]; rfl
    clear hr hn
    go_enter Try.func53, Try.ntmps53
    go_wp2
    go_ret
    exact ⟨rfl, HBA.out _⟩
  by_cases q6 : k = 6
  case pos =>
    subst q6
    by_cases hn : n = 1
    case pos =>
      obtain rfl : r = true := by rw [← hr]; simp [hn]
      have z1 : ((n : Int) == 1) = true := beq_iff_eq.2 (by omega)
      have z2 : ((n : Int) != 1) = false := by rw [bne, z1]; rfl
      clear hr hn
      go_enter Try.func53, Try.ntmps53
      go_wp2
      go_ret
      exact ⟨rfl, HBA.out _⟩
    obtain rfl : r = false := by rw [← hr]; simp [hn]
    have z1 : ((n : Int) == 1) = false := beq_eq_false_iff_ne.2 (by omega)
    have z2 : ((n : Int) != 1) = true := by rw [bne, z1]; rfl
    clear hr hn
    go_enter Try.func53, Try.ntmps53
    go_wp2
    go_ret
    exact ⟨rfl, HBA.out _⟩
  by_cases q7 : k = 7
  case pos =>
    subst q7
    by_cases hn : n = 1
    case neg =>
      obtain rfl : r = false := by rw [← hr]; simp [hn]
      have z1 : ((n : Int) == 1) = false := beq_eq_false_iff_ne.2 (by omega)
      have z2 : ((n : Int) != 1) = true := by rw [bne, z1]; rfl
      clear hr hn
      go_enter Try.func53, Try.ntmps53
      go_wp2
      go_ret
      exact ⟨rfl, HBA.out _⟩
    obtain rfl : r = a7 := by rw [← hr]; simp [hn]
    have z1 : ((n : Int) == 1) = true := beq_iff_eq.2 (by omega)
    have z2 : ((n : Int) != 1) = false := by rw [bne, z1]; rfl
    clear hr hn
    go_enter Try.func53, Try.ntmps53
    go_wp2_with fail
    refine (HA7.out _ (HBA.out _)).mono ?_
    rintro e w2 ⟨rfl, hb2⟩
    have HB2 := hide (bl_trans (HBA.out _) hb2)
    clear hb2
    go_wp2
    go_ret
    exact ⟨rfl, HB2.out⟩
  by_cases q2 : k = 2
  case pos =>
    subst q2
    by_cases hn : n = 0
    case pos =>
      obtain rfl : r = true := by rw [← hr]; simp [hn]
      have z1 : ((n : Int) == 0) = true := beq_iff_eq.2 (by omega)
      clear hr hn
      go_enter Try.func53, Try.ntmps53
      go_wp2
      go_ret
      exact ⟨rfl, HBA.out _⟩
    obtain rfl : r = false := by rw [← hr]; simp [hn]
    have z1 : ((n : Int) == 0) = false := beq_eq_false_iff_ne.2 (by omega)
    clear hr hn
    go_enter Try.func53, Try.ntmps53
    go_wp2
    go_ret
    exact ⟨rfl, HBA.out _⟩
  by_cases q3 : k = 3
  case pos =>
    subst q3
    by_cases hn : n = 0
    case pos =>
      obtain rfl : r = true := by rw [← hr]; simp [hn]
      have z1 : ((n : Int) == 0) = true := beq_iff_eq.2 (by omega)
      clear hr hn
      go_enter Try.func53, Try.ntmps53
      go_wp2
      go_ret
      exact ⟨rfl, HBA.out _⟩
    obtain rfl : r = false := by rw [← hr]; simp [hn]
    have z1 : ((n : Int) == 0) = false := beq_eq_false_iff_ne.2 (by omega)
    clear hr hn
    go_enter Try.func53, Try.ntmps53
    go_wp2
    go_ret
    exact ⟨rfl, HBA.out _⟩
  by_cases q4 : k = 4
  case pos =>
    subst q4
    by_cases hn : n = 0
    case pos =>
      obtain rfl : r = true := by rw [← hr]; simp [hn]
      have z1 : ((n : Int) == 0) = true := beq_iff_eq.2 (by omega)
      clear hr hn
      go_enter Try.func53, Try.ntmps53
      go_wp2
      go_ret
      exact ⟨rfl, HBA.out _⟩
    obtain rfl : r = false := by rw [← hr]; simp [hn]
    have z1 : ((n : Int) == 0) = false := beq_eq_false_iff_ne.2 (by omega)
    clear hr hn
    go_enter Try.func53, Try.ntmps53
    go_wp2
    go_ret
    exact ⟨rfl, HBA.out _⟩
  by_cases q8 : k = 8
  case pos =>
    subst q8
    by_cases hn : n = 0
    case pos =>
      obtain rfl : r = true := by rw [← hr]; simp [hn]
      have z1 : ((n : Int) == 0) = true := beq_iff_eq.2 (by omega)
      clear hr hn
      go_enter Try.func53, Try.ntmps53
      go_wp2
      go_ret
      exact ⟨rfl, HBA.out _⟩
    obtain rfl : r = false := by rw [← hr]; simp [hn]
    have z1 : ((n : Int) == 0) = false := beq_eq_false_iff_ne.2 (by omega)
    clear hr hn
    go_enter Try.func53, Try.ntmps53
    go_wp2
    go_ret
    exact ⟨rfl, HBA.out _⟩
  by_cases q9 : k = 9
  case pos =>
    subst q9
    by_cases hn : n = 0
    case pos =>
      obtain rfl : r = true := by rw [← hr]; simp [hn]
      have z1 : ((n : Int) == 0) = true := beq_iff_eq.2 (by omega)
      clear hr hn
      go_enter Try.func53, Try.ntmps53
      go_wp2
      go_ret
      exact ⟨rfl, HBA.out _⟩
    obtain rfl : r = false := by rw [← hr]; simp [hn]
    have z1 : ((n : Int) == 0) = false := beq_eq_false_iff_ne.2 (by omega)
    clear hr hn
    go_enter Try.func53, Try.ntmps53
    go_wp2
    go_ret
    exact ⟨rfl, HBA.out _⟩
  by_cases q10 : k = 10
  case pos =>
    subst q10
    by_cases hn : n = 0
    case pos =>
      obtain rfl : r = true := by rw [← hr]; simp [hn]
      have z1 : ((n : Int) == 0) = true := beq_iff_eq.2 (by omega)
      clear hr hn
      go_enter Try.func53, Try.ntmps53
      go_wp2
      go_ret
      exact ⟨rfl, HBA.out _⟩
    obtain rfl : r = false := by rw [← hr]; simp [hn]
    have z1 : ((n : Int) == 0) = false := beq_eq_false_iff_ne.2 (by omega)
    clear hr hn
    go_enter Try.func53, Try.ntmps53
    go_wp2
    go_ret
    exact ⟨rfl, HBA.out _⟩
  by_cases q11 : k = 11
  case pos =>
    subst q11
    by_cases hn : n = 0
    case pos =>
      obtain rfl : r = true := by rw [← hr]; simp [hn]
      have z1 : ((n : Int) == 0) = true := beq_iff_eq.2 (by omega)
      clear hr hn
      go_enter Try.func53, Try.ntmps53
      go_wp2
      go_ret
      exact ⟨rfl, HBA.out _⟩
    obtain rfl : r = false := by rw [← hr]; simp [hn]
    have z1 : ((n : Int) == 0) = false := beq_eq_false_iff_ne.2 (by omega)
    clear hr hn
    go_enter Try.func53, Try.ntmps53
    go_wp2
    go_ret
    exact ⟨rfl, HBA.out _⟩
  obtain rfl : r = false := by rw [← hr]; simp [q0, q1, q5, q6, q7, q2, q3, q4, q8, q9, q10, q11]
  have y0 : (k == 0) = false := beq_eq_false_iff_ne.2 q0
  have y1 : (k == 1) = false := beq_eq_false_iff_ne.2 q1
  have y5 : (k == 5) = false := beq_eq_false_iff_ne.2 q5
  have y6 : (k == 6) = false := beq_eq_false_iff_ne.2 q6
  have y7 : (k == 7) = false := beq_eq_false_iff_ne.2 q7
  have y2 : (k == 2) = false := beq_eq_false_iff_ne.2 q2
  have y3 : (k == 3) = false := beq_eq_false_iff_ne.2 q3
  have y4 : (k == 4) = false := beq_eq_false_iff_ne.2 q4
  have y8 : (k == 8) = false := beq_eq_false_iff_ne.2 q8
  have y9 : (k == 9) = false := beq_eq_false_iff_ne.2 q9
  have y10 : (k == 10) = false := beq_eq_false_iff_ne.2 q10
  have y11 : (k == 11) = false := beq_eq_false_iff_ne.2 q11
  clear hr q0 q1 q5 q6 q7 q2 q3 q4 q8 q9 q10 q11
  go_enter Try.func53, Try.ntmps53
  go_wp2
  go_ret
  exact ⟨rfl, HBA.out _⟩
end Go.Proofs.Ytcgphknnnjpbkaa
