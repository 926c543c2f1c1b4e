/- Contract: gimletref13.repeat. No condition. -/
import Derived.Test.YtmfaeonlmfejdaaRyB
namespace Go.Proofs.Ytmfaeonlmfejdaa
open Go.ChangeShapes Go.WideShapes Go.ChangeAt Go.RowKit
open SetM
attribute [local go_sem ↓] Go.wp_at_zero Go.wp_at_succ
set_option maxRecDepth 100000
set_option linter.unusedVariables false
set_option linter.unusedSimpArgs false
def repB (n : Nat) (mi ma : Int) (q : Bool) : Bool := decide (n = 1) && decide (0 ≤ mi) && decide (mi ≤ 255) && decide (ma = -1 ∨ (mi ≤ ma ∧ ma ≤ 255)) && q
theorem headD_get (l : List Rt) (h : 0 < l.length) : l[0] = l.headD rt0 := by
  cases l with
  | nil => cases h
  | cons a r => rfl
set_option maxHeartbeats 16000000 in
theorem repeat_any {w0 : World} {t : Rt} (h : RxAt w0 t) (w : World) (hb0 : Below w0.heap.size w0 w) : Calls Try.prog 41 #[t.v] w (SmPost (repB t.kids.length t.mi t.ma (bareB t.ch t.nt t.rows.length 0 0 false && atomB (t.kids.headD rt0).k)) w) := by
  have hk := ksat_below h.ks hb0
  obtain ⟨A, c, hkv⟩ := ksat_len h.ks
  obtain ⟨RA, rc, hrv⟩ := rwat_len h.rows
  have HK0 := hide (show t.kids.length = 1 → ∃ b o d, A = some ⟨b, o, none⟩ ∧ b < w.heap.size ∧ 1 ≤ c ∧ c ≤ maxLen ∧ w.cell? ⟨b, o, none⟩ = some (.int .i64 (t.kids.headD rt0).k) from fun hn => by
    obtain ⟨b, o, d, e, h1, h2, h3, h4⟩ := ksat_8 hk (by omega)
    rw [hkv] at e
    injection e with e1 e2 e3
    have h5 := (h4 0 (by omega)).1
    have h6 := headD_get t.kids (by omega)
    refine ⟨b, o, d, e1, h3, by omega, by omega, ?_⟩
    rw [← h6]
    simpa using h5)
  obtain ⟨r2, hr2⟩ : ∃ r, bareB t.ch t.nt t.rows.length 0 0 false = r := ⟨_, rfl⟩
  have HBR := hide (fun W => bare_any t.k 0 0 t.ch t.nt false RA A t.rows.length rc t.kids.length c r2 hr2 W)
  unfold SmPost at *
  rw [show t.v = .agg #[.int .i64 t.k, .string t.ch, .bool t.nt, .slice RA t.rows.length rc, .int .i64 t.mi, .int .i64 t.ma, .bool t.lz, .slice A t.kids.length c] by unfold Rt.v Rt.cs; rw [hkv, hrv]]
  rw [hr2]
  generalize (t.kids.headD rt0).k = k0 at *
  obtain ⟨r, hr⟩ : ∃ r, repB t.kids.length t.mi t.ma (r2 && atomB k0) = r := ⟨_, rfl⟩
  rw [hr]
  unfold repB at hr
  clear h hk hkv hrv hb0 hr2
  generalize t.kids.length = n at *
  generalize t.rows.length = m at *
  generalize t.k = k at *
  generalize t.ch = ch at *
  generalize t.nt = nt at *
  generalize t.mi = mi at *
  generalize t.ma = ma at *
  generalize t.lz = lz at *
  have HBA := hide (fun o => bl_alloc (bl_refl w) o)
  by_cases qn : n = 1
  case neg =>
    obtain rfl : r = false := by rw [← hr]; simp; omega
    have z1 : ((n : Int) == 1) = false := beq_eq_false_iff_ne.2 (by omega)
    have z2 : ((n : Int) != 1) = true := by rw [bne, z1]; rfl
    clear hr HK0 qn
    go_enter Try.func41, Try.ntmps41
    go_wp2
    go_ret
    exact ⟨rfl, HBA.out _⟩
  subst qn
  by_cases q1 : 0 ≤ mi
  case neg =>
    obtain rfl : r = false := by rw [← hr]; simp; omega
    have z1 : decide (mi < 0) = true := decide_eq_true (by omega)
    clear hr HK0 q1
    go_enter Try.func41, Try.ntmps41
    go_wp2
    go_ret
    exact ⟨rfl, HBA.out _⟩
  have z1 : decide (mi < 0) = false := decide_eq_false (by omega)
  by_cases q2 : mi ≤ 255
  case neg =>
    obtain rfl : r = false := by rw [← hr]; simp; omega
    have z2 : decide (255 < mi) = true := decide_eq_true (by omega)
    have z3 : decide (mi > 255) = true := z2
    clear hr HK0 q1 q2
    go_enter Try.func41, Try.ntmps41
    go_wp2
    go_ret
    exact ⟨rfl, HBA.out _⟩
  have z2 : decide (255 < mi) = false := decide_eq_false (by omega)
  have z3 : decide (mi > 255) = false := z2
  obtain ⟨b, of, d, rfl, hlb, hc1, hc2, hcell⟩ := HK0.out rfl
  unfold maxLen at hc2
  clear HK0
  by_cases q3 : ma = -1
  case pos =>
    subst q3
    have hr3 : r = (r2 && atomB k0) := by rw [← hr]; simp; omega
    clear hr q1 q2
    cases r2 with
    | false =>
      obtain rfl : r = false := by rw [hr3]; rfl
      clear hr3
      go_enter Try.func41, Try.ntmps41
      go_wp2_with fail
      refine (HBR.out _).mono ?_
      rintro e w2 ⟨rfl, hb2⟩
      have HB2 := hide (bl_trans (show Below w.heap.size w _ from by repeat (first | exact HBA.out _ | refine bl_set ?_ (Nat.le_refl _) _)) hb2)
      clear hb2
      go_wp2
      go_ret
      exact ⟨rfl, HB2.out⟩
    | true =>
      by_cases k2 : k0 = 2
      case pos =>
        subst k2
        obtain rfl : r = true := by rw [hr3]; rfl
        clear hr3
        go_enter Try.func41, Try.ntmps41
        go_wp2_with fail
        refine (HBR.out _).mono ?_
        rintro e w2 ⟨rfl, hb2⟩
        have HB2 := hide (bl_trans (show Below w.heap.size w _ from by repeat (first | exact HBA.out _ | refine bl_set ?_ (Nat.le_refl _) _)) hb2)
        clear hb2
        go_wp2
        go_ret
        exact ⟨rfl, HB2.out⟩
      by_cases k3 : k0 = 3
      case pos =>
        subst k3
        obtain rfl : r = true := by rw [hr3]; rfl
        clear hr3
        go_enter Try.func41, Try.ntmps41
        go_wp2_with fail
        refine (HBR.out _).mono ?_
        rintro e w2 ⟨rfl, hb2⟩
        have HB2 := hide (bl_trans (show Below w.heap.size w _ from by repeat (first | exact HBA.out _ | refine bl_set ?_ (Nat.le_refl _) _)) hb2)
        clear hb2
        go_wp2
        go_ret
        exact ⟨rfl, HB2.out⟩
      by_cases k4 : k0 = 4
      case pos =>
        subst k4
        obtain rfl : r = true := by rw [hr3]; rfl
        clear hr3
        go_enter Try.func41, Try.ntmps41
        go_wp2_with fail
        refine (HBR.out _).mono ?_
        rintro e w2 ⟨rfl, hb2⟩
        have HB2 := hide (bl_trans (show Below w.heap.size w _ from by repeat (first | exact HBA.out _ | refine bl_set ?_ (Nat.le_refl _) _)) hb2)
        clear hb2
        go_wp2
        go_ret
        exact ⟨rfl, HB2.out⟩
      by_cases k5 : k0 = 5
      case pos =>
        subst k5
        obtain rfl : r = true := by rw [hr3]; rfl
        clear hr3
        go_enter Try.func41, Try.ntmps41
        go_wp2_with fail
        refine (HBR.out _).mono ?_
        rintro e w2 ⟨rfl, hb2⟩
        have HB2 := hide (bl_trans (show Below w.heap.size w _ from by repeat (first | exact HBA.out _ | refine bl_set ?_ (Nat.le_refl _) _)) hb2)
        clear hb2
        go_wp2
        go_ret
        exact ⟨rfl, HB2.out⟩
      by_cases k6 : k0 = 6
      case pos =>
        subst k6
        obtain rfl : r = true := by rw [hr3]; rfl
        clear hr3
        go_enter Try.func41, Try.ntmps41
        go_wp2_with fail
        refine (HBR.out _).mono ?_
        rintro e w2 ⟨rfl, hb2⟩
        have HB2 := hide (bl_trans (show Below w.heap.size w _ from by repeat (first | exact HBA.out _ | refine bl_set ?_ (Nat.le_refl _) _)) hb2)
        clear hb2
        go_wp2
        go_ret
        exact ⟨rfl, HB2.out⟩
      obtain rfl : r = false := by rw [hr3]; unfold atomB; simp [k2, k3, k4, k5, k6]
      have y2 : (k0 == 2) = false := beq_eq_false_iff_ne.2 k2
      have y3 : (k0 == 3) = false := beq_eq_false_iff_ne.2 k3
      have y4 : (k0 == 4) = false := beq_eq_false_iff_ne.2 k4
      have y5 : (k0 == 5) = false := beq_eq_false_iff_ne.2 k5
      have y6 : (k0 == 6) = false := beq_eq_false_iff_ne.2 k6
      clear hr3 k2 k3 k4 k5 k6
      go_enter Try.func41, Try.ntmps41
      go_wp2_with fail
      refine (HBR.out _).mono ?_
      rintro e w2 ⟨rfl, hb2⟩
      have HB2 := hide (bl_trans (show Below w.heap.size w _ from by repeat (first | exact HBA.out _ | refine bl_set ?_ (Nat.le_refl _) _)) hb2)
      clear hb2
      go_wp2
      go_ret
      exact ⟨rfl, HB2.out⟩
  have z4 : (ma == -1) = false := beq_eq_false_iff_ne.2 q3
  have z5 : (ma != -1) = true := by rw [bne, z4]; rfl
  by_cases q4 : mi ≤ ma
  case neg =>
    obtain rfl : r = false := by rw [← hr]; simp; omega
    have z6 : decide (ma < mi) = true := decide_eq_true (by omega)
    clear hr q1 q2 q3 q4
    go_enter Try.func41, Try.ntmps41
    go_wp2
    go_ret
    exact ⟨rfl, HBA.out _⟩
  have z6 : decide (ma < mi) = false := decide_eq_false (by omega)
  by_cases q5 : ma ≤ 255
  case neg =>
    obtain rfl : r = false := by rw [← hr]; simp; omega
    have z7 : decide (255 < ma) = true := decide_eq_true (by omega)
    have z8 : decide (ma > 255) = true := z7
    clear hr q1 q2 q3 q4 q5
    go_enter Try.func41, Try.ntmps41
    go_wp2
    go_ret
    exact ⟨rfl, HBA.out _⟩
  have z7 : decide (255 < ma) = false := decide_eq_false (by omega)
  have z8 : decide (ma > 255) = false := z7
  have hr3 : r = (r2 && atomB k0) := by rw [← hr]; simp; omega
  clear hr q1 q2 q3 q4 q5
  cases r2 with
  | false =>
    obtain rfl : r = false := by rw [hr3]; rfl
    clear hr3
    go_enter Try.func41, Try.ntmps41
    go_wp2_with fail
    refine (HBR.out _).mono ?_
    rintro e w2 ⟨rfl, hb2⟩
    have HB2 := hide (bl_trans (show Below w.heap.size w _ from by repeat (first | exact HBA.out _ | refine bl_set ?_ (Nat.le_refl _) _)) hb2)
    clear hb2
    go_wp2
    go_ret
    exact ⟨rfl, HB2.out⟩
  | true =>
    by_cases k2 : k0 = 2
    case pos =>
      subst k2
      obtain rfl : r = true := by rw [hr3]; rfl
      clear hr3
      go_enter Try.func41, Try.ntmps41
      go_wp2_with fail
      refine (HBR.out _).mono ?_
      rintro e w2 ⟨rfl, hb2⟩
      have HB2 := hide (bl_trans (show Below w.heap.size w _ from by repeat (first | exact HBA.out _ | refine bl_set ?_ (Nat.le_refl _) _)) hb2)
      clear hb2
      go_wp2
      go_ret
      exact ⟨rfl, HB2.out⟩
    by_cases k3 : k0 = 3
    case pos =>
      subst k3
      obtain rfl : r = true := by rw [hr3]; rfl
      clear hr3
      go_enter Try.func41, Try.ntmps41
      go_wp2_with fail
      refine (HBR.out _).mono ?_
      rintro e w2 ⟨rfl, hb2⟩
      have HB2 := hide (bl_trans (show Below w.heap.size w _ from by repeat (first | exact HBA.out _ | refine bl_set ?_ (Nat.le_refl _) _)) hb2)
      clear hb2
      go_wp2
      go_ret
      exact ⟨rfl, HB2.out⟩
    by_cases k4 : k0 = 4
    case pos =>
      subst k4
      obtain rfl : r = true := by rw [hr3]; rfl
      clear hr3
      go_enter Try.func41, Try.ntmps41
      go_wp2_with fail
      refine (HBR.out _).mono ?_
      rintro e w2 ⟨rfl, hb2⟩
      have HB2 := hide (bl_trans (show Below w.heap.size w _ from by repeat (first | exact HBA.out _ | refine bl_set ?_ (Nat.le_refl _) _)) hb2)
      clear hb2
      go_wp2
      go_ret
      exact ⟨rfl, HB2.out⟩
    by_cases k5 : k0 = 5
    case pos =>
      subst k5
      obtain rfl : r = true := by rw [hr3]; rfl
      clear hr3
      go_enter Try.func41, Try.ntmps41
      go_wp2_with fail
      refine (HBR.out _).mono ?_
      rintro e w2 ⟨rfl, hb2⟩
      have HB2 := hide (bl_trans (show Below w.heap.size w _ from by repeat (first | exact HBA.out _ | refine bl_set ?_ (Nat.le_refl _) _)) hb2)
      clear hb2
      go_wp2
      go_ret
      exact ⟨rfl, HB2.out⟩
    by_cases k6 : k0 = 6
    case pos =>
      subst k6
      obtain rfl : r = true := by rw [hr3]; rfl
      clear hr3
      go_enter Try.func41, Try.ntmps41
      go_wp2_with fail
      refine (HBR.out _).mono ?_
      rintro e w2 ⟨rfl, hb2⟩
      have HB2 := hide (bl_trans (show Below w.heap.size w _ from by repeat (first | exact HBA.out _ | refine bl_set ?_ (Nat.le_refl _) _)) hb2)
      clear hb2
      go_wp2
      go_ret
      exact ⟨rfl, HB2.out⟩
    obtain rfl : r = false := by rw [hr3]; unfold atomB; simp [k2, k3, k4, k5, k6]
    have y2 : (k0 == 2) = false := beq_eq_false_iff_ne.2 k2
    have y3 : (k0 == 3) = false := beq_eq_false_iff_ne.2 k3
    have y4 : (k0 == 4) = false := beq_eq_false_iff_ne.2 k4
    have y5 : (k0 == 5) = false := beq_eq_false_iff_ne.2 k5
    have y6 : (k0 == 6) = false := beq_eq_false_iff_ne.2 k6
    clear hr3 k2 k3 k4 k5 k6
    go_enter Try.func41, Try.ntmps41
    go_wp2_with fail
    refine (HBR.out _).mono ?_
    rintro e w2 ⟨rfl, hb2⟩
    have HB2 := hide (bl_trans (show Below w.heap.size w _ from by repeat (first | exact HBA.out _ | refine bl_set ?_ (Nat.le_refl _) _)) hb2)
    clear hb2
    go_wp2
    go_ret
    exact ⟨rfl, HB2.out⟩
end Go.Proofs.Ytmfaeonlmfejdaa
