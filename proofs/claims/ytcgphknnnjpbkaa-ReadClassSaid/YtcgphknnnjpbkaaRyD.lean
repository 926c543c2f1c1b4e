/- Contract: rxtree.mayFields. Condition: texts that are not too long. -/
import Derived.Test.YtcgphknnnjpbkaaRyC
import Derived.Test.YtcgphknnnjpbkaaRowI
namespace Go.Proofs.Ytcgphknnnjpbkaa
open Go.ChangeShapes Go.WideShapes Go.ChangeAt Go.RowKit
open SetM
attribute [local go_sem ↓] Go.wp_at_zero Go.wp_at_succ
set_option maxRecDepth 100000
set_option linter.unusedVariables false
set_option linter.unusedSimpArgs false
def rngB (mi ma : Int) : Bool := decide (0 ≤ mi) && decide (mi ≤ 255) && decide (ma = -1 ∨ (mi ≤ ma ∧ ma ≤ 255))
def mfB (k : Int) (ch : ByteArray) (nt : Bool) (rows : List Rw) (mi ma : Int) (lz : Bool) : Bool :=
  if k = 2 then properB ch.data.toList && bareB ⟨#[]⟩ nt rows.length mi ma lz
  else if k = 4 then mayF rows && bareB ch false 0 mi ma lz
  else if k = 7 then rngB mi ma && bareB ch nt rows.length 0 0 false
  else bareB ch nt rows.length mi ma lz
set_option maxHeartbeats 32000000 in
theorem mayfields_any {w0 : World} {t : Rt} (h : RxAt w0 t) (hc : t.ch.size ≤ 100000) (hl : t.rows.length ≤ 100000) (hsh : ∀ s ∈ t.rows, Short s) (w : World) (hb0 : Below w0.heap.size w0 w) : Calls Try.prog 52 #[t.v] w (SmPost (mfB t.k t.ch t.nt t.rows t.mi t.ma t.lz) w) := by
  obtain ⟨A, c, hkv⟩ := ksat_len h.ks
  obtain ⟨RA, rc, hrv⟩ := rwat_len h.rows
  obtain ⟨pp, hpp⟩ : ∃ p, properB t.ch.data.toList = p := ⟨_, rfl⟩
  obtain ⟨pr, hpr⟩ : ∃ p, mayF t.rows = p := ⟨_, rfl⟩
  have HP := hide (fun W => properq_any t.ch pp W hc hpp)
  have HR := hide (fun W (hb : Below w.heap.size w W) => mays_any t.rv t.rows pr W (rwat_below h.rows (bl_trans hb0 hb)) hl hsh hpr)
  obtain ⟨r, hr⟩ : ∃ r, mfB t.k t.ch t.nt t.rows t.mi t.ma t.lz = r := ⟨_, rfl⟩
  unfold mfB bareB at hr
  rw [hpp, hpr] at hr
  unfold SmPost
  rw [show t.v = .agg #[.int .i64 t.k, .string t.ch, .bool t.nt, .slice RA t.rows.length rc, .int .i64 t.mi, .int .i64 t.ma, .bool t.lz, .slice A t.kids.length c] by unfold Rt.v Rt.cs; rw [hkv, hrv]]
  rw [show mfB t.k t.ch t.nt t.rows t.mi t.ma t.lz = r by unfold mfB bareB; rw [hpp, hpr]; exact hr]
  rw [hrv] at HR
  clear h hkv hrv hb0 hpp hpr hc hl hsh
  generalize t.kids.length = kl at *
  generalize t.rows.length = rl at *
  generalize t.k = k at *
  generalize t.ch = ch at *
  generalize t.nt = nt at *
  generalize t.mi = mi at *
  generalize t.ma = ma at *
  generalize t.lz = lz at *
  have HBA := hide (fun o => bl_alloc (bl_refl w) o)
  by_cases q2 : k = 2
  case pos =>
    subst q2
    simp only [if_true] at hr
    clear HR
    cases pp with
    | false =>
      obtain rfl : r = false := by rw [← hr]; rfl
      clear hr
      go_enter Try.func52, Try.ntmps52
      go_wp2_with fail
      refine (HP.out _).mono ?_
      rintro e w2 ⟨rfl, hb2⟩
      have c0 : w2.cell? ⟨w.heap.size, 0, none⟩ = some (.int .i64 2) := cell_later hb2 (cells_lit w _ 26 0 _ rfl)
      have c1 : w2.cell? ⟨w.heap.size, 1, none⟩ = some (.string ch) := cell_later hb2 (cells_lit w _ 26 1 _ rfl)
      have c2 : w2.cell? ⟨w.heap.size, 2, none⟩ = some (.bool nt) := cell_later hb2 (cells_lit w _ 26 2 _ rfl)
      have c3 : w2.cell? ⟨w.heap.size, 3, none⟩ = some (.slice RA rl rc) := cell_later hb2 (cells_lit w _ 26 3 _ rfl)
      have c4 : w2.cell? ⟨w.heap.size, 4, none⟩ = some (.int .i64 mi) := cell_later hb2 (cells_lit w _ 26 4 _ rfl)
      have c5 : w2.cell? ⟨w.heap.size, 5, none⟩ = some (.int .i64 ma) := cell_later hb2 (cells_lit w _ 26 5 _ rfl)
      have c6 : w2.cell? ⟨w.heap.size, 6, none⟩ = some (.bool lz) := cell_later hb2 (cells_lit w _ 26 6 _ rfl)
      have c7 : w2.cell? ⟨w.heap.size, 7, none⟩ = some (.slice A kl c) := cell_later hb2 (cells_lit w _ 26 7 _ rfl)
      have hf : ∀ o, w2.frozen? ⟨w.heap.size, o, none⟩ = false := fun o => (hb2.frozen (p := ⟨w.heap.size, o, none⟩) (by simp)).trans (by go_simp)
      have hs2 : w.heap.size < w2.heap.size := by have := hb2.size; simp at this; omega
      have HB2 := hide (bl_trans (HBA.out _) hb2)
      clear hb2
      go_wp2
      go_ret
      exact ⟨rfl, by first | exact HB2.out | (repeat (first | exact HB2.out | refine bl_set ?_ (Nat.le_refl _) _))⟩
    | true =>
      rw [Bool.true_and] at hr
      by_cases qrl : rl = 0
      case neg =>
        obtain rfl : r = false := by rw [← hr]; simp [qrl]
        clear hr
        have z1 : ((rl : Int) == 0) = false := beq_eq_false_iff_ne.2 (by omega)
        clear qrl
        go_enter Try.func52, Try.ntmps52
        go_wp2_with fail
        refine (HP.out _).mono ?_
        rintro e w2 ⟨rfl, hb2⟩
        have c0 : w2.cell? ⟨w.heap.size, 0, none⟩ = some (.int .i64 2) := cell_later hb2 (cells_lit w _ 26 0 _ rfl)
        have c1 : w2.cell? ⟨w.heap.size, 1, none⟩ = some (.string ch) := cell_later hb2 (cells_lit w _ 26 1 _ rfl)
        have c2 : w2.cell? ⟨w.heap.size, 2, none⟩ = some (.bool nt) := cell_later hb2 (cells_lit w _ 26 2 _ rfl)
        have c3 : w2.cell? ⟨w.heap.size, 3, none⟩ = some (.slice RA rl rc) := cell_later hb2 (cells_lit w _ 26 3 _ rfl)
        have c4 : w2.cell? ⟨w.heap.size, 4, none⟩ = some (.int .i64 mi) := cell_later hb2 (cells_lit w _ 26 4 _ rfl)
        have c5 : w2.cell? ⟨w.heap.size, 5, none⟩ = some (.int .i64 ma) := cell_later hb2 (cells_lit w _ 26 5 _ rfl)
        have c6 : w2.cell? ⟨w.heap.size, 6, none⟩ = some (.bool lz) := cell_later hb2 (cells_lit w _ 26 6 _ rfl)
        have c7 : w2.cell? ⟨w.heap.size, 7, none⟩ = some (.slice A kl c) := cell_later hb2 (cells_lit w _ 26 7 _ rfl)
        have hf : ∀ o, w2.frozen? ⟨w.heap.size, o, none⟩ = false := fun o => (hb2.frozen (p := ⟨w.heap.size, o, none⟩) (by simp)).trans (by go_simp)
        have hs2 : w.heap.size < w2.heap.size := by have := hb2.size; simp at this; omega
        have HB2 := hide (bl_trans (HBA.out _) hb2)
        clear hb2
        go_wp2
        go_ret
        exact ⟨rfl, by first | exact HB2.out | (repeat (first | exact HB2.out | refine bl_set ?_ (Nat.le_refl _) _))⟩
      subst qrl
      rcases nt with _ | _
      case true =>
        obtain rfl : r = false := by rw [← hr]; simp
        clear hr
        go_enter Try.func52, Try.ntmps52
        go_wp2_with fail
        refine (HP.out _).mono ?_
        rintro e w2 ⟨rfl, hb2⟩
        have c0 : w2.cell? ⟨w.heap.size, 0, none⟩ = some (.int .i64 2) := cell_later hb2 (cells_lit w _ 26 0 _ rfl)
        have c1 : w2.cell? ⟨w.heap.size, 1, none⟩ = some (.string ch) := cell_later hb2 (cells_lit w _ 26 1 _ rfl)
        have c2 : w2.cell? ⟨w.heap.size, 2, none⟩ = some (.bool true) := cell_later hb2 (cells_lit w _ 26 2 _ rfl)
        have c3 : w2.cell? ⟨w.heap.size, 3, none⟩ = some (.slice RA 0 rc) := cell_later hb2 (cells_lit w _ 26 3 _ rfl)
        have c4 : w2.cell? ⟨w.heap.size, 4, none⟩ = some (.int .i64 mi) := cell_later hb2 (cells_lit w _ 26 4 _ rfl)
        have c5 : w2.cell? ⟨w.heap.size, 5, none⟩ = some (.int .i64 ma) := cell_later hb2 (cells_lit w _ 26 5 _ rfl)
        have c6 : w2.cell? ⟨w.heap.size, 6, none⟩ = some (.bool lz) := cell_later hb2 (cells_lit w _ 26 6 _ rfl)
        have c7 : w2.cell? ⟨w.heap.size, 7, none⟩ = some (.slice A kl c) := cell_later hb2 (cells_lit w _ 26 7 _ rfl)
        have hf : ∀ o, w2.frozen? ⟨w.heap.size, o, none⟩ = false := fun o => (hb2.frozen (p := ⟨w.heap.size, o, none⟩) (by simp)).trans (by go_simp)
        have hs2 : w.heap.size < w2.heap.size := by have := hb2.size; simp at this; omega
        have HB2 := hide (bl_trans (HBA.out _) hb2)
        clear hb2
        go_wp2
        go_ret
        exact ⟨rfl, by first | exact HB2.out | (repeat (first | exact HB2.out | refine bl_set ?_ (Nat.le_refl _) _))⟩
      by_cases qmi : mi = 0
      case neg =>
        obtain rfl : r = false := by rw [← hr]; simp [qmi]
        clear hr
        have z1 : (mi == 0) = false := beq_eq_false_iff_ne.2 qmi
        clear qmi
        go_enter Try.func52, Try.ntmps52
        go_wp2_with fail
        refine (HP.out _).mono ?_
        rintro e w2 ⟨rfl, hb2⟩
        have c0 : w2.cell? ⟨w.heap.size, 0, none⟩ = some (.int .i64 2) := cell_later hb2 (cells_lit w _ 26 0 _ rfl)
        have c1 : w2.cell? ⟨w.heap.size, 1, none⟩ = some (.string ch) := cell_later hb2 (cells_lit w _ 26 1 _ rfl)
        have c2 : w2.cell? ⟨w.heap.size, 2, none⟩ = some (.bool false) := cell_later hb2 (cells_lit w _ 26 2 _ rfl)
        have c3 : w2.cell? ⟨w.heap.size, 3, none⟩ = some (.slice RA 0 rc) := cell_later hb2 (cells_lit w _ 26 3 _ rfl)
        have c4 : w2.cell? ⟨w.heap.size, 4, none⟩ = some (.int .i64 mi) := cell_later hb2 (cells_lit w _ 26 4 _ rfl)
        have c5 : w2.cell? ⟨w.heap.size, 5, none⟩ = some (.int .i64 ma) := cell_later hb2 (cells_lit w _ 26 5 _ rfl)
        have c6 : w2.cell? ⟨w.heap.size, 6, none⟩ = some (.bool lz) := cell_later hb2 (cells_lit w _ 26 6 _ rfl)
        have c7 : w2.cell? ⟨w.heap.size, 7, none⟩ = some (.slice A kl c) := cell_later hb2 (cells_lit w _ 26 7 _ rfl)
        have hf : ∀ o, w2.frozen? ⟨w.heap.size, o, none⟩ = false := fun o => (hb2.frozen (p := ⟨w.heap.size, o, none⟩) (by simp)).trans (by go_simp)
        have hs2 : w.heap.size < w2.heap.size := by have := hb2.size; simp at this; omega
        have HB2 := hide (bl_trans (HBA.out _) hb2)
        clear hb2
        go_wp2
        go_ret
        exact ⟨rfl, by first | exact HB2.out | (repeat (first | exact HB2.out | refine bl_set ?_ (Nat.le_refl _) _))⟩
      subst qmi
      by_cases qma : ma = 0
      case neg =>
        obtain rfl : r = false := by rw [← hr]; simp [qma]
        clear hr
        have z1 : (ma == 0) = false := beq_eq_false_iff_ne.2 qma
        clear qma
        go_enter Try.func52, Try.ntmps52
        go_wp2_with fail
        refine (HP.out _).mono ?_
        rintro e w2 ⟨rfl, hb2⟩
        have c0 : w2.cell? ⟨w.heap.size, 0, none⟩ = some (.int .i64 2) := cell_later hb2 (cells_lit w _ 26 0 _ rfl)
        have c1 : w2.cell? ⟨w.heap.size, 1, none⟩ = some (.string ch) := cell_later hb2 (cells_lit w _ 26 1 _ rfl)
        have c2 : w2.cell? ⟨w.heap.size, 2, none⟩ = some (.bool false) := cell_later hb2 (cells_lit w _ 26 2 _ rfl)
        have c3 : w2.cell? ⟨w.heap.size, 3, none⟩ = some (.slice RA 0 rc) := cell_later hb2 (cells_lit w _ 26 3 _ rfl)
        have c4 : w2.cell? ⟨w.heap.size, 4, none⟩ = some (.int .i64 0) := cell_later hb2 (cells_lit w _ 26 4 _ rfl)
        have c5 : w2.cell? ⟨w.heap.size, 5, none⟩ = some (.int .i64 ma) := cell_later hb2 (cells_lit w _ 26 5 _ rfl)
        have c6 : w2.cell? ⟨w.heap.size, 6, none⟩ = some (.bool lz) := cell_later hb2 (cells_lit w _ 26 6 _ rfl)
        have c7 : w2.cell? ⟨w.heap.size, 7, none⟩ = some (.slice A kl c) := cell_later hb2 (cells_lit w _ 26 7 _ rfl)
        have hf : ∀ o, w2.frozen? ⟨w.heap.size, o, none⟩ = false := fun o => (hb2.frozen (p := ⟨w.heap.size, o, none⟩) (by simp)).trans (by go_simp)
        have hs2 : w.heap.size < w2.heap.size := by have := hb2.size; simp at this; omega
        have HB2 := hide (bl_trans (HBA.out _) hb2)
        clear hb2
        go_wp2
        go_ret
        exact ⟨rfl, by first | exact HB2.out | (repeat (first | exact HB2.out | refine bl_set ?_ (Nat.le_refl _) _))⟩
      subst qma
      rcases lz with _ | _
      case true =>
        obtain rfl : r = false := by rw [← hr]; simp
        clear hr
        go_enter Try.func52, Try.ntmps52
        go_wp2_with fail
        refine (HP.out _).mono ?_
        rintro e w2 ⟨rfl, hb2⟩
        have c0 : w2.cell? ⟨w.heap.size, 0, none⟩ = some (.int .i64 2) := cell_later hb2 (cells_lit w _ 26 0 _ rfl)
        have c1 : w2.cell? ⟨w.heap.size, 1, none⟩ = some (.string ch) := cell_later hb2 (cells_lit w _ 26 1 _ rfl)
        have c2 : w2.cell? ⟨w.heap.size, 2, none⟩ = some (.bool false) := cell_later hb2 (cells_lit w _ 26 2 _ rfl)
        have c3 : w2.cell? ⟨w.heap.size, 3, none⟩ = some (.slice RA 0 rc) := cell_later hb2 (cells_lit w _ 26 3 _ rfl)
        have c4 : w2.cell? ⟨w.heap.size, 4, none⟩ = some (.int .i64 0) := cell_later hb2 (cells_lit w _ 26 4 _ rfl)
        have c5 : w2.cell? ⟨w.heap.size, 5, none⟩ = some (.int .i64 0) := cell_later hb2 (cells_lit w _ 26 5 _ rfl)
        have c6 : w2.cell? ⟨w.heap.size, 6, none⟩ = some (.bool true) := cell_later hb2 (cells_lit w _ 26 6 _ rfl)
        have c7 : w2.cell? ⟨w.heap.size, 7, none⟩ = some (.slice A kl c) := cell_later hb2 (cells_lit w _ 26 7 _ rfl)
        have hf : ∀ o, w2.frozen? ⟨w.heap.size, o, none⟩ = false := fun o => (hb2.frozen (p := ⟨w.heap.size, o, none⟩) (by simp)).trans (by go_simp)
        have hs2 : w.heap.size < w2.heap.size := by have := hb2.size; simp at this; omega
        have HB2 := hide (bl_trans (HBA.out _) hb2)
        clear hb2
        go_wp2
        go_ret
        exact ⟨rfl, by first | exact HB2.out | (repeat (first | exact HB2.out | refine bl_set ?_ (Nat.le_refl _) _))⟩
      obtain rfl : r = true := by rw [← hr]; rfl
      clear hr
      go_enter Try.func52, Try.ntmps52
      go_wp2_with fail
      refine (HP.out _).mono ?_
      rintro e w2 ⟨rfl, hb2⟩
      have c0 : w2.cell? ⟨w.heap.size, 0, none⟩ = some (.int .i64 2) := cell_later hb2 (cells_lit w _ 26 0 _ rfl)
      have c1 : w2.cell? ⟨w.heap.size, 1, none⟩ = some (.string ch) := cell_later hb2 (cells_lit w _ 26 1 _ rfl)
      have c2 : w2.cell? ⟨w.heap.size, 2, none⟩ = some (.bool false) := cell_later hb2 (cells_lit w _ 26 2 _ rfl)
      have c3 : w2.cell? ⟨w.heap.size, 3, none⟩ = some (.slice RA 0 rc) := cell_later hb2 (cells_lit w _ 26 3 _ rfl)
      have c4 : w2.cell? ⟨w.heap.size, 4, none⟩ = some (.int .i64 0) := cell_later hb2 (cells_lit w _ 26 4 _ rfl)
      have c5 : w2.cell? ⟨w.heap.size, 5, none⟩ = some (.int .i64 0) := cell_later hb2 (cells_lit w _ 26 5 _ rfl)
      have c6 : w2.cell? ⟨w.heap.size, 6, none⟩ = some (.bool false) := cell_later hb2 (cells_lit w _ 26 6 _ rfl)
      have c7 : w2.cell? ⟨w.heap.size, 7, none⟩ = some (.slice A kl c) := cell_later hb2 (cells_lit w _ 26 7 _ rfl)
      have hf : ∀ o, w2.frozen? ⟨w.heap.size, o, none⟩ = false := fun o => (hb2.frozen (p := ⟨w.heap.size, o, none⟩) (by simp)).trans (by go_simp)
      have hs2 : w.heap.size < w2.heap.size := by have := hb2.size; simp at this; omega
      have HB2 := hide (bl_trans (HBA.out _) hb2)
      clear hb2
      go_wp2
      go_ret
      exact ⟨rfl, by first | exact HB2.out | (repeat (first | exact HB2.out | refine bl_set ?_ (Nat.le_refl _) _))⟩
  have y2 : (k == 2) = false := beq_eq_false_iff_ne.2 q2
  rw [if_neg q2] at hr
  by_cases q4 : k = 4
  case pos =>
    subst q4
    simp only [if_true] at hr
    clear HP q2 y2
    cases pr with
    | false =>
      obtain rfl : r = false := by rw [← hr]; rfl
      clear hr
      go_enter Try.func52, Try.ntmps52
      go_wp2_with fail
      refine (HR.out _ (HBA.out _)).mono ?_
      rintro e w2 ⟨rfl, hb2⟩
      have c0 : w2.cell? ⟨w.heap.size, 0, none⟩ = some (.int .i64 4) := cell_later hb2 (cells_lit w _ 26 0 _ rfl)
      have c1 : w2.cell? ⟨w.heap.size, 1, none⟩ = some (.string ch) := cell_later hb2 (cells_lit w _ 26 1 _ rfl)
      have c2 : w2.cell? ⟨w.heap.size, 2, none⟩ = some (.bool nt) := cell_later hb2 (cells_lit w _ 26 2 _ rfl)
      have c3 : w2.cell? ⟨w.heap.size, 3, none⟩ = some (.slice RA rl rc) := cell_later hb2 (cells_lit w _ 26 3 _ rfl)
      have c4 : w2.cell? ⟨w.heap.size, 4, none⟩ = some (.int .i64 mi) := cell_later hb2 (cells_lit w _ 26 4 _ rfl)
      have c5 : w2.cell? ⟨w.heap.size, 5, none⟩ = some (.int .i64 ma) := cell_later hb2 (cells_lit w _ 26 5 _ rfl)
      have c6 : w2.cell? ⟨w.heap.size, 6, none⟩ = some (.bool lz) := cell_later hb2 (cells_lit w _ 26 6 _ rfl)
      have c7 : w2.cell? ⟨w.heap.size, 7, none⟩ = some (.slice A kl c) := cell_later hb2 (cells_lit w _ 26 7 _ rfl)
      have hf : ∀ o, w2.frozen? ⟨w.heap.size, o, none⟩ = false := fun o => (hb2.frozen (p := ⟨w.heap.size, o, none⟩) (by simp)).trans (by go_simp)
      have hs2 : w.heap.size < w2.heap.size := by have := hb2.size; simp at this; omega
      have HB2 := hide (bl_trans (HBA.out _) hb2)
      clear hb2
      go_wp2
      go_ret
      exact ⟨rfl, by first | exact HB2.out | (repeat (first | exact HB2.out | refine bl_set ?_ (Nat.le_refl _) _))⟩
    | true =>
      rw [Bool.true_and] at hr
      by_cases qch : ch = ⟨#[]⟩
      case neg =>
        obtain rfl : r = false := by rw [← hr]; simp [qch]
        clear hr
        have z1 : (ch.toList == (⟨#[]⟩ : ByteArray).toList) = false := tleq _ _ _ (decide_eq_false qch)
        have z2 : (ch.toList == []) = false := by have h := z1; rw [show (⟨#[]⟩ : ByteArray).toList = [] by rw [Go.ByteArray.toList_eq]] at h; exact h
        have z3 : ¬ ch.toList = [] := fun e => by rw [e] at z2; cases z2
        clear qch
        go_enter Try.func52, Try.ntmps52
        go_wp2_with fail
        refine (HR.out _ (HBA.out _)).mono ?_
        rintro e w2 ⟨rfl, hb2⟩
        have c0 : w2.cell? ⟨w.heap.size, 0, none⟩ = some (.int .i64 4) := cell_later hb2 (cells_lit w _ 26 0 _ rfl)
        have c1 : w2.cell? ⟨w.heap.size, 1, none⟩ = some (.string ch) := cell_later hb2 (cells_lit w _ 26 1 _ rfl)
        have c2 : w2.cell? ⟨w.heap.size, 2, none⟩ = some (.bool nt) := cell_later hb2 (cells_lit w _ 26 2 _ rfl)
        have c3 : w2.cell? ⟨w.heap.size, 3, none⟩ = some (.slice RA rl rc) := cell_later hb2 (cells_lit w _ 26 3 _ rfl)
        have c4 : w2.cell? ⟨w.heap.size, 4, none⟩ = some (.int .i64 mi) := cell_later hb2 (cells_lit w _ 26 4 _ rfl)
        have c5 : w2.cell? ⟨w.heap.size, 5, none⟩ = some (.int .i64 ma) := cell_later hb2 (cells_lit w _ 26 5 _ rfl)
        have c6 : w2.cell? ⟨w.heap.size, 6, none⟩ = some (.bool lz) := cell_later hb2 (cells_lit w _ 26 6 _ rfl)
        have c7 : w2.cell? ⟨w.heap.size, 7, none⟩ = some (.slice A kl c) := cell_later hb2 (cells_lit w _ 26 7 _ rfl)
        have hf : ∀ o, w2.frozen? ⟨w.heap.size, o, none⟩ = false := fun o => (hb2.frozen (p := ⟨w.heap.size, o, none⟩) (by simp)).trans (by go_simp)
        have hs2 : w.heap.size < w2.heap.size := by have := hb2.size; simp at this; omega
        have HB2 := hide (bl_trans (HBA.out _) hb2)
        clear hb2
        go_wp2
        go_ret
        exact ⟨rfl, by first | exact HB2.out | (repeat (first | exact HB2.out | refine bl_set ?_ (Nat.le_refl _) _))⟩
      subst qch
      by_cases qmi : mi = 0
      case neg =>
        obtain rfl : r = false := by rw [← hr]; simp [qmi]
        clear hr
        have z1 : (mi == 0) = false := beq_eq_false_iff_ne.2 qmi
        clear qmi
        go_enter Try.func52, Try.ntmps52
        go_wp2_with fail
        refine (HR.out _ (HBA.out _)).mono ?_
        rintro e w2 ⟨rfl, hb2⟩
        have c0 : w2.cell? ⟨w.heap.size, 0, none⟩ = some (.int .i64 4) := cell_later hb2 (cells_lit w _ 26 0 _ rfl)
        have c1 : w2.cell? ⟨w.heap.size, 1, none⟩ = some (.string ⟨#[]⟩) := cell_later hb2 (cells_lit w _ 26 1 _ rfl)
        have c2 : w2.cell? ⟨w.heap.size, 2, none⟩ = some (.bool nt) := cell_later hb2 (cells_lit w _ 26 2 _ rfl)
        have c3 : w2.cell? ⟨w.heap.size, 3, none⟩ = some (.slice RA rl rc) := cell_later hb2 (cells_lit w _ 26 3 _ rfl)
        have c4 : w2.cell? ⟨w.heap.size, 4, none⟩ = some (.int .i64 mi) := cell_later hb2 (cells_lit w _ 26 4 _ rfl)
        have c5 : w2.cell? ⟨w.heap.size, 5, none⟩ = some (.int .i64 ma) := cell_later hb2 (cells_lit w _ 26 5 _ rfl)
        have c6 : w2.cell? ⟨w.heap.size, 6, none⟩ = some (.bool lz) := cell_later hb2 (cells_lit w _ 26 6 _ rfl)
        have c7 : w2.cell? ⟨w.heap.size, 7, none⟩ = some (.slice A kl c) := cell_later hb2 (cells_lit w _ 26 7 _ rfl)
        have hf : ∀ o, w2.frozen? ⟨w.heap.size, o, none⟩ = false := fun o => (hb2.frozen (p := ⟨w.heap.size, o, none⟩) (by simp)).trans (by go_simp)
        have hs2 : w.heap.size < w2.heap.size := by have := hb2.size; simp at this; omega
        have HB2 := hide (bl_trans (HBA.out _) hb2)
        clear hb2
        go_wp2
        go_ret
        exact ⟨rfl, by first | exact HB2.out | (repeat (first | exact HB2.out | refine bl_set ?_ (Nat.le_refl _) _))⟩
      subst qmi
      by_cases qma : ma = 0
      case neg =>
        obtain rfl : r = false := by rw [← hr]; simp [qma]
        clear hr
        have z1 : (ma == 0) = false := beq_eq_false_iff_ne.2 qma
        clear qma
        go_enter Try.func52, Try.ntmps52
        go_wp2_with fail
        refine (HR.out _ (HBA.out _)).mono ?_
        rintro e w2 ⟨rfl, hb2⟩
        have c0 : w2.cell? ⟨w.heap.size, 0, none⟩ = some (.int .i64 4) := cell_later hb2 (cells_lit w _ 26 0 _ rfl)
        have c1 : w2.cell? ⟨w.heap.size, 1, none⟩ = some (.string ⟨#[]⟩) := cell_later hb2 (cells_lit w _ 26 1 _ rfl)
        have c2 : w2.cell? ⟨w.heap.size, 2, none⟩ = some (.bool nt) := cell_later hb2 (cells_lit w _ 26 2 _ rfl)
        have c3 : w2.cell? ⟨w.heap.size, 3, none⟩ = some (.slice RA rl rc) := cell_later hb2 (cells_lit w _ 26 3 _ rfl)
        have c4 : w2.cell? ⟨w.heap.size, 4, none⟩ = some (.int .i64 0) := cell_later hb2 (cells_lit w _ 26 4 _ rfl)
        have c5 : w2.cell? ⟨w.heap.size, 5, none⟩ = some (.int .i64 ma) := cell_later hb2 (cells_lit w _ 26 5 _ rfl)
        have c6 : w2.cell? ⟨w.heap.size, 6, none⟩ = some (.bool lz) := cell_later hb2 (cells_lit w _ 26 6 _ rfl)
        have c7 : w2.cell? ⟨w.heap.size, 7, none⟩ = some (.slice A kl c) := cell_later hb2 (cells_lit w _ 26 7 _ rfl)
        have hf : ∀ o, w2.frozen? ⟨w.heap.size, o, none⟩ = false := fun o => (hb2.frozen (p := ⟨w.heap.size, o, none⟩) (by simp)).trans (by go_simp)
        have hs2 : w.heap.size < w2.heap.size := by have := hb2.size; simp at this; omega
        have HB2 := hide (bl_trans (HBA.out _) hb2)
        clear hb2
        go_wp2
        go_ret
        exact ⟨rfl, by first | exact HB2.out | (repeat (first | exact HB2.out | refine bl_set ?_ (Nat.le_refl _) _))⟩
      subst qma
      rcases lz with _ | _
      case true =>
        obtain rfl : r = false := by rw [← hr]; simp
        clear hr
        go_enter Try.func52, Try.ntmps52
        go_wp2_with fail
        refine (HR.out _ (HBA.out _)).mono ?_
        rintro e w2 ⟨rfl, hb2⟩
        have c0 : w2.cell? ⟨w.heap.size, 0, none⟩ = some (.int .i64 4) := cell_later hb2 (cells_lit w _ 26 0 _ rfl)
        have c1 : w2.cell? ⟨w.heap.size, 1, none⟩ = some (.string ⟨#[]⟩) := cell_later hb2 (cells_lit w _ 26 1 _ rfl)
        have c2 : w2.cell? ⟨w.heap.size, 2, none⟩ = some (.bool nt) := cell_later hb2 (cells_lit w _ 26 2 _ rfl)
        have c3 : w2.cell? ⟨w.heap.size, 3, none⟩ = some (.slice RA rl rc) := cell_later hb2 (cells_lit w _ 26 3 _ rfl)
        have c4 : w2.cell? ⟨w.heap.size, 4, none⟩ = some (.int .i64 0) := cell_later hb2 (cells_lit w _ 26 4 _ rfl)
        have c5 : w2.cell? ⟨w.heap.size, 5, none⟩ = some (.int .i64 0) := cell_later hb2 (cells_lit w _ 26 5 _ rfl)
        have c6 : w2.cell? ⟨w.heap.size, 6, none⟩ = some (.bool true) := cell_later hb2 (cells_lit w _ 26 6 _ rfl)
        have c7 : w2.cell? ⟨w.heap.size, 7, none⟩ = some (.slice A kl c) := cell_later hb2 (cells_lit w _ 26 7 _ rfl)
        have hf : ∀ o, w2.frozen? ⟨w.heap.size, o, none⟩ = false := fun o => (hb2.frozen (p := ⟨w.heap.size, o, none⟩) (by simp)).trans (by go_simp)
        have hs2 : w.heap.size < w2.heap.size := by have := hb2.size; simp at this; omega
        have HB2 := hide (bl_trans (HBA.out _) hb2)
        clear hb2
        go_wp2
        go_ret
        exact ⟨rfl, by first | exact HB2.out | (repeat (first | exact HB2.out | refine bl_set ?_ (Nat.le_refl _) _))⟩
      obtain rfl : r = true := by rw [← hr]; rfl
      clear hr
      go_enter Try.func52, Try.ntmps52
      go_wp2_with fail
      refine (HR.out _ (HBA.out _)).mono ?_
      rintro e w2 ⟨rfl, hb2⟩
      have c0 : w2.cell? ⟨w.heap.size, 0, none⟩ = some (.int .i64 4) := cell_later hb2 (cells_lit w _ 26 0 _ rfl)
      have c1 : w2.cell? ⟨w.heap.size, 1, none⟩ = some (.string ⟨#[]⟩) := cell_later hb2 (cells_lit w _ 26 1 _ rfl)
      have c2 : w2.cell? ⟨w.heap.size, 2, none⟩ = some (.bool nt) := cell_later hb2 (cells_lit w _ 26 2 _ rfl)
      have c3 : w2.cell? ⟨w.heap.size, 3, none⟩ = some (.slice RA rl rc) := cell_later hb2 (cells_lit w _ 26 3 _ rfl)
      have c4 : w2.cell? ⟨w.heap.size, 4, none⟩ = some (.int .i64 0) := cell_later hb2 (cells_lit w _ 26 4 _ rfl)
      have c5 : w2.cell? ⟨w.heap.size, 5, none⟩ = some (.int .i64 0) := cell_later hb2 (cells_lit w _ 26 5 _ rfl)
      have c6 : w2.cell? ⟨w.heap.size, 6, none⟩ = some (.bool false) := cell_later hb2 (cells_lit w _ 26 6 _ rfl)
      have c7 : w2.cell? ⟨w.heap.size, 7, none⟩ = some (.slice A kl c) := cell_later hb2 (cells_lit w _ 26 7 _ rfl)
      have hf : ∀ o, w2.frozen? ⟨w.heap.size, o, none⟩ = false := fun o => (hb2.frozen (p := ⟨w.heap.size, o, none⟩) (by simp)).trans (by go_simp)
      have hs2 : w.heap.size < w2.heap.size := by have := hb2.size; simp at this; omega
      have HB2 := hide (bl_trans (HBA.out _) hb2)
      clear hb2
      go_wp2
      go_ret
      exact ⟨rfl, by first | exact HB2.out | (repeat (first | exact HB2.out | refine bl_set ?_ (Nat.le_refl _) _))⟩
  have y4 : (k == 4) = false := beq_eq_false_iff_ne.2 q4
  rw [if_neg q4] at hr
  clear HP HR
  by_cases q7 : k = 7
  case pos =>
    subst q7
    simp only [if_true] at hr
    clear q2 y2 q4 y4
    by_cases q1 : 0 ≤ mi
    case neg =>
      obtain rfl : r = false := by rw [← hr]; unfold rngB; simp; omega
      have z1 : decide (mi < 0) = true := decide_eq_true (by omega)
      clear hr q1
      go_enter Try.func52, Try.ntmps52
      go_wp2
      go_ret
      exact ⟨rfl, HBA.out _⟩
    have z1 : decide (mi < 0) = false := decide_eq_false (by omega)
    by_cases q2 : mi ≤ 255
    case neg =>
      obtain rfl : r = false := by rw [← hr]; unfold rngB; simp; omega
      have z2 : decide (255 < mi) = true := decide_eq_true (by omega)
      have z3 : decide (mi > 255) = true := z2
      clear hr q1 q2
      go_enter Try.func52, Try.ntmps52
      go_wp2
      go_ret
      exact ⟨rfl, HBA.out _⟩
    have z2 : decide (255 < mi) = false := decide_eq_false (by omega)
    have z3 : decide (mi > 255) = false := z2
    by_cases q3 : ma ≤ 255
    case neg =>
      obtain rfl : r = false := by rw [← hr]; unfold rngB; simp; omega
      have z4 : decide (255 < ma) = true := decide_eq_true (by omega)
      have z5 : decide (ma > 255) = true := z4
      clear hr q1 q2 q3
      go_enter Try.func52, Try.ntmps52
      go_wp2
      go_ret
      exact ⟨rfl, HBA.out _⟩
    have z4 : decide (255 < ma) = false := decide_eq_false (by omega)
    have z5 : decide (ma > 255) = false := z4
    by_cases q5 : ma = -1
    case pos =>
      subst q5
      rw [show rngB mi (-1) = true by unfold rngB; simp; omega, Bool.true_and] at hr
      clear q1 q2 q3 z4 z5
      by_cases qch : ch = ⟨#[]⟩
      case neg =>
        obtain rfl : r = false := by rw [← hr]; simp [qch]
        clear hr
        have z1 : (ch.toList == (⟨#[]⟩ : ByteArray).toList) = false := tleq _ _ _ (decide_eq_false qch)
        have z2 : (ch.toList == []) = false := by have h := z1; rw [show (⟨#[]⟩ : ByteArray).toList = [] by rw [Go.ByteArray.toList_eq]] at h; exact h
        have z3 : ¬ ch.toList = [] := fun e => by rw [e] at z2; cases z2
        clear qch
        go_enter Try.func52, Try.ntmps52
        go_wp2
        go_ret
        exact ⟨rfl, HBA.out _⟩
      subst qch
      by_cases qrl : rl = 0
      case neg =>
        obtain rfl : r = false := by rw [← hr]; simp [qrl]
        clear hr
        have z1 : ((rl : Int) == 0) = false := beq_eq_false_iff_ne.2 (by omega)
        clear qrl
        go_enter Try.func52, Try.ntmps52
        go_wp2
        go_ret
        exact ⟨rfl, HBA.out _⟩
      subst qrl
      rcases nt with _ | _
      case true =>
        obtain rfl : r = false := by rw [← hr]; simp
        clear hr
        go_enter Try.func52, Try.ntmps52
        go_wp2
        go_ret
        exact ⟨rfl, HBA.out _⟩
      obtain rfl : r = true := by rw [← hr]; rfl
      clear hr
      go_enter Try.func52, Try.ntmps52
      go_wp2
      go_ret
      exact ⟨rfl, HBA.out _⟩
    have z6 : (ma == -1) = false := beq_eq_false_iff_ne.2 q5
    have z7 : (ma != -1) = true := by rw [bne, z6]; rfl
    by_cases q6 : mi ≤ ma
    case neg =>
      obtain rfl : r = false := by rw [← hr]; unfold rngB; simp; omega
      have z8 : decide (ma < mi) = true := decide_eq_true (by omega)
      clear hr q1 q2 q3 q5 q6
      go_enter Try.func52, Try.ntmps52
      go_wp2
      go_ret
      exact ⟨rfl, HBA.out _⟩
    have z8 : decide (ma < mi) = false := decide_eq_false (by omega)
    rw [show rngB mi ma = true by unfold rngB; simp; omega, Bool.true_and] at hr
    clear q1 q2 q3 q5 q6
    by_cases qch : ch = ⟨#[]⟩
    case neg =>
      obtain rfl : r = false := by rw [← hr]; simp [qch]
      clear hr
      have z1 : (ch.toList == (⟨#[]⟩ : ByteArray).toList) = false := tleq _ _ _ (decide_eq_false qch)
      have z2 : (ch.toList == []) = false := by have h := z1; rw [show (⟨#[]⟩ : ByteArray).toList = [] by rw [Go.ByteArray.toList_eq]] at h; exact h
      have z3 : ¬ ch.toList = [] := fun e => by rw [e] at z2; cases z2
      clear qch
      go_enter Try.func52, Try.ntmps52
      go_wp2
      go_ret
      exact ⟨rfl, HBA.out _⟩
    subst qch
    by_cases qrl : rl = 0
    case neg =>
      obtain rfl : r = false := by rw [← hr]; simp [qrl]
      clear hr
      have z1 : ((rl : Int) == 0) = false := beq_eq_false_iff_ne.2 (by omega)
      clear qrl
      go_enter Try.func52, Try.ntmps52
      go_wp2
      go_ret
      exact ⟨rfl, HBA.out _⟩
    subst qrl
    rcases nt with _ | _
    case true =>
      obtain rfl : r = false := by rw [← hr]; simp
      clear hr
      go_enter Try.func52, Try.ntmps52
      go_wp2
      go_ret
      exact ⟨rfl, HBA.out _⟩
    obtain rfl : r = true := by rw [← hr]; rfl
    clear hr
    go_enter Try.func52, Try.ntmps52
    go_wp2
    go_ret
    exact ⟨rfl, HBA.out _⟩
  have y7 : (k == 7) = false := beq_eq_false_iff_ne.2 q7
  rw [if_neg q7] at hr
  clear q2 q4 q7
  by_cases qch : ch = ⟨#[]⟩
  case neg =>
    obtain rfl : r = false := by rw [← hr]; simp [qch]
    clear hr
    have z1 : (ch.toList == (⟨#[]⟩ : ByteArray).toList) = false := tleq _ _ _ (decide_eq_false qch)
    have z2 : (ch.toList == []) = false := by have h := z1; rw [show (⟨#[]⟩ : ByteArray).toList = [] by rw [Go.ByteArray.toList_eq]] at h; exact h
    have z3 : ¬ ch.toList = [] := fun e => by rw [e] at z2; cases z2
    clear qch
    go_enter Try.func52, Try.ntmps52
    go_wp2
    go_ret
    exact ⟨rfl, HBA.out _⟩
  subst qch
  by_cases qrl : rl = 0
  case neg =>
    obtain rfl : r = false := by rw [← hr]; simp [qrl]
    clear hr
    have z1 : ((rl : Int) == 0) = false := beq_eq_false_iff_ne.2 (by omega)
    clear qrl
    go_enter Try.func52, Try.ntmps52
    go_wp2
    go_ret
    exact ⟨rfl, HBA.out _⟩
  subst qrl
  rcases nt with _ | _
  case true =>
    obtain rfl : r = false := by rw [← hr]; simp
    clear hr
    go_enter Try.func52, Try.ntmps52
    go_wp2
    go_ret
    exact ⟨rfl, HBA.out _⟩
  by_cases qmi : mi = 0
  case neg =>
    obtain rfl : r = false := by rw [← hr]; simp [qmi]
    clear hr
    have z1 : (mi == 0) = false := beq_eq_false_iff_ne.2 qmi
    clear qmi
    go_enter Try.func52, Try.ntmps52
    go_wp2
    go_ret
    exact ⟨rfl, HBA.out _⟩
  subst qmi
  by_cases qma : ma = 0
  case neg =>
    obtain rfl : r = false := by rw [← hr]; simp [qma]
    clear hr
    have z1 : (ma == 0) = false := beq_eq_false_iff_ne.2 qma
    clear qma
    go_enter Try.func52, Try.ntmps52
    go_wp2
    go_ret
    exact ⟨rfl, HBA.out _⟩
  subst qma
  rcases lz with _ | _
  case true =>
    obtain rfl : r = false := by rw [← hr]; simp
    clear hr
    go_enter Try.func52, Try.ntmps52
    go_wp2
    go_ret
    exact ⟨rfl, HBA.out _⟩
  obtain rfl : r = true := by rw [← hr]; rfl
  clear hr
  go_enter Try.func52, Try.ntmps52
  go_wp2
  go_ret
  exact ⟨rfl, HBA.out _⟩
end Go.Proofs.Ytcgphknnnjpbkaa
