/- Contracts: deep.SameRx, rxtree.Same. No condition. -/
import Derived.Test.YtcgphknnnjpbkaaRxQ
namespace Go.Proofs.Ytcgphknnnjpbkaa
open Go.ChangeShapes Go.WideShapes Go.ChangeAt Go.RowKit
open SetM
attribute [local go_sem ↓] Go.wp_at_zero Go.wp_at_succ
set_option maxRecDepth 100000
set_option linter.unusedVariables false
set_option linter.unusedSimpArgs false
theorem tleq (a b : ByteArray) (r : Bool) (h : decide (a = b) = r) : (a.toList == b.toList) = r := by
  rw [← h]; by_cases e : a = b <;> simp [e, tl_iff]
theorem bleq (a b : Bool) (r : Bool) (h : decide (a = b) = r) : (a == b) = r := by
  rw [← h]; cases a <;> cases b <;> rfl
theorem ileq (a b : Int) (r : Bool) (h : decide (a = b) = r) : (a == b) = r := by
  rw [← h]; by_cases e : a = b <;> simp [e]
theorem cells_lit2 (w0 : World) (arr : Array Value) (e : TypeId) (j : Nat) (u : Value) (hu : arr.toList[j]? = some u) {n : Nat} (hn : w0.heap.size = n) : (w0.alloc (.cells arr e)).cell? ((⟨n, 0, none⟩ : Addr).add j) = some u := by
  subst hn; exact cells_lit w0 arr e j u hu
set_option maxHeartbeats 4000000 in
theorem samerx_any {w0 : World} {t : Rt} (h : RxAt w0 t) : ∀ u, RxAt w0 u → ∀ w, Below w0.heap.size w0 w → Calls Try.prog 33 #[t.v, u.v] w (SmPost (sameM t u) w) := by
  induction h with
  | mk t hr hk hs ih =>
    intro u hu w hb0
    have hM := sameM_eq t u
    have HRC := hide (fun W (hb : Below w0.heap.size w0 W) => eqrows_any _ _ _ _ W (rwat_below hr hb) (rwat_below hu.rows hb))
    have HKC := hide (fun W (hb : Below w0.heap.size w0 W) => eqfunc_any _ _ _ _ w0 hk hu.ks hs (fun i hi => hu.kid i hi) (fun i hi gi W2 hb2 => ih i hi _ (hu.kid i gi) W2 hb2) W hb)
    have HB0 := hide hb0
    obtain ⟨A, c, hkv⟩ := ksat_len hk
    obtain ⟨RA, rc, hrv⟩ := rwat_len hr
    obtain ⟨B, d, hkv2⟩ := ksat_len hu.ks
    obtain ⟨RB, rd, hrv2⟩ := rwat_len hu.rows
    unfold Rt.v Rt.cs SmPost at *
    rw [hkv, hkv2] at HKC
    rw [hrv, hrv2] at HRC
    rw [hkv, hrv, hkv2, hrv2]
    obtain ⟨r, hrr⟩ : ∃ r, sameM t u = r := ⟨_, rfl⟩
    rw [hrr] at hM ⊢
    clear hr hk hs ih hu hb0 hkv hrv hkv2 hrv2
    generalize t.k = k at *
    generalize t.ch = ch at *
    generalize t.nt = nt at *
    generalize t.mi = mi at *
    generalize t.ma = ma at *
    generalize t.lz = lz at *
    generalize u.k = k' at *
    generalize u.ch = ch' at *
    generalize u.nt = nt' at *
    generalize u.mi = mi' at *
    generalize u.ma = ma' at *
    generalize u.lz = lz' at *
    obtain ⟨qr, hqr⟩ : ∃ q, decide (t.rows = u.rows) = q := ⟨_, rfl⟩
    rw [hqr] at hM HRC
    obtain ⟨qk, hqk⟩ : ∃ q, sameL t.kids u.kids = q := ⟨_, rfl⟩
    rw [hqk] at hM HKC
    generalize t.rows.length = rl at *
    generalize u.rows.length = ul at *
    generalize t.kids.length = kl at *
    generalize u.kids.length = vl at *
    clear hrr hqr hqk
    have hba := bl_alloc (bl_alloc (bl_refl w) (.cells #[.int .i64 k, .string ch, .bool nt, .slice RA rl rc, .int .i64 mi, .int .i64 ma, .bool lz, .slice A kl c] 26)) (.cells #[.int .i64 k', .string ch', .bool nt', .slice RB ul rd, .int .i64 mi', .int .i64 ma', .bool lz', .slice B vl d] 26)
    have HBA := hide hba
    have HBD := hide (bl_trans HB0.out hba)
    clear hba
    have f0 : ((w.alloc (.cells #[.int .i64 k, .string ch, .bool nt, .slice RA rl rc, .int .i64 mi, .int .i64 ma, .bool lz, .slice A kl c] 26)).alloc (.cells #[.int .i64 k', .string ch', .bool nt', .slice RB ul rd, .int .i64 mi', .int .i64 ma', .bool lz', .slice B vl d] 26)).cell? ⟨w.heap.size, 0, none⟩ = some (.int .i64 k) := cell_later (bl_alloc (bl_refl _) _) (cells_lit w _ _ 0 _ rfl)
    have g0 : ((w.alloc (.cells #[.int .i64 k, .string ch, .bool nt, .slice RA rl rc, .int .i64 mi, .int .i64 ma, .bool lz, .slice A kl c] 26)).alloc (.cells #[.int .i64 k', .string ch', .bool nt', .slice RB ul rd, .int .i64 mi', .int .i64 ma', .bool lz', .slice B vl d] 26)).cell? ⟨w.heap.size + 1, 0, none⟩ = some (.int .i64 k') := cells_lit2 (w.alloc (.cells #[.int .i64 k, .string ch, .bool nt, .slice RA rl rc, .int .i64 mi, .int .i64 ma, .bool lz, .slice A kl c] 26)) _ _ 0 _ rfl (by simp)
    have f1 : ((w.alloc (.cells #[.int .i64 k, .string ch, .bool nt, .slice RA rl rc, .int .i64 mi, .int .i64 ma, .bool lz, .slice A kl c] 26)).alloc (.cells #[.int .i64 k', .string ch', .bool nt', .slice RB ul rd, .int .i64 mi', .int .i64 ma', .bool lz', .slice B vl d] 26)).cell? ⟨w.heap.size, 1, none⟩ = some (.string ch) := cell_later (bl_alloc (bl_refl _) _) (cells_lit w _ _ 1 _ rfl)
    have g1 : ((w.alloc (.cells #[.int .i64 k, .string ch, .bool nt, .slice RA rl rc, .int .i64 mi, .int .i64 ma, .bool lz, .slice A kl c] 26)).alloc (.cells #[.int .i64 k', .string ch', .bool nt', .slice RB ul rd, .int .i64 mi', .int .i64 ma', .bool lz', .slice B vl d] 26)).cell? ⟨w.heap.size + 1, 1, none⟩ = some (.string ch') := cells_lit2 (w.alloc (.cells #[.int .i64 k, .string ch, .bool nt, .slice RA rl rc, .int .i64 mi, .int .i64 ma, .bool lz, .slice A kl c] 26)) _ _ 1 _ rfl (by simp)
    have f2 : ((w.alloc (.cells #[.int .i64 k, .string ch, .bool nt, .slice RA rl rc, .int .i64 mi, .int .i64 ma, .bool lz, .slice A kl c] 26)).alloc (.cells #[.int .i64 k', .string ch', .bool nt', .slice RB ul rd, .int .i64 mi', .int .i64 ma', .bool lz', .slice B vl d] 26)).cell? ⟨w.heap.size, 2, none⟩ = some (.bool nt) := cell_later (bl_alloc (bl_refl _) _) (cells_lit w _ _ 2 _ rfl)
    have g2 : ((w.alloc (.cells #[.int .i64 k, .string ch, .bool nt, .slice RA rl rc, .int .i64 mi, .int .i64 ma, .bool lz, .slice A kl c] 26)).alloc (.cells #[.int .i64 k', .string ch', .bool nt', .slice RB ul rd, .int .i64 mi', .int .i64 ma', .bool lz', .slice B vl d] 26)).cell? ⟨w.heap.size + 1, 2, none⟩ = some (.bool nt') := cells_lit2 (w.alloc (.cells #[.int .i64 k, .string ch, .bool nt, .slice RA rl rc, .int .i64 mi, .int .i64 ma, .bool lz, .slice A kl c] 26)) _ _ 2 _ rfl (by simp)
    have f3 : ((w.alloc (.cells #[.int .i64 k, .string ch, .bool nt, .slice RA rl rc, .int .i64 mi, .int .i64 ma, .bool lz, .slice A kl c] 26)).alloc (.cells #[.int .i64 k', .string ch', .bool nt', .slice RB ul rd, .int .i64 mi', .int .i64 ma', .bool lz', .slice B vl d] 26)).cell? ⟨w.heap.size, 3, none⟩ = some (.slice RA rl rc) := cell_later (bl_alloc (bl_refl _) _) (cells_lit w _ _ 3 _ rfl)
    have g3 : ((w.alloc (.cells #[.int .i64 k, .string ch, .bool nt, .slice RA rl rc, .int .i64 mi, .int .i64 ma, .bool lz, .slice A kl c] 26)).alloc (.cells #[.int .i64 k', .string ch', .bool nt', .slice RB ul rd, .int .i64 mi', .int .i64 ma', .bool lz', .slice B vl d] 26)).cell? ⟨w.heap.size + 1, 3, none⟩ = some (.slice RB ul rd) := cells_lit2 (w.alloc (.cells #[.int .i64 k, .string ch, .bool nt, .slice RA rl rc, .int .i64 mi, .int .i64 ma, .bool lz, .slice A kl c] 26)) _ _ 3 _ rfl (by simp)
    have f4 : ((w.alloc (.cells #[.int .i64 k, .string ch, .bool nt, .slice RA rl rc, .int .i64 mi, .int .i64 ma, .bool lz, .slice A kl c] 26)).alloc (.cells #[.int .i64 k', .string ch', .bool nt', .slice RB ul rd, .int .i64 mi', .int .i64 ma', .bool lz', .slice B vl d] 26)).cell? ⟨w.heap.size, 4, none⟩ = some (.int .i64 mi) := cell_later (bl_alloc (bl_refl _) _) (cells_lit w _ _ 4 _ rfl)
    have g4 : ((w.alloc (.cells #[.int .i64 k, .string ch, .bool nt, .slice RA rl rc, .int .i64 mi, .int .i64 ma, .bool lz, .slice A kl c] 26)).alloc (.cells #[.int .i64 k', .string ch', .bool nt', .slice RB ul rd, .int .i64 mi', .int .i64 ma', .bool lz', .slice B vl d] 26)).cell? ⟨w.heap.size + 1, 4, none⟩ = some (.int .i64 mi') := cells_lit2 (w.alloc (.cells #[.int .i64 k, .string ch, .bool nt, .slice RA rl rc, .int .i64 mi, .int .i64 ma, .bool lz, .slice A kl c] 26)) _ _ 4 _ rfl (by simp)
    have f5 : ((w.alloc (.cells #[.int .i64 k, .string ch, .bool nt, .slice RA rl rc, .int .i64 mi, .int .i64 ma, .bool lz, .slice A kl c] 26)).alloc (.cells #[.int .i64 k', .string ch', .bool nt', .slice RB ul rd, .int .i64 mi', .int .i64 ma', .bool lz', .slice B vl d] 26)).cell? ⟨w.heap.size, 5, none⟩ = some (.int .i64 ma) := cell_later (bl_alloc (bl_refl _) _) (cells_lit w _ _ 5 _ rfl)
    have g5 : ((w.alloc (.cells #[.int .i64 k, .string ch, .bool nt, .slice RA rl rc, .int .i64 mi, .int .i64 ma, .bool lz, .slice A kl c] 26)).alloc (.cells #[.int .i64 k', .string ch', .bool nt', .slice RB ul rd, .int .i64 mi', .int .i64 ma', .bool lz', .slice B vl d] 26)).cell? ⟨w.heap.size + 1, 5, none⟩ = some (.int .i64 ma') := cells_lit2 (w.alloc (.cells #[.int .i64 k, .string ch, .bool nt, .slice RA rl rc, .int .i64 mi, .int .i64 ma, .bool lz, .slice A kl c] 26)) _ _ 5 _ rfl (by simp)
    have f6 : ((w.alloc (.cells #[.int .i64 k, .string ch, .bool nt, .slice RA rl rc, .int .i64 mi, .int .i64 ma, .bool lz, .slice A kl c] 26)).alloc (.cells #[.int .i64 k', .string ch', .bool nt', .slice RB ul rd, .int .i64 mi', .int .i64 ma', .bool lz', .slice B vl d] 26)).cell? ⟨w.heap.size, 6, none⟩ = some (.bool lz) := cell_later (bl_alloc (bl_refl _) _) (cells_lit w _ _ 6 _ rfl)
    have g6 : ((w.alloc (.cells #[.int .i64 k, .string ch, .bool nt, .slice RA rl rc, .int .i64 mi, .int .i64 ma, .bool lz, .slice A kl c] 26)).alloc (.cells #[.int .i64 k', .string ch', .bool nt', .slice RB ul rd, .int .i64 mi', .int .i64 ma', .bool lz', .slice B vl d] 26)).cell? ⟨w.heap.size + 1, 6, none⟩ = some (.bool lz') := cells_lit2 (w.alloc (.cells #[.int .i64 k, .string ch, .bool nt, .slice RA rl rc, .int .i64 mi, .int .i64 ma, .bool lz, .slice A kl c] 26)) _ _ 6 _ rfl (by simp)
    have f7 : ((w.alloc (.cells #[.int .i64 k, .string ch, .bool nt, .slice RA rl rc, .int .i64 mi, .int .i64 ma, .bool lz, .slice A kl c] 26)).alloc (.cells #[.int .i64 k', .string ch', .bool nt', .slice RB ul rd, .int .i64 mi', .int .i64 ma', .bool lz', .slice B vl d] 26)).cell? ⟨w.heap.size, 7, none⟩ = some (.slice A kl c) := cell_later (bl_alloc (bl_refl _) _) (cells_lit w _ _ 7 _ rfl)
    have g7 : ((w.alloc (.cells #[.int .i64 k, .string ch, .bool nt, .slice RA rl rc, .int .i64 mi, .int .i64 ma, .bool lz, .slice A kl c] 26)).alloc (.cells #[.int .i64 k', .string ch', .bool nt', .slice RB ul rd, .int .i64 mi', .int .i64 ma', .bool lz', .slice B vl d] 26)).cell? ⟨w.heap.size + 1, 7, none⟩ = some (.slice B vl d) := cells_lit2 (w.alloc (.cells #[.int .i64 k, .string ch, .bool nt, .slice RA rl rc, .int .i64 mi, .int .i64 ma, .bool lz, .slice A kl c] 26)) _ _ 7 _ rfl (by simp)
    have F7 := hide f7
    have G7 := hide g7
    rcases h0 : decide (k = k') with _ | _
    · have z0 := ileq _ _ _ h0
      obtain rfl : r = false := by rw [hM]; simp only [h0, Bool.false_and, Bool.and_false]
      clear hM h0
      go_enter Try.func33, Try.ntmps33
      go_wp2
      go_ret
      exact ⟨rfl, HBA.out⟩
    have z0 := ileq _ _ _ h0
    rcases h1 : decide (ch = ch') with _ | _
    · have z1 := tleq _ _ _ h1
      obtain rfl : r = false := by rw [hM]; simp only [h1, Bool.false_and, Bool.and_false]
      clear hM h0 h1
      go_enter Try.func33, Try.ntmps33
      go_wp2
      go_ret
      exact ⟨rfl, HBA.out⟩
    have z1 := tleq _ _ _ h1
    rcases h2 : decide (nt = nt') with _ | _
    · have z2 := bleq _ _ _ h2
      obtain rfl : r = false := by rw [hM]; simp only [h2, Bool.false_and, Bool.and_false]
      clear hM h0 h1 h2
      go_enter Try.func33, Try.ntmps33
      go_wp2
      go_ret
      exact ⟨rfl, HBA.out⟩
    have z2 := bleq _ _ _ h2
    rcases h3 : decide (mi = mi') with _ | _
    · have z3 := ileq _ _ _ h3
      obtain rfl : r = false := by rw [hM]; simp only [h3, Bool.false_and, Bool.and_false]
      clear hM h0 h1 h2 h3
      go_enter Try.func33, Try.ntmps33
      go_wp2
      go_ret
      exact ⟨rfl, HBA.out⟩
    have z3 := ileq _ _ _ h3
    rcases h4 : decide (ma = ma') with _ | _
    · have z4 := ileq _ _ _ h4
      obtain rfl : r = false := by rw [hM]; simp only [h4, Bool.false_and, Bool.and_false]
      clear hM h0 h1 h2 h3 h4
      go_enter Try.func33, Try.ntmps33
      go_wp2
      go_ret
      exact ⟨rfl, HBA.out⟩
    have z4 := ileq _ _ _ h4
    rcases h5 : decide (lz = lz') with _ | _
    · have z5 := bleq _ _ _ h5
      obtain rfl : r = false := by rw [hM]; simp only [h5, Bool.false_and, Bool.and_false]
      clear hM h0 h1 h2 h3 h4 h5
      go_enter Try.func33, Try.ntmps33
      go_wp2
      go_ret
      exact ⟨rfl, HBA.out⟩
    have z5 := bleq _ _ _ h5
    have HE := hide (show r = (qr && qk) by rw [hM]; simp only [h0, h1, h2, h3, h4, h5, Bool.true_and])
    clear hM h0 h1 h2 h3 h4 h5
    rcases qr with _ | _
    · go_enter Try.func33, Try.ntmps33
      go_wp2_with fail
      refine (HRC.out _ HBD.out).mono ?_
      rintro e w2 ⟨rfl, hb2⟩
      have HB3 := hide (bl_trans HBA.out hb2)
      have y7 := cell_later hb2 F7.out
      have x7 := cell_later hb2 G7.out
      clear hb2 f0 g0 f1 g1 f2 g2 f3 g3 f4 g4 f5 g5 f6 g6 f7 g7
      go_wp2
      go_ret
      exact ⟨ret_bool (by rw [HE.out]; rfl), HB3.out⟩
    · go_enter Try.func33, Try.ntmps33
      go_wp2_with fail
      refine (HRC.out _ HBD.out).mono ?_
      rintro e w2 ⟨rfl, hb2⟩
      have HB3 := hide (bl_trans HBA.out hb2)
      have y7 := cell_later hb2 F7.out
      have x7 := cell_later hb2 G7.out
      clear hb2 f0 g0 f1 g1 f2 g2 f3 g3 f4 g4 f5 g5 f6 g6 f7 g7
      have HB4 := hide (bl_trans HB0.out HB3.out)
      go_wp2_with fail
      refine (HKC.out _ HB4.out).mono ?_
      rintro e w3 ⟨rfl, hb3⟩
      have HB5 := hide (bl_trans HB3.out hb3)
      clear hb3
      go_wp2
      go_ret
      exact ⟨ret_bool (by rw [HE.out]; rfl), HB5.out⟩
theorem same_any {w0 : World} {t u : Rt} (h : RxAt w0 t) (g : RxAt w0 u) (w : World) (hb0 : Below w0.heap.size w0 w) : Calls Try.prog 15 #[t.v, u.v] w (SmPost (sameM t u) w) := by
  have HC := hide (fun W hb => samerx_any h u g W hb)
  have HB0 := hide hb0
  obtain ⟨A, c, hkv⟩ := ksat_len h.ks
  obtain ⟨RA, rc, hrv⟩ := rwat_len h.rows
  obtain ⟨B, d, hkv2⟩ := ksat_len g.ks
  obtain ⟨RB, rd, hrv2⟩ := rwat_len g.rows
  unfold Rt.v Rt.cs SmPost at *
  rw [hkv, hrv, hkv2, hrv2] at HC ⊢
  generalize sameM t u = r at *
  clear h g hb0 hkv hrv hkv2 hrv2
  generalize t.k = k at *
  generalize t.ch = ch at *
  generalize t.nt = nt at *
  generalize t.mi = mi at *
  generalize t.ma = ma at *
  generalize t.lz = lz at *
  generalize u.k = k' at *
  generalize u.ch = ch' at *
  generalize u.nt = nt' at *
  generalize u.mi = mi' at *
  generalize u.ma = ma' at *
  generalize u.lz = lz' at *
  generalize t.rows.length = rl at *
  generalize u.rows.length = ul at *
  generalize t.kids.length = kl at *
  generalize u.kids.length = vl at *
  have hba := bl_alloc (bl_alloc (bl_refl w) (.cells #[.int .i64 k, .string ch, .bool nt, .slice RA rl rc, .int .i64 mi, .int .i64 ma, .bool lz, .slice A kl c] 26)) (.cells #[.int .i64 k', .string ch', .bool nt', .slice RB ul rd, .int .i64 mi', .int .i64 ma', .bool lz', .slice B vl d] 26)
  have HBA := hide hba
  have HBD := hide (bl_trans HB0.out hba)
  clear hba
  have f0 : ((w.alloc (.cells #[.int .i64 k, .string ch, .bool nt, .slice RA rl rc, .int .i64 mi, .int .i64 ma, .bool lz, .slice A kl c] 26)).alloc (.cells #[.int .i64 k', .string ch', .bool nt', .slice RB ul rd, .int .i64 mi', .int .i64 ma', .bool lz', .slice B vl d] 26)).cell? ⟨w.heap.size, 0, none⟩ = some (.int .i64 k) := cell_later (bl_alloc (bl_refl _) _) (cells_lit w _ _ 0 _ rfl)
  have g0 : ((w.alloc (.cells #[.int .i64 k, .string ch, .bool nt, .slice RA rl rc, .int .i64 mi, .int .i64 ma, .bool lz, .slice A kl c] 26)).alloc (.cells #[.int .i64 k', .string ch', .bool nt', .slice RB ul rd, .int .i64 mi', .int .i64 ma', .bool lz', .slice B vl d] 26)).cell? ⟨w.heap.size + 1, 0, none⟩ = some (.int .i64 k') := cells_lit2 (w.alloc (.cells #[.int .i64 k, .string ch, .bool nt, .slice RA rl rc, .int .i64 mi, .int .i64 ma, .bool lz, .slice A kl c] 26)) _ _ 0 _ rfl (by simp)
  have f1 : ((w.alloc (.cells #[.int .i64 k, .string ch, .bool nt, .slice RA rl rc, .int .i64 mi, .int .i64 ma, .bool lz, .slice A kl c] 26)).alloc (.cells #[.int .i64 k', .string ch', .bool nt', .slice RB ul rd, .int .i64 mi', .int .i64 ma', .bool lz', .slice B vl d] 26)).cell? ⟨w.heap.size, 1, none⟩ = some (.string ch) := cell_later (bl_alloc (bl_refl _) _) (cells_lit w _ _ 1 _ rfl)
  have g1 : ((w.alloc (.cells #[.int .i64 k, .string ch, .bool nt, .slice RA rl rc, .int .i64 mi, .int .i64 ma, .bool lz, .slice A kl c] 26)).alloc (.cells #[.int .i64 k', .string ch', .bool nt', .slice RB ul rd, .int .i64 mi', .int .i64 ma', .bool lz', .slice B vl d] 26)).cell? ⟨w.heap.size + 1, 1, none⟩ = some (.string ch') := cells_lit2 (w.alloc (.cells #[.int .i64 k, .string ch, .bool nt, .slice RA rl rc, .int .i64 mi, .int .i64 ma, .bool lz, .slice A kl c] 26)) _ _ 1 _ rfl (by simp)
  have f2 : ((w.alloc (.cells #[.int .i64 k, .string ch, .bool nt, .slice RA rl rc, .int .i64 mi, .int .i64 ma, .bool lz, .slice A kl c] 26)).alloc (.cells #[.int .i64 k', .string ch', .bool nt', .slice RB ul rd, .int .i64 mi', .int .i64 ma', .bool lz', .slice B vl d] 26)).cell? ⟨w.heap.size, 2, none⟩ = some (.bool nt) := cell_later (bl_alloc (bl_refl _) _) (cells_lit w _ _ 2 _ rfl)
  have g2 : ((w.alloc (.cells #[.int .i64 k, .string ch, .bool nt, .slice RA rl rc, .int .i64 mi, .int .i64 ma, .bool lz, .slice A kl c] 26)).alloc (.cells #[.int .i64 k', .string ch', .bool nt', .slice RB ul rd, .int .i64 mi', .int .i64 ma', .bool lz', .slice B vl d] 26)).cell? ⟨w.heap.size + 1, 2, none⟩ = some (.bool nt') := cells_lit2 (w.alloc (.cells #[.int .i64 k, .string ch, .bool nt, .slice RA rl rc, .int .i64 mi, .int .i64 ma, .bool lz, .slice A kl c] 26)) _ _ 2 _ rfl (by simp)
  have f3 : ((w.alloc (.cells #[.int .i64 k, .string ch, .bool nt, .slice RA rl rc, .int .i64 mi, .int .i64 ma, .bool lz, .slice A kl c] 26)).alloc (.cells #[.int .i64 k', .string ch', .bool nt', .slice RB ul rd, .int .i64 mi', .int .i64 ma', .bool lz', .slice B vl d] 26)).cell? ⟨w.heap.size, 3, none⟩ = some (.slice RA rl rc) := cell_later (bl_alloc (bl_refl _) _) (cells_lit w _ _ 3 _ rfl)
  have g3 : ((w.alloc (.cells #[.int .i64 k, .string ch, .bool nt, .slice RA rl rc, .int .i64 mi, .int .i64 ma, .bool lz, .slice A kl c] 26)).alloc (.cells #[.int .i64 k', .string ch', .bool nt', .slice RB ul rd, .int .i64 mi', .int .i64 ma', .bool lz', .slice B vl d] 26)).cell? ⟨w.heap.size + 1, 3, none⟩ = some (.slice RB ul rd) := cells_lit2 (w.alloc (.cells #[.int .i64 k, .string ch, .bool nt, .slice RA rl rc, .int .i64 mi, .int .i64 ma, .bool lz, .slice A kl c] 26)) _ _ 3 _ rfl (by simp)
  have f4 : ((w.alloc (.cells #[.int .i64 k, .string ch, .bool nt, .slice RA rl rc, .int .i64 mi, .int .i64 ma, .bool lz, .slice A kl c] 26)).alloc (.cells #[.int .i64 k', .string ch', .bool nt', .slice RB ul rd, .int .i64 mi', .int .i64 ma', .bool lz', .slice B vl d] 26)).cell? ⟨w.heap.size, 4, none⟩ = some (.int .i64 mi) := cell_later (bl_alloc (bl_refl _) _) (cells_lit w _ _ 4 _ rfl)
  have g4 : ((w.alloc (.cells #[.int .i64 k, .string ch, .bool nt, .slice RA rl rc, .int .i64 mi, .int .i64 ma, .bool lz, .slice A kl c] 26)).alloc (.cells #[.int .i64 k', .string ch', .bool nt', .slice RB ul rd, .int .i64 mi', .int .i64 ma', .bool lz', .slice B vl d] 26)).cell? ⟨w.heap.size + 1, 4, none⟩ = some (.int .i64 mi') := cells_lit2 (w.alloc (.cells #[.int .i64 k, .string ch, .bool nt, .slice RA rl rc, .int .i64 mi, .int .i64 ma, .bool lz, .slice A kl c] 26)) _ _ 4 _ rfl (by simp)
  have f5 : ((w.alloc (.cells #[.int .i64 k, .string ch, .bool nt, .slice RA rl rc, .int .i64 mi, .int .i64 ma, .bool lz, .slice A kl c] 26)).alloc (.cells #[.int .i64 k', .string ch', .bool nt', .slice RB ul rd, .int .i64 mi', .int .i64 ma', .bool lz', .slice B vl d] 26)).cell? ⟨w.heap.size, 5, none⟩ = some (.int .i64 ma) := cell_later (bl_alloc (bl_refl _) _) (cells_lit w _ _ 5 _ rfl)
  have g5 : ((w.alloc (.cells #[.int .i64 k, .string ch, .bool nt, .slice RA rl rc, .int .i64 mi, .int .i64 ma, .bool lz, .slice A kl c] 26)).alloc (.cells #[.int .i64 k', .string ch', .bool nt', .slice RB ul rd, .int .i64 mi', .int .i64 ma', .bool lz', .slice B vl d] 26)).cell? ⟨w.heap.size + 1, 5, none⟩ = some (.int .i64 ma') := cells_lit2 (w.alloc (.cells #[.int .i64 k, .string ch, .bool nt, .slice RA rl rc, .int .i64 mi, .int .i64 ma, .bool lz, .slice A kl c] 26)) _ _ 5 _ rfl (by simp)
  have f6 : ((w.alloc (.cells #[.int .i64 k, .string ch, .bool nt, .slice RA rl rc, .int .i64 mi, .int .i64 ma, .bool lz, .slice A kl c] 26)).alloc (.cells #[.int .i64 k', .string ch', .bool nt', .slice RB ul rd, .int .i64 mi', .int .i64 ma', .bool lz', .slice B vl d] 26)).cell? ⟨w.heap.size, 6, none⟩ = some (.bool lz) := cell_later (bl_alloc (bl_refl _) _) (cells_lit w _ _ 6 _ rfl)
  have g6 : ((w.alloc (.cells #[.int .i64 k, .string ch, .bool nt, .slice RA rl rc, .int .i64 mi, .int .i64 ma, .bool lz, .slice A kl c] 26)).alloc (.cells #[.int .i64 k', .string ch', .bool nt', .slice RB ul rd, .int .i64 mi', .int .i64 ma', .bool lz', .slice B vl d] 26)).cell? ⟨w.heap.size + 1, 6, none⟩ = some (.bool lz') := cells_lit2 (w.alloc (.cells #[.int .i64 k, .string ch, .bool nt, .slice RA rl rc, .int .i64 mi, .int .i64 ma, .bool lz, .slice A kl c] 26)) _ _ 6 _ rfl (by simp)
  have f7 : ((w.alloc (.cells #[.int .i64 k, .string ch, .bool nt, .slice RA rl rc, .int .i64 mi, .int .i64 ma, .bool lz, .slice A kl c] 26)).alloc (.cells #[.int .i64 k', .string ch', .bool nt', .slice RB ul rd, .int .i64 mi', .int .i64 ma', .bool lz', .slice B vl d] 26)).cell? ⟨w.heap.size, 7, none⟩ = some (.slice A kl c) := cell_later (bl_alloc (bl_refl _) _) (cells_lit w _ _ 7 _ rfl)
  have g7 : ((w.alloc (.cells #[.int .i64 k, .string ch, .bool nt, .slice RA rl rc, .int .i64 mi, .int .i64 ma, .bool lz, .slice A kl c] 26)).alloc (.cells #[.int .i64 k', .string ch', .bool nt', .slice RB ul rd, .int .i64 mi', .int .i64 ma', .bool lz', .slice B vl d] 26)).cell? ⟨w.heap.size + 1, 7, none⟩ = some (.slice B vl d) := cells_lit2 (w.alloc (.cells #[.int .i64 k, .string ch, .bool nt, .slice RA rl rc, .int .i64 mi, .int .i64 ma, .bool lz, .slice A kl c] 26)) _ _ 7 _ rfl (by simp)
  go_enter Try.func15, Try.ntmps15
  go_wp2_with fail
  refine (HC.out _ HBD.out).mono ?_
  rintro e w2 ⟨rfl, hb2⟩
  have HB3 := hide (bl_trans HBA.out hb2)
  clear hb2 f0 g0 f1 g1 f2 g2 f3 g3 f4 g4 f5 g5 f6 g6 f7 g7
  go_wp2
  go_ret
  exact ⟨rfl, HB3.out⟩
end Go.Proofs.Ytcgphknnnjpbkaa
