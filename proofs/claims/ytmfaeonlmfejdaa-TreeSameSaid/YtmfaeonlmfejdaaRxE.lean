/- Contract: gimletref13.Same. No condition. -/
import Derived.Test.YtmfaeonlmfejdaaRxD
import Derived.Deep.RegionHeld3
namespace Go.Proofs.Ytmfaeonlmfejdaa
open Go.ChangeShapes Go.WideShapes Go.ChangeAt Go.RowKit
open SetM
attribute [local go_sem ↓] Go.wp_at_zero Go.wp_at_succ
attribute [local go_sem] eqgn_rw
attribute [local go_sem ↓] neq_rw
set_option maxRecDepth 100000
set_option linter.unusedVariables false
set_option linter.unusedSimpArgs false
theorem tlne (a b : ByteArray) (r : Bool) (h : decide (a = b) = r) : (a.toList != b.toList) = !r := by
  show (!(a.toList == b.toList)) = !r; rw [tleq a b r h]
theorem blne (a b : Bool) (r : Bool) (h : decide (a = b) = r) : (a != b) = !r := by
  rw [← h]; cases a <;> cases b <;> rfl
theorem ilne (a b : Int) (r : Bool) (h : decide (a = b) = r) : (a != b) = !r := by
  rw [← h]; by_cases e : a = b <;> simp [e]
set_option maxHeartbeats 4000000 in
theorem rsame_any {w0 : World} {t : Rt} (h : RxAt w0 t) : ∀ u, RxAt w0 u → ∀ w, Below w0.heap.size w0 w → Calls Try.prog 20 #[t.v, u.v] w (SmPost (sameM t u) w) := by
  induction h with
  | mk t hr hk hs ih =>
    intro u hu w hb0
    have hM := sameM_eq t u
    have HR := hide hr
    have HRU := hide hu.rows
    have HK := hide hk
    have HKU := hide hu.ks
    have HX := hide hs
    have GX := hide (fun i hi => hu.kid i hi)
    have HF2 := hide (fun i (hi : i < t.kids.length) (gi : i < u.kids.length) W hb => ih i hi _ (hu.kid i gi) W hb)
    have HB0 := hide hb0
    obtain ⟨A, c, hkv⟩ := ksat_len hk
    obtain ⟨RA, rc, hrv⟩ := rwat_len hr
    obtain ⟨B, d, hkv2⟩ := ksat_len hu.ks
    obtain ⟨RB, rd, hrv2⟩ := rwat_len hu.rows
    unfold Rt.v Rt.cs SmPost
    rw [hkv] at HK
    rw [hkv2] at HKU
    rw [hrv] at HR
    rw [hrv2] at HRU
    rw [hkv, hrv, hkv2, hrv2]
    obtain ⟨r, hrr⟩ : ∃ r, sameM t u = r := ⟨_, rfl⟩
    rw [hrr] at hM ⊢
    clear hr hk hs ih hu hb0 hkv hrv hkv2 hrv2 hrr
    obtain ⟨k, hgk⟩ : ∃ x, t.k = x := ⟨_, rfl⟩
    obtain ⟨k', hgk'⟩ : ∃ x, u.k = x := ⟨_, rfl⟩
    rw [hgk, hgk'] at hM ⊢
    generalize t.ch = ch at *
    generalize t.nt = nt at *
    generalize t.mi = mi at *
    generalize t.ma = ma at *
    generalize t.lz = lz at *
    generalize u.ch = ch' at *
    generalize u.nt = nt' at *
    generalize u.mi = mi' at *
    generalize u.ma = ma' at *
    generalize u.lz = lz' at *
    clear hgk hgk'
    generalize t.rows = rl at *
    generalize u.rows = ul at *
    generalize t.kids = kl at *
    generalize u.kids = vl at *
    have hba := bl_alloc (bl_alloc (bl_refl w) (.cells #[.int .i64 k, .string ch, .bool nt, .slice RA rl.length rc, .int .i64 mi, .int .i64 ma, .bool lz, .slice A kl.length c] 25)) (.cells #[.int .i64 k', .string ch', .bool nt', .slice RB ul.length rd, .int .i64 mi', .int .i64 ma', .bool lz', .slice B vl.length d] 25)
    have HBA := hide hba
    have HBD := hide (bl_trans HB0.out hba)
    clear hba
    have f0 : ((w.alloc (.cells #[.int .i64 k, .string ch, .bool nt, .slice RA rl.length rc, .int .i64 mi, .int .i64 ma, .bool lz, .slice A kl.length c] 25)).alloc (.cells #[.int .i64 k', .string ch', .bool nt', .slice RB ul.length rd, .int .i64 mi', .int .i64 ma', .bool lz', .slice B vl.length d] 25)).cell? ⟨w.heap.size, 0, none⟩ = some (.int .i64 k) := cell_later (bl_alloc (bl_refl _) _) (cells_lit w _ _ 0 _ rfl)
    have g0 : ((w.alloc (.cells #[.int .i64 k, .string ch, .bool nt, .slice RA rl.length rc, .int .i64 mi, .int .i64 ma, .bool lz, .slice A kl.length c] 25)).alloc (.cells #[.int .i64 k', .string ch', .bool nt', .slice RB ul.length rd, .int .i64 mi', .int .i64 ma', .bool lz', .slice B vl.length d] 25)).cell? ⟨w.heap.size + 1, 0, none⟩ = some (.int .i64 k') := cells_lit2 (w.alloc (.cells #[.int .i64 k, .string ch, .bool nt, .slice RA rl.length rc, .int .i64 mi, .int .i64 ma, .bool lz, .slice A kl.length c] 25)) _ _ 0 _ rfl (by simp)
    have f1 : ((w.alloc (.cells #[.int .i64 k, .string ch, .bool nt, .slice RA rl.length rc, .int .i64 mi, .int .i64 ma, .bool lz, .slice A kl.length c] 25)).alloc (.cells #[.int .i64 k', .string ch', .bool nt', .slice RB ul.length rd, .int .i64 mi', .int .i64 ma', .bool lz', .slice B vl.length d] 25)).cell? ⟨w.heap.size, 1, none⟩ = some (.string ch) := cell_later (bl_alloc (bl_refl _) _) (cells_lit w _ _ 1 _ rfl)
    have g1 : ((w.alloc (.cells #[.int .i64 k, .string ch, .bool nt, .slice RA rl.length rc, .int .i64 mi, .int .i64 ma, .bool lz, .slice A kl.length c] 25)).alloc (.cells #[.int .i64 k', .string ch', .bool nt', .slice RB ul.length rd, .int .i64 mi', .int .i64 ma', .bool lz', .slice B vl.length d] 25)).cell? ⟨w.heap.size + 1, 1, none⟩ = some (.string ch') := cells_lit2 (w.alloc (.cells #[.int .i64 k, .string ch, .bool nt, .slice RA rl.length rc, .int .i64 mi, .int .i64 ma, .bool lz, .slice A kl.length c] 25)) _ _ 1 _ rfl (by simp)
    have f2 : ((w.alloc (.cells #[.int .i64 k, .string ch, .bool nt, .slice RA rl.length rc, .int .i64 mi, .int .i64 ma, .bool lz, .slice A kl.length c] 25)).alloc (.cells #[.int .i64 k', .string ch', .bool nt', .slice RB ul.length rd, .int .i64 mi', .int .i64 ma', .bool lz', .slice B vl.length d] 25)).cell? ⟨w.heap.size, 2, none⟩ = some (.bool nt) := cell_later (bl_alloc (bl_refl _) _) (cells_lit w _ _ 2 _ rfl)
    have g2 : ((w.alloc (.cells #[.int .i64 k, .string ch, .bool nt, .slice RA rl.length rc, .int .i64 mi, .int .i64 ma, .bool lz, .slice A kl.length c] 25)).alloc (.cells #[.int .i64 k', .string ch', .bool nt', .slice RB ul.length rd, .int .i64 mi', .int .i64 ma', .bool lz', .slice B vl.length d] 25)).cell? ⟨w.heap.size + 1, 2, none⟩ = some (.bool nt') := cells_lit2 (w.alloc (.cells #[.int .i64 k, .string ch, .bool nt, .slice RA rl.length rc, .int .i64 mi, .int .i64 ma, .bool lz, .slice A kl.length c] 25)) _ _ 2 _ rfl (by simp)
    have f3 : ((w.alloc (.cells #[.int .i64 k, .string ch, .bool nt, .slice RA rl.length rc, .int .i64 mi, .int .i64 ma, .bool lz, .slice A kl.length c] 25)).alloc (.cells #[.int .i64 k', .string ch', .bool nt', .slice RB ul.length rd, .int .i64 mi', .int .i64 ma', .bool lz', .slice B vl.length d] 25)).cell? ⟨w.heap.size, 3, none⟩ = some (.slice RA rl.length rc) := cell_later (bl_alloc (bl_refl _) _) (cells_lit w _ _ 3 _ rfl)
    have g3 : ((w.alloc (.cells #[.int .i64 k, .string ch, .bool nt, .slice RA rl.length rc, .int .i64 mi, .int .i64 ma, .bool lz, .slice A kl.length c] 25)).alloc (.cells #[.int .i64 k', .string ch', .bool nt', .slice RB ul.length rd, .int .i64 mi', .int .i64 ma', .bool lz', .slice B vl.length d] 25)).cell? ⟨w.heap.size + 1, 3, none⟩ = some (.slice RB ul.length rd) := cells_lit2 (w.alloc (.cells #[.int .i64 k, .string ch, .bool nt, .slice RA rl.length rc, .int .i64 mi, .int .i64 ma, .bool lz, .slice A kl.length c] 25)) _ _ 3 _ rfl (by simp)
    have f4 : ((w.alloc (.cells #[.int .i64 k, .string ch, .bool nt, .slice RA rl.length rc, .int .i64 mi, .int .i64 ma, .bool lz, .slice A kl.length c] 25)).alloc (.cells #[.int .i64 k', .string ch', .bool nt', .slice RB ul.length rd, .int .i64 mi', .int .i64 ma', .bool lz', .slice B vl.length d] 25)).cell? ⟨w.heap.size, 4, none⟩ = some (.int .i64 mi) := cell_later (bl_alloc (bl_refl _) _) (cells_lit w _ _ 4 _ rfl)
    have g4 : ((w.alloc (.cells #[.int .i64 k, .string ch, .bool nt, .slice RA rl.length rc, .int .i64 mi, .int .i64 ma, .bool lz, .slice A kl.length c] 25)).alloc (.cells #[.int .i64 k', .string ch', .bool nt', .slice RB ul.length rd, .int .i64 mi', .int .i64 ma', .bool lz', .slice B vl.length d] 25)).cell? ⟨w.heap.size + 1, 4, none⟩ = some (.int .i64 mi') := cells_lit2 (w.alloc (.cells #[.int .i64 k, .string ch, .bool nt, .slice RA rl.length rc, .int .i64 mi, .int .i64 ma, .bool lz, .slice A kl.length c] 25)) _ _ 4 _ rfl (by simp)
    have f5 : ((w.alloc (.cells #[.int .i64 k, .string ch, .bool nt, .slice RA rl.length rc, .int .i64 mi, .int .i64 ma, .bool lz, .slice A kl.length c] 25)).alloc (.cells #[.int .i64 k', .string ch', .bool nt', .slice RB ul.length rd, .int .i64 mi', .int .i64 ma', .bool lz', .slice B vl.length d] 25)).cell? ⟨w.heap.size, 5, none⟩ = some (.int .i64 ma) := cell_later (bl_alloc (bl_refl _) _) (cells_lit w _ _ 5 _ rfl)
    have g5 : ((w.alloc (.cells #[.int .i64 k, .string ch, .bool nt, .slice RA rl.length rc, .int .i64 mi, .int .i64 ma, .bool lz, .slice A kl.length c] 25)).alloc (.cells #[.int .i64 k', .string ch', .bool nt', .slice RB ul.length rd, .int .i64 mi', .int .i64 ma', .bool lz', .slice B vl.length d] 25)).cell? ⟨w.heap.size + 1, 5, none⟩ = some (.int .i64 ma') := cells_lit2 (w.alloc (.cells #[.int .i64 k, .string ch, .bool nt, .slice RA rl.length rc, .int .i64 mi, .int .i64 ma, .bool lz, .slice A kl.length c] 25)) _ _ 5 _ rfl (by simp)
    have f6 : ((w.alloc (.cells #[.int .i64 k, .string ch, .bool nt, .slice RA rl.length rc, .int .i64 mi, .int .i64 ma, .bool lz, .slice A kl.length c] 25)).alloc (.cells #[.int .i64 k', .string ch', .bool nt', .slice RB ul.length rd, .int .i64 mi', .int .i64 ma', .bool lz', .slice B vl.length d] 25)).cell? ⟨w.heap.size, 6, none⟩ = some (.bool lz) := cell_later (bl_alloc (bl_refl _) _) (cells_lit w _ _ 6 _ rfl)
    have g6 : ((w.alloc (.cells #[.int .i64 k, .string ch, .bool nt, .slice RA rl.length rc, .int .i64 mi, .int .i64 ma, .bool lz, .slice A kl.length c] 25)).alloc (.cells #[.int .i64 k', .string ch', .bool nt', .slice RB ul.length rd, .int .i64 mi', .int .i64 ma', .bool lz', .slice B vl.length d] 25)).cell? ⟨w.heap.size + 1, 6, none⟩ = some (.bool lz') := cells_lit2 (w.alloc (.cells #[.int .i64 k, .string ch, .bool nt, .slice RA rl.length rc, .int .i64 mi, .int .i64 ma, .bool lz, .slice A kl.length c] 25)) _ _ 6 _ rfl (by simp)
    have f7 : ((w.alloc (.cells #[.int .i64 k, .string ch, .bool nt, .slice RA rl.length rc, .int .i64 mi, .int .i64 ma, .bool lz, .slice A kl.length c] 25)).alloc (.cells #[.int .i64 k', .string ch', .bool nt', .slice RB ul.length rd, .int .i64 mi', .int .i64 ma', .bool lz', .slice B vl.length d] 25)).cell? ⟨w.heap.size, 7, none⟩ = some (.slice A kl.length c) := cell_later (bl_alloc (bl_refl _) _) (cells_lit w _ _ 7 _ rfl)
    have g7 : ((w.alloc (.cells #[.int .i64 k, .string ch, .bool nt, .slice RA rl.length rc, .int .i64 mi, .int .i64 ma, .bool lz, .slice A kl.length c] 25)).alloc (.cells #[.int .i64 k', .string ch', .bool nt', .slice RB ul.length rd, .int .i64 mi', .int .i64 ma', .bool lz', .slice B vl.length d] 25)).cell? ⟨w.heap.size + 1, 7, none⟩ = some (.slice B vl.length d) := cells_lit2 (w.alloc (.cells #[.int .i64 k, .string ch, .bool nt, .slice RA rl.length rc, .int .i64 mi, .int .i64 ma, .bool lz, .slice A kl.length c] 25)) _ _ 7 _ rfl (by simp)
    have F7 := hide f7
    have G7 := hide g7
    have F3 := hide f3
    have G3 := hide g3
    rcases h0 : decide (k = k') with _ | _
    · have z0 : (k != k') = true := ilne _ _ _ h0
      have z9 : (k == k') = false := ileq _ _ _ h0
      obtain rfl : r = false := by rw [hM]; simp only [h0, Bool.false_and, Bool.and_false]
      clear hM h0
      go_enter Try.func20, Try.ntmps20
      go_wp2
      go_ret
      exact ⟨rfl, HBA.out⟩
    obtain rfl := of_decide_eq_true h0
    rcases h1 : decide (ch = ch') with _ | _
    · have z1 : (ch.toList != ch'.toList) = true := tlne _ _ _ h1
      have z9 : (ch.toList == ch'.toList) = false := tleq _ _ _ h1
      obtain rfl : r = false := by rw [hM]; simp only [h1, Bool.false_and, Bool.and_false]
      clear hM h1
      go_enter Try.func20, Try.ntmps20
      go_wp2
      go_ret
      exact ⟨rfl, HBA.out⟩
    obtain rfl := of_decide_eq_true h1
    rcases h2 : decide (nt = nt') with _ | _
    · have z2 : (nt != nt') = true := blne _ _ _ h2
      have z9 : (nt == nt') = false := bleq _ _ _ h2
      obtain rfl : r = false := by rw [hM]; simp only [h2, Bool.false_and, Bool.and_false]
      clear hM h2
      go_enter Try.func20, Try.ntmps20
      go_wp2
      go_ret
      exact ⟨rfl, HBA.out⟩
    obtain rfl := of_decide_eq_true h2
    rcases h3 : decide (mi = mi') with _ | _
    · have z3 : (mi != mi') = true := ilne _ _ _ h3
      have z9 : (mi == mi') = false := ileq _ _ _ h3
      obtain rfl : r = false := by rw [hM]; simp only [h3, Bool.false_and, Bool.and_false]
      clear hM h3
      go_enter Try.func20, Try.ntmps20
      go_wp2
      go_ret
      exact ⟨rfl, HBA.out⟩
    obtain rfl := of_decide_eq_true h3
    rcases h4 : decide (ma = ma') with _ | _
    · have z4 : (ma != ma') = true := ilne _ _ _ h4
      have z9 : (ma == ma') = false := ileq _ _ _ h4
      obtain rfl : r = false := by rw [hM]; simp only [h4, Bool.false_and, Bool.and_false]
      clear hM h4
      go_enter Try.func20, Try.ntmps20
      go_wp2
      go_ret
      exact ⟨rfl, HBA.out⟩
    obtain rfl := of_decide_eq_true h4
    rcases h5 : decide (lz = lz') with _ | _
    · have z5 : (lz != lz') = true := blne _ _ _ h5
      have z9 : (lz == lz') = false := bleq _ _ _ h5
      obtain rfl : r = false := by rw [hM]; simp only [h5, Bool.false_and, Bool.and_false]
      clear hM h5
      go_enter Try.func20, Try.ntmps20
      go_wp2
      go_ret
      exact ⟨rfl, HBA.out⟩
    obtain rfl := of_decide_eq_true h5
    have hE : r = (decide (rl = ul) && sameL kl vl) := by rw [hM]; simp
    clear hM h0 h1 h2 h3 h4 h5
    by_cases q6 : rl.length = ul.length
    case neg =>
      have z6 : ((rl.length : Int) != (ul.length : Int)) = true := by simp; omega
      obtain rfl : r = false := by
        rw [hE, decide_eq_false (fun e => q6 (by rw [e]))]; rfl
      clear hE q6
      go_enter Try.func20, Try.ntmps20
      go_wp2
      go_ret
      exact ⟨rfl, HBA.out⟩
    have z6 : ((rl.length : Int) != (ul.length : Int)) = false := by simp; omega
    by_cases q7 : kl.length = vl.length
    case neg =>
      have z7 : ((kl.length : Int) != (vl.length : Int)) = true := by simp; omega
      obtain rfl : r = false := by
        cases r with
        | false => rfl
        | true =>
          simp only [Bool.true_eq, Bool.and_eq_true] at hE
          exact absurd (sameL_len _ _ hE.2) q7
      clear hE q6 q7
      go_enter Try.func20, Try.ntmps20
      go_wp2
      go_ret
      exact ⟨rfl, HBA.out⟩
    have z7 : ((kl.length : Int) != (vl.length : Int)) = false := by simp; omega
    have HE := hide hE
    have Q6 := hide q6
    have Q7 := hide q7
    have q6' : rl.length ≤ ul.length := by omega
    have q7' : kl.length ≤ vl.length := by omega
    clear hE q6 q7
    go_enter Try.func20, Try.ntmps20
    go_wp2
    clear f0 g0 f1 g1 f2 g2 f3 g3 f4 g4 f5 g5 f6 g6 f7 g7 z6 z7
    go_loopw [5] (fun i wr => ∃ j : Nat, j ≤ rl.length ∧ i = .int .i64 j ∧ Hid (rl.take j = ul.take j) ∧ Hid (Below w.heap.size w wr) ∧ Hid (wr.cell? ⟨w.heap.size, 3, none⟩ = some (.slice RA rl.length rc)) ∧ Hid (wr.cell? ⟨w.heap.size, 7, none⟩ = some (.slice A kl.length c)) ∧ Hid (wr.cell? ⟨w.heap.size + 1, 3, none⟩ = some (.slice RB ul.length rd)) ∧ Hid (wr.cell? ⟨w.heap.size + 1, 7, none⟩ = some (.slice B vl.length d))) (fun i _ => rl.length - (intOf i).toNat)
    case atStart => exact ⟨0, Nat.zero_le _, rfl, hide rfl, HBA, F3, F7, G3, G7⟩
    case round =>
      obtain ⟨j, hj, rfl, HT, HBL, P3, P7, S3, S7⟩ := hrel
      have c3 := P3.out
      have c7 := P7.out
      have d3 := S3.out
      have d7 := S7.out
      by_cases hlt : j < rl.length
      · have HBW := hide (bl_trans HB0.out HBL.out)
        obtain ⟨b1, o1, c1, hv1, hc1, hm1, hlb1, hcell1⟩ := rwat_some (rwat_below HR.out HBW.out) (by omega)
        obtain ⟨b2, o2, c2, hv2, hc2, hm2, hlb2, hcell2⟩ := rwat_some (rwat_below HRU.out HBW.out) (by omega)
        injection hv1 with hv1 _ hv1c
        injection hv2 with hv2 _ hv2c
        subst hv1 hv1c hv2 hv2c
        unfold maxLen at hm1 hm2
        have hlt2 : j < ul.length := by omega
        obtain ⟨x0, x1⟩ := hcell1 j hlt
        obtain ⟨y0, y1⟩ := hcell2 j hlt2
        have HS := hide (fun e => take_eq_succ rl ul j hlt hlt2 HT.out e)
        have HN := hide (show ¬ rl[j] = ul[j] → rl ≠ ul from fun hn he => hn (by subst he; rfl))
        clear hcell1 hcell2
        obtain ⟨p, hp⟩ : ∃ p, rl[j] = p := ⟨_, rfl⟩
        obtain ⟨q, hq⟩ : ∃ q, ul[j] = q := ⟨_, rfl⟩
        rw [hp] at x0 x1 HS HN
        rw [hq] at y0 y1 HS HN
        have i1 : (0 : Int) ≤ (j : Int) := by omega
        have i2 : (j : Int) < (rl.length : Int) := by omega
        have i3 : (j : Int) < (ul.length : Int) := by omega
        have gl : decide ((j : Int) < (rl.length : Int)) = true := decide_eq_true i2
        have gl' : decide (j < rl.length) = true := decide_eq_true hlt
        have e5 : IntKind.i64.wrap ((j : Int) + 1) = (j : Int) + 1 := by rw [IntKind.wrap_i64]; omega
        clear hp hq HT
        by_cases he : p = q
        · have hd : (!decide (p = q)) = false := by simp [he]
          have HS2 := hide (HS.out he)
          clear HS HN he
          go_wp2
          go_quiet (fail)
          have HB2 := hide (bl_drewN HBL.out nq)
          have P3' := hide (cell_later (bl_drewN (bl_refl wr) nq) c3)
          have P7' := hide (cell_later (bl_drewN (bl_refl wr) nq) c7)
          have S3' := hide (cell_later (bl_drewN (bl_refl wr) nq) d3)
          have S7' := hide (cell_later (bl_drewN (bl_refl wr) nq) d7)
          clear x0 x1 y0 y1 c3 c7 d3 d7
          go_wp2
          refine ⟨?_, by first | (simp [intOf]; done) | (simp [intOf]; omega)⟩
          first
            | exact ⟨j + 1, by omega, by go_num, HS2, HB2, P3', P7', S3', S7'⟩
            | ((repeat apply Exists.intro); exact ⟨⟨j + 1, by omega, by go_num, HS2, HB2, P3', P7', S3', S7'⟩, rfl⟩)
        · have hd : (!decide (p = q)) = true := by simp [he]
          have HN2 := hide (show r = false by rw [HE.out, decide_eq_false (HN.out he)]; rfl)
          clear HS HN he
          go_wp2
          go_quiet (fail)
          have HB2 := hide (bl_drewN HBL.out nq)
          clear x0 x1 y0 y1 c3 c7 d3 d7
          go_wp2
          go_ret
          exact ⟨ret_bool HN2.out.symm, HB2.out⟩
      · obtain rfl : j = rl.length := by omega
        have gl : decide ((rl.length : Int) < (rl.length : Int)) = false := by simp
        have gl' : decide (rl.length < rl.length) = false := by simp
        have hj := HT.out
        rw [List.take_length, Q6.out, List.take_length] at hj
        have HE2 := hide (show r = sameL kl vl by rw [HE.out, decide_eq_true hj]; rfl)
        clear hj hlt HT HE
        go_wp2
        clear c3 c7 d3 d7 gl gl'
        go_loopw [6] (fun i wq => ∃ j : Nat, j ≤ kl.length ∧ i = .int .i64 j ∧ Hid (sameL (kl.take j) (vl.take j) = true) ∧ Hid (Below w.heap.size w wq) ∧ Hid (wq.cell? ⟨w.heap.size, 7, none⟩ = some (.slice A kl.length c)) ∧ Hid (wq.cell? ⟨w.heap.size + 1, 7, none⟩ = some (.slice B vl.length d))) (fun i _ => kl.length - (intOf i).toNat)
        case atStart => exact ⟨0, Nat.zero_le _, rfl, hide (by simp [sameL]), HBL, P7, S7⟩
        case round =>
          obtain ⟨j, hj, rfl, HT, HBL2, P72, S72⟩ := hrel
          have c7 := P72.out
          have d7 := S72.out
          by_cases hlt : j < kl.length
          · have HBW := hide (bl_trans HB0.out HBL2.out)
            obtain ⟨b1, o1, c1, hv1, hc1, hm1, hlb1, hcell1⟩ := ksat_8 (ksat_below HK.out HBW.out) (by omega)
            obtain ⟨b2, o2, c2, hv2, hc2, hm2, hlb2, hcell2⟩ := ksat_8 (ksat_below HKU.out HBW.out) (by omega)
            injection hv1 with hv1 _ hv1c
            injection hv2 with hv2 _ hv2c
            subst hv1 hv1c hv2 hv2c
            unfold maxLen at hm1 hm2
            have hlt2 : j < vl.length := by omega
            obtain ⟨x0, x1, x2, x3, x4, x5, x6, x7⟩ := hcell1 j hlt
            obtain ⟨y0, y1, y2, y3, y4, y5, y6, y7⟩ := hcell2 j hlt2
            have HC := fun W hb => HF2.out j hlt hlt2 W hb
            have hxp := HX.out j hlt
            have hxq := GX.out j hlt2
            have HS := hide (fun e => sameL_succ kl vl j hlt hlt2 HT.out e)
            have HN := hide (fun e => sameL_at kl vl j hlt hlt2 e)
            clear hcell1 hcell2
            obtain ⟨p, hp⟩ : ∃ p, kl[j] = p := ⟨_, rfl⟩
            obtain ⟨q, hq⟩ : ∃ q, vl[j] = q := ⟨_, rfl⟩
            rw [hp] at x0 x1 x2 x3 x4 x5 x6 x7 HC HS HN hxp
            rw [hq] at y0 y1 y2 y3 y4 y5 y6 y7 HC HS HN hxq
            obtain ⟨pA, pc, hprv⟩ := rwat_len hxp.rows
            obtain ⟨pB, pd, hpkv⟩ := ksat_len hxp.ks
            obtain ⟨qA, qc, hqrv⟩ := rwat_len hxq.rows
            obtain ⟨qB, qd, hqkv⟩ := ksat_len hxq.ks
            unfold Rt.v Rt.cs SmPost at HC
            rw [hprv] at x3 HC
            rw [hpkv] at x7 HC
            rw [hqrv] at y3 HC
            rw [hqkv] at y7 HC
            clear hxp hxq hprv hpkv hqrv hqkv
            have HC2 := hide HC
            have i1 : (0 : Int) ≤ (j : Int) := by omega
            have i2 : (j : Int) < (kl.length : Int) := by omega
            have i3 : (j : Int) < (vl.length : Int) := by omega
            have gl : decide ((j : Int) < (kl.length : Int)) = true := decide_eq_true i2
            have gl' : decide (j < kl.length) = true := decide_eq_true hlt
            have e5 : IntKind.i64.wrap ((j : Int) + 1) = (j : Int) + 1 := by rw [IntKind.wrap_i64]; omega
            obtain ⟨s, hs⟩ : ∃ s, sameM p q = s := ⟨_, rfl⟩
            rw [hs] at HC2 HS HN
            clear hp hq HC HT hs
            cases s with
            | true =>
              have HS2 := hide (HS.out rfl)
              clear HS HN
              have HKEEP := hide (show ∀ W, Below wr.heap.size wr W → (fun (W : World) => W.cell? ⟨w.heap.size, 7, none⟩ = some (.slice (some ⟨b1, o1, none⟩) kl.length c) ∧ W.cell? ⟨w.heap.size + 1, 7, none⟩ = some (.slice (some ⟨b2, o2, none⟩) vl.length d) ∧ W.cell? ⟨b1, o1 + j * 8, none⟩ = some (.int .i64 p.k) ∧ W.cell? ⟨b2, o2 + j * 8, none⟩ = some (.int .i64 q.k) ∧ W.cell? ⟨b1, o1 + j * 8 + 1, none⟩ = some (.string p.ch) ∧ W.cell? ⟨b2, o2 + j * 8 + 1, none⟩ = some (.string q.ch) ∧ W.cell? ⟨b1, o1 + j * 8 + 2, none⟩ = some (.bool p.nt) ∧ W.cell? ⟨b2, o2 + j * 8 + 2, none⟩ = some (.bool q.nt) ∧ W.cell? ⟨b1, o1 + j * 8 + 3, none⟩ = some (.slice pA p.rows.length pc) ∧ W.cell? ⟨b2, o2 + j * 8 + 3, none⟩ = some (.slice qA q.rows.length qc) ∧ W.cell? ⟨b1, o1 + j * 8 + 4, none⟩ = some (.int .i64 p.mi) ∧ W.cell? ⟨b2, o2 + j * 8 + 4, none⟩ = some (.int .i64 q.mi) ∧ W.cell? ⟨b1, o1 + j * 8 + 5, none⟩ = some (.int .i64 p.ma) ∧ W.cell? ⟨b2, o2 + j * 8 + 5, none⟩ = some (.int .i64 q.ma) ∧ W.cell? ⟨b1, o1 + j * 8 + 6, none⟩ = some (.bool p.lz) ∧ W.cell? ⟨b2, o2 + j * 8 + 6, none⟩ = some (.bool q.lz) ∧ W.cell? ⟨b1, o1 + j * 8 + 7, none⟩ = some (.slice pB p.kids.length pd) ∧ W.cell? ⟨b2, o2 + j * 8 + 7, none⟩ = some (.slice qB q.kids.length qd)) W from fun W hh => And.intro (cell_later hh c7) (And.intro (cell_later hh d7) (And.intro (cell_later hh x0) (And.intro (cell_later hh y0) (And.intro (cell_later hh x1) (And.intro (cell_later hh y1) (And.intro (cell_later hh x2) (And.intro (cell_later hh y2) (And.intro (cell_later hh x3) (And.intro (cell_later hh y3) (And.intro (cell_later hh x4) (And.intro (cell_later hh y4) (And.intro (cell_later hh x5) (And.intro (cell_later hh y5) (And.intro (cell_later hh x6) (And.intro (cell_later hh y6) (And.intro (cell_later hh x7) (cell_later hh y7))))))))))))))))))
              go_wp2
              go_region_held3 (fun (W : World) => W.cell? ⟨w.heap.size, 7, none⟩ = some (.slice (some ⟨b1, o1, none⟩) kl.length c) ∧ W.cell? ⟨w.heap.size + 1, 7, none⟩ = some (.slice (some ⟨b2, o2, none⟩) vl.length d) ∧ W.cell? ⟨b1, o1 + j * 8, none⟩ = some (.int .i64 p.k) ∧ W.cell? ⟨b2, o2 + j * 8, none⟩ = some (.int .i64 q.k) ∧ W.cell? ⟨b1, o1 + j * 8 + 1, none⟩ = some (.string p.ch) ∧ W.cell? ⟨b2, o2 + j * 8 + 1, none⟩ = some (.string q.ch) ∧ W.cell? ⟨b1, o1 + j * 8 + 2, none⟩ = some (.bool p.nt) ∧ W.cell? ⟨b2, o2 + j * 8 + 2, none⟩ = some (.bool q.nt) ∧ W.cell? ⟨b1, o1 + j * 8 + 3, none⟩ = some (.slice pA p.rows.length pc) ∧ W.cell? ⟨b2, o2 + j * 8 + 3, none⟩ = some (.slice qA q.rows.length qc) ∧ W.cell? ⟨b1, o1 + j * 8 + 4, none⟩ = some (.int .i64 p.mi) ∧ W.cell? ⟨b2, o2 + j * 8 + 4, none⟩ = some (.int .i64 q.mi) ∧ W.cell? ⟨b1, o1 + j * 8 + 5, none⟩ = some (.int .i64 p.ma) ∧ W.cell? ⟨b2, o2 + j * 8 + 5, none⟩ = some (.int .i64 q.ma) ∧ W.cell? ⟨b1, o1 + j * 8 + 6, none⟩ = some (.bool p.lz) ∧ W.cell? ⟨b2, o2 + j * 8 + 6, none⟩ = some (.bool q.lz) ∧ W.cell? ⟨b1, o1 + j * 8 + 7, none⟩ = some (.slice pB p.kids.length pd) ∧ W.cell? ⟨b2, o2 + j * 8 + 7, none⟩ = some (.slice qB q.kids.length qd))
                (first
                  | (refine HKEEP.out _ ?_; first | assumption | exact bl_refl _ | exact bl_drew (bl_refl _) | exact bl_drewN (bl_refl _) _)
                  | go_keep)
                (first
                  | (go_at_call 20; ((with_reducible refine (HC2.out _ (bl_trans HBW.out (by repeat (first | assumption | exact bl_refl _ | refine bl_drew ?_)))).mono ?_); rintro e w2 ⟨rfl, hb2a⟩; have hb2 := bl_trans (show Below wr.heap.size wr _ by repeat (first | assumption | exact bl_refl _ | refine bl_drew ?_)) hb2a; clear hb2a))
                  | fail)
              all_goals
                have HB3 := hide (bl_trans HBL2.out hb2)
                have Z7 := hide (cell_later hb2 c7)
                have Y7 := hide (cell_later hb2 d7)
                clear hb2 x0 x1 x2 x3 x4 x5 x6 x7 y0 y1 y2 y3 y4 y5 y6 y7 c7 d7
                go_wp2
                refine ⟨?_, by first | (simp [intOf]; done) | (simp [intOf]; omega)⟩
                first
                  | exact ⟨j + 1, by omega, by go_num, HS2, HB3, Z7, Y7⟩
                  | ((repeat apply Exists.intro); exact ⟨⟨j + 1, by omega, by go_num, HS2, HB3, Z7, Y7⟩, rfl⟩)
            | false =>
              have HN2 := hide (show r = false by
                cases r with
                | true => exact (HN.out HE2.out.symm).symm
                | false => rfl)
              clear HS HN
              have HKEEP := hide (show ∀ W, Below wr.heap.size wr W → (fun (W : World) => W.cell? ⟨w.heap.size, 7, none⟩ = some (.slice (some ⟨b1, o1, none⟩) kl.length c) ∧ W.cell? ⟨w.heap.size + 1, 7, none⟩ = some (.slice (some ⟨b2, o2, none⟩) vl.length d) ∧ W.cell? ⟨b1, o1 + j * 8, none⟩ = some (.int .i64 p.k) ∧ W.cell? ⟨b2, o2 + j * 8, none⟩ = some (.int .i64 q.k) ∧ W.cell? ⟨b1, o1 + j * 8 + 1, none⟩ = some (.string p.ch) ∧ W.cell? ⟨b2, o2 + j * 8 + 1, none⟩ = some (.string q.ch) ∧ W.cell? ⟨b1, o1 + j * 8 + 2, none⟩ = some (.bool p.nt) ∧ W.cell? ⟨b2, o2 + j * 8 + 2, none⟩ = some (.bool q.nt) ∧ W.cell? ⟨b1, o1 + j * 8 + 3, none⟩ = some (.slice pA p.rows.length pc) ∧ W.cell? ⟨b2, o2 + j * 8 + 3, none⟩ = some (.slice qA q.rows.length qc) ∧ W.cell? ⟨b1, o1 + j * 8 + 4, none⟩ = some (.int .i64 p.mi) ∧ W.cell? ⟨b2, o2 + j * 8 + 4, none⟩ = some (.int .i64 q.mi) ∧ W.cell? ⟨b1, o1 + j * 8 + 5, none⟩ = some (.int .i64 p.ma) ∧ W.cell? ⟨b2, o2 + j * 8 + 5, none⟩ = some (.int .i64 q.ma) ∧ W.cell? ⟨b1, o1 + j * 8 + 6, none⟩ = some (.bool p.lz) ∧ W.cell? ⟨b2, o2 + j * 8 + 6, none⟩ = some (.bool q.lz) ∧ W.cell? ⟨b1, o1 + j * 8 + 7, none⟩ = some (.slice pB p.kids.length pd) ∧ W.cell? ⟨b2, o2 + j * 8 + 7, none⟩ = some (.slice qB q.kids.length qd)) W from fun W hh => And.intro (cell_later hh c7) (And.intro (cell_later hh d7) (And.intro (cell_later hh x0) (And.intro (cell_later hh y0) (And.intro (cell_later hh x1) (And.intro (cell_later hh y1) (And.intro (cell_later hh x2) (And.intro (cell_later hh y2) (And.intro (cell_later hh x3) (And.intro (cell_later hh y3) (And.intro (cell_later hh x4) (And.intro (cell_later hh y4) (And.intro (cell_later hh x5) (And.intro (cell_later hh y5) (And.intro (cell_later hh x6) (And.intro (cell_later hh y6) (And.intro (cell_later hh x7) (cell_later hh y7))))))))))))))))))
              go_wp2
              go_region_held3 (fun (W : World) => W.cell? ⟨w.heap.size, 7, none⟩ = some (.slice (some ⟨b1, o1, none⟩) kl.length c) ∧ W.cell? ⟨w.heap.size + 1, 7, none⟩ = some (.slice (some ⟨b2, o2, none⟩) vl.length d) ∧ W.cell? ⟨b1, o1 + j * 8, none⟩ = some (.int .i64 p.k) ∧ W.cell? ⟨b2, o2 + j * 8, none⟩ = some (.int .i64 q.k) ∧ W.cell? ⟨b1, o1 + j * 8 + 1, none⟩ = some (.string p.ch) ∧ W.cell? ⟨b2, o2 + j * 8 + 1, none⟩ = some (.string q.ch) ∧ W.cell? ⟨b1, o1 + j * 8 + 2, none⟩ = some (.bool p.nt) ∧ W.cell? ⟨b2, o2 + j * 8 + 2, none⟩ = some (.bool q.nt) ∧ W.cell? ⟨b1, o1 + j * 8 + 3, none⟩ = some (.slice pA p.rows.length pc) ∧ W.cell? ⟨b2, o2 + j * 8 + 3, none⟩ = some (.slice qA q.rows.length qc) ∧ W.cell? ⟨b1, o1 + j * 8 + 4, none⟩ = some (.int .i64 p.mi) ∧ W.cell? ⟨b2, o2 + j * 8 + 4, none⟩ = some (.int .i64 q.mi) ∧ W.cell? ⟨b1, o1 + j * 8 + 5, none⟩ = some (.int .i64 p.ma) ∧ W.cell? ⟨b2, o2 + j * 8 + 5, none⟩ = some (.int .i64 q.ma) ∧ W.cell? ⟨b1, o1 + j * 8 + 6, none⟩ = some (.bool p.lz) ∧ W.cell? ⟨b2, o2 + j * 8 + 6, none⟩ = some (.bool q.lz) ∧ W.cell? ⟨b1, o1 + j * 8 + 7, none⟩ = some (.slice pB p.kids.length pd) ∧ W.cell? ⟨b2, o2 + j * 8 + 7, none⟩ = some (.slice qB q.kids.length qd))
                (first
                  | (refine HKEEP.out _ ?_; first | assumption | exact bl_refl _ | exact bl_drew (bl_refl _) | exact bl_drewN (bl_refl _) _)
                  | go_keep)
                (first
                  | (go_at_call 20; ((with_reducible refine (HC2.out _ (bl_trans HBW.out (by repeat (first | assumption | exact bl_refl _ | refine bl_drew ?_)))).mono ?_); rintro e w2 ⟨rfl, hb2a⟩; have hb2 := bl_trans (show Below wr.heap.size wr _ by repeat (first | assumption | exact bl_refl _ | refine bl_drew ?_)) hb2a; clear hb2a))
                  | fail)
              all_goals
                have HB3 := hide (bl_trans HBL2.out hb2)
                clear hb2 x0 x1 x2 x3 x4 x5 x6 x7 y0 y1 y2 y3 y4 y5 y6 y7 c7 d7
                go_wp2
                go_ret
                exact ⟨ret_bool HN2.out.symm, HB3.out⟩
          · obtain rfl : j = kl.length := by omega
            have hj := HT.out
            rw [List.take_length, Q7.out, List.take_length] at hj
            have HE := hide (show r = true by rw [HE2.out]; exact hj)
            have gl : decide ((kl.length : Int) < (kl.length : Int)) = false := by simp
            have gl' : decide (kl.length < kl.length) = false := by simp
            clear hj hlt HT
            go_wp2
            go_ret
            exact ⟨ret_bool HE.out.symm, HBL2.out⟩
end Go.Proofs.Ytmfaeonlmfejdaa
