/- Contract: a sorted part and one element behind it merged, as the library's stable sort does. Condition: they lie in the row. -/
import Derived.Test.YtjkjgfgblfioeaaSymC
namespace Go.Proofs.Ytjkjgfgblfioeaa
open Go.ChangeShapes Go.WideShapes Go.ChangeAt Go.RowKit
open SpanM SelM
attribute [local go_sem ↓] Go.wp_at_zero Go.wp_at_succ
set_option maxRecDepth 100000
set_option linter.unusedVariables false
set_option maxHeartbeats 16000000 in
theorem symB_any (g c base n : Nat) (P A S : List (Sp × Nat)) (y : Sp × Nat) (a m b : Nat) (w : World) (h : w.ownsRow base 38 2 (.slice (some ⟨g, 0, none⟩) n c) n (flat (vals (P ++ (A ++ ([y] ++ S)))))) (hn : P.length + A.length + 1 + S.length = n) (hl : n ≤ 1000) (hA : 1 < A.length) (tA : TS lessL A) (hAB : Ahead A [y]) (ha : a = P.length) (hm : m = P.length + A.length) (hb : b = P.length + A.length + 1) :
    Calls Try.prog 47 #[.slice (some ⟨g, 0, none⟩) n c, .int .i64 a, .int .i64 m, .int .i64 b, .func (.func 27) #[] #[]] w (SymPost w g base n c P A [y] S) := by
  obtain ⟨L, hL⟩ : ∃ L, vals (P ++ (A ++ ([y] ++ S))) = L := ⟨_, rfl⟩
  have HLL := hide hL
  have HLN : Hid (L.length = n) := hide (by rw [← hL, vals_len]; simp; omega)
  have HLA : Hid (∀ u (hu : u < A.length), L[a + u]! = A[u].1) := hide (fun u hu => by
    rw [← hL]
    exact vals_at P A ([y] ++ S) u hu (a + u) (by omega))
  have HLY : Hid (L[m]! = y.1) := hide (by
    have := vals_at (P ++ A) [y] S 0 (by simp) m (by simp; omega)
    rw [List.append_assoc] at this
    rw [← hL]
    exact this)
  obtain ⟨pI, hpI⟩ : ∃ pI : Nat → Bool, pI = fun u => !lessL L[m]! L[u]! := ⟨_, rfl⟩
  have HPI : Hid (∀ u, a ≤ u → u < m → pI u = !lessL L[m]! L[u]!) := hide (fun u _ _ => by rw [hpI])
  have HMON : Hid (∀ u v, a ≤ u → u ≤ v → v < m → pI v = true → pI u = true) := hide (fun u v h1 h2 h3 h4 => by
    obtain ⟨u', rfl⟩ : ∃ u', u = a + u' := ⟨u - a, by omega⟩
    obtain ⟨v', rfl⟩ : ∃ v', v = a + v' := ⟨v - a, by omega⟩
    rw [hpI] at h4 ⊢
    simp only [HLA.out u' (by omega), HLA.out v' (by omega), Bool.not_eq_true'] at h4 ⊢
    exact wk_less.ntrans _ _ _ h4 (ts_le wk_less tA u' v' (by omega) (by omega)))
  have HT := hide tA
  have HAh := hide hAB
  have HO := hide h
  rw [hL] at HO
  have HAP := hide ha
  obtain ⟨d0, hd0⟩ : ∃ d0, m - a = d0 := ⟨_, rfl⟩
  have ham : a + A.length ≤ m ∧ m ≤ a + A.length := by omega
  have hmb : m + 1 ≤ b ∧ b ≤ m + 1 := by omega
  have hbn : b + S.length ≤ n ∧ n ≤ b + S.length := by omega
  have hPa : P.length ≤ a ∧ a ≤ P.length := by omega
  have e1 : IntKind.i64.wrap ((m : Int) - (a : Int)) = (d0 : Int) := by rw [IntWalk.i64_in _ (by omega)]; omega
  have e2 : (m : Int) - (a : Int) = (d0 : Int) := by omega
  have e3 : IntKind.i64.wrap (d0 : Int) = (d0 : Int) := IntWalk.i64_in _ (by omega)
  have e4 : ((d0 : Int) == 1) = false := beq_eq_false_iff_ne.2 (by omega)
  have e5 : (d0 == 1) = false := beq_eq_false_iff_ne.2 (by omega)
  have e6 : IntKind.i64.wrap ((b : Int) - (m : Int)) = 1 := by rw [IntWalk.i64_in _ (by omega)]; omega
  have e7 : (b : Int) - (m : Int) = 1 := by omega
  have e8 : d0 ≤ 1000 := by omega
  clear h tA hAB hL hpI hn ha hm hb hd0
  go_enter Try.func47, Try.ntmps47
  go_wp2
  clear e1 e2 e3 e4 e5 e6 e7 e8
  go_loopw [14, 15] (fun vi vj wr => L1Rel w g base n c a m L pI vi vj wr) (fun vi vj _ => (intOf vj).toNat - (intOf vi).toNat)
  case atStart => exact ⟨a, m, rfl, rfl, Nat.le_refl _, by omega, Nat.le_refl _, hide (fun u h1 h2 => by omega), hide (fun u h1 h2 => by omega), hide (grown_refl w _), HO⟩
  case round =>
    clear HO
    obtain ⟨i, j, rfl, rfl, hi1, hij, hj1, H1, H2, HG, HO⟩ := hrel
    by_cases hlt : i < j
    · obtain ⟨q, hq⟩ : ∃ q, (i + j) / 2 = q := ⟨_, rfl⟩
      have hq1 : i ≤ q := by omega
      have hq2 : q < j := by omega
      have hqi : ((i : Int) + (j : Int)) / 2 = (q : Int) := by omega
      have hLn := HLN.out
      have hT := HPI.out q (by omega) (by omega)
      obtain ⟨T1, T2⟩ := turn_up HMON.out (show a ≤ q by omega) (show q < m by omega)
      have hE_y : m < L.length := by omega
      have fy := flat_at L m hE_y
      rw [← getElem!_pos L m hE_y] at fy
      have y1 : wr.cell? ⟨g, m * 2, none⟩ = some (.int .i64 (L[m]!).1) := by rw [World.ownsRow.cellAt HO.out (m * 2) (by omega)]; exact fy.1
      have y2 : wr.cell? ⟨g, m * 2 + 1, none⟩ = some (.int .i64 (L[m]!).2) := by rw [World.ownsRow.cellAt HO.out (m * 2 + 1) (by omega)]; exact fy.2
      have gy : decide (m < n) = true := decide_eq_true (by omega)
      have hE_z : q < L.length := by omega
      have fz := flat_at L q hE_z
      rw [← getElem!_pos L q hE_z] at fz
      have z1 : wr.cell? ⟨g, q * 2, none⟩ = some (.int .i64 (L[q]!).1) := by rw [World.ownsRow.cellAt HO.out (q * 2) (by omega)]; exact fz.1
      have z2 : wr.cell? ⟨g, q * 2 + 1, none⟩ = some (.int .i64 (L[q]!).2) := by rw [World.ownsRow.cellAt HO.out (q * 2 + 1) (by omega)]; exact fz.2
      have gz : decide (q < n) = true := decide_eq_true (by omega)
      obtain ⟨r, hr⟩ : ∃ r, cmpL L[m]! L[q]! = r := ⟨_, rfl⟩
      have HC := hide (fun W => cmp_e L[m]! L[q]! r hr W)
      have hrl := cmp_lt L[m]! L[q]!
      rw [hr] at hrl
      have hsum : i + j ≤ 100000 := by omega
      have gl : decide ((i : Int) < (j : Int)) = true := decide_eq_true (by omega)
      have gl2 : decide (i < j) = true := decide_eq_true hlt
      clear hr hq fy fz hLn hE_y hE_z
      generalize L[m]! = yv at *
      generalize L[q]! = zv at *
      rcases hb : lessL yv zv with _ | _
      · rw [hb] at hrl hT
        have HN := hide (T1 hT)
        clear T1 T2 hT hb
        go_wp2
        go_region_with (go_at_call 27; (with_reducible refine (HC.out _).mono ?_); rintro e w2 ⟨rfl, hb2⟩; have hb3 : Below wr.heap.size wr w2 := bl_trans (by repeat (first | exact bl_refl _ | refine bl_drew ?_)) hb2; clear hb2)
        all_goals
          have HO9 := hide (own_below HO.out hb3)
          have HG9 := hide (HG.out.trans (grown_below g hb3))
          clear hb3
          go_wp2
          refine ⟨?_, by simp [intOf]; omega⟩
          first
            | exact ⟨q + 1, j, by go_num, rfl, by omega, by omega, by omega, HN, H2, HG9, HO9⟩
            | ((repeat apply Exists.intro); exact ⟨⟨q + 1, j, by go_num, rfl, by omega, by omega, by omega, HN, H2, HG9, HO9⟩, rfl⟩)
      · rw [hb] at hrl hT
        have HN := hide (T2 hT)
        clear T1 T2 hT hb
        go_wp2
        go_region_with (go_at_call 27; (with_reducible refine (HC.out _).mono ?_); rintro e w2 ⟨rfl, hb2⟩; have hb3 : Below wr.heap.size wr w2 := bl_trans (by repeat (first | exact bl_refl _ | refine bl_drew ?_)) hb2; clear hb2)
        all_goals
          have HO9 := hide (own_below HO.out hb3)
          have HG9 := hide (HG.out.trans (grown_below g hb3))
          clear hb3
          go_wp2
          refine ⟨?_, by simp [intOf]; omega⟩
          first
            | exact ⟨i, q, rfl, rfl, by omega, by omega, by omega, H1, HN, HG9, HO9⟩
            | ((repeat apply Exists.intro); exact ⟨⟨i, q, rfl, rfl, by omega, by omega, by omega, H1, HN, HG9, HO9⟩, rfl⟩)
    · obtain rfl : j = i := by omega
      have gl : decide ((j : Int) < (j : Int)) = false := decide_eq_false (by omega)
      have gl2 : decide (j < j) = false := by simp
      clear hij hlt
      obtain ⟨s1, hs1⟩ : ∃ s1, j = a + s1 := ⟨j - a, by omega⟩
      have HTS := hide (ts_one_right wk_less y HT.out HAh.out s1 (by omega) (fun u hu h => by
        have h9 := H1.out (a + u) (by omega) (by omega)
        rw [HPI.out (a + u) (by omega) (by omega), HLA.out u (by omega), HLY.out] at h9
        simpa using h9) (fun u hu h => by
        have h9 := H2.out (a + u) (by omega) (by omega)
        rw [HPI.out (a + u) (by omega) (by omega), HLA.out u (by omega), HLY.out] at h9
        simpa using h9))
      have HS1 := hide (show j = a + s1 from hs1)
      have HO0 : Hid (wr.ownsRow base 38 2 (.slice (some ⟨g, 0, none⟩) n c) n (flat (Fm P A y S a m))) := hide (by
        have h2 := HO.out
        rw [← HLL.out] at h2
        unfold Fm
        rw [show m - a = A.length by omega, List.take_length, List.drop_length, List.nil_append]
        simpa using h2)
      have HLN2 := hide (show P.length + A.length + 1 + S.length = n ∧ m ≤ a + A.length from ⟨by omega, by omega⟩)
      have HO := HO0
      clear HO0 H1 H2 HLA HLY HLL HPI HMON HLN hs1
      go_wp2
      go_loopw [17] (fun v wr => L2Rel w g base n c j (Fm P A y S a) m v wr) (fun v _ => (intOf v).toNat)
      case atStart => exact ⟨m, rfl, hj1, Nat.le_refl _, HG, HO⟩
      case round =>
        clear HO HG
        obtain ⟨k, rfl, hk1, hk2, HG, HO⟩ := hrel
        by_cases hlt : j < k
        · obtain ⟨k0, hk1e⟩ : ∃ k0, k0 + 1 = k := ⟨k - 1, by omega⟩
          have hl2 := HLN2.out
          have hLn : (Fm P A y S a k).length = n := by rw [Fm_len]; omega
          have hstep := Fm_dn P A y S a k0 HAP.out (by omega) (by omega)
          rw [hk1e] at hstep
          obtain ⟨L, hL⟩ : ∃ L, Fm P A y S a k = L := ⟨_, rfl⟩
          rw [hL] at hLn hstep HO
          have hp : k < L.length := by omega
          have hq : k0 < L.length := by omega
          unfold swpL at hstep
          rw [getElem!_pos L k hp, getElem!_pos L k0 hq] at hstep
          have fp := flat_at L k hp
          have fq := flat_at L k0 hq
          obtain ⟨x1, hx⟩ : ∃ x1, L[k] = x1 := ⟨_, rfl⟩
          obtain ⟨y1, hy⟩ : ∃ y1, L[k0] = y1 := ⟨_, rfl⟩
          rw [hx] at fp hstep
          rw [hy] at fq hstep
          have c1 : wr.cell? ⟨g, k * 2, none⟩ = some (.int .i64 x1.1) := by rw [World.ownsRow.cellAt HO.out (k * 2) (by omega)]; exact fp.1
          have c3 : wr.cell? ⟨g, k0 * 2, none⟩ = some (.int .i64 y1.1) := by rw [World.ownsRow.cellAt HO.out (k0 * 2) (by omega)]; exact fq.1
          have c2 : wr.cell? ⟨g, k * 2 + 1, none⟩ = some (.int .i64 x1.2) := by rw [World.ownsRow.cellAt HO.out (k * 2 + 1) (by omega)]; exact fp.2
          have c4 : wr.cell? ⟨g, k0 * 2 + 1, none⟩ = some (.int .i64 y1.2) := by rw [World.ownsRow.cellAt HO.out (k0 * 2 + 1) (by omega)]; exact fq.2
          have z1 := World.ownsRow.frozenAt HO.out (k * 2)
          have z2 := World.ownsRow.frozenAt HO.out (k * 2 + 1)
          have z3 := World.ownsRow.frozenAt HO.out (k0 * 2)
          have z4 := World.ownsRow.frozenAt HO.out (k0 * 2 + 1)
          have gpn : k < n := by omega
          have gqn : k0 < n := by omega
          have hne1 : k * 2 ≠ k0 * 2 := by omega
          have hne2 : k * 2 ≠ k0 * 2 + 1 := by omega
          have hne3 : k * 2 + 1 ≠ k0 * 2 := by omega
          have hne4 : k * 2 + 1 ≠ k0 * 2 + 1 := by omega
          have hkn : k + 1 ≤ 1000 := by omega
          have gk : decide ((j : Int) < (k : Int)) = true := decide_eq_true (by omega)
          have gk2 : decide (j < k) = true := decide_eq_true hlt
          have hwk : IntKind.i64.wrap ((k : Int) - 1) = (k0 : Int) := by rw [IntWalk.i64_in _ (by omega)]; omega
          have hwk2 : (k : Int) - 1 = (k0 : Int) := by omega
          have hwk3 : (k : Int) + -1 = (k0 : Int) := by omega
          have hwk4 : IntKind.i64.wrap (k0 : Int) = (k0 : Int) := IntWalk.i64_in _ (by omega)
          have hwk5 : k0 ≤ 1000 := by omega
          have hfin := fun (W : World) (ho : W.ownsRow base 38 2 (.slice (some ⟨g, 0, none⟩) n c) n (flat L)) => own_put2 (own_put2 ho (k) (by omega) y1) (k0) (by rw [List.length_set]; omega) x1
          rw [hstep] at hfin
          have hfin2 := fun (W : World) (ho : W.ownsRow base 38 2 (.slice (some ⟨g, 0, none⟩) n c) n (flat L)) => own_put2 (own_put2 ho (k0) (by omega) x1) (k) (by rw [List.length_set]; omega) y1
          rw [List.set_comm _ _ (by omega : k0 ≠ k), hstep] at hfin2
          have HF := hide hfin
          have HF2 := hide hfin2
          have hkr : k0 < k ∧ k ≤ k0 + 1 := by omega
          clear hfin hfin2 hstep hLn fp fq hx hy hL hp hq hk1e hl2
          go_wp2
          go_region
          all_goals
            go_wp2
            refine ⟨?_, by simp [intOf]; omega⟩
            refine ⟨k0, rfl, by omega, by omega, ?_, ?_⟩
            · exact hide (HG.out.trans (by repeat (first | exact grown_refl _ _ | refine grown_drew ?_ | refine grown_set ?_ _ _)))
            · first
                | exact hide (World.ownsRow.drew (HF.out _ HO.out))
                | exact hide (World.ownsRow.drew (HF2.out _ HO.out))
        · obtain rfl : k = j := by omega
          have hfin : SymPost w g base n c P A [y] S (.returned (.tuple #[])) wr := by
            refine ⟨rfl, HG.out, A.take s1 ++ [y] ++ A.drop s1, ?_, HTS.out, ?_⟩
            · have h1 : (A.take s1 ++ [y] ++ A.drop s1).Perm ((A.take s1 ++ A.drop s1) ++ [y]) := by
                rw [List.append_assoc, List.append_assoc]
                exact List.Perm.append_left _ List.perm_append_comm
              rw [List.take_append_drop] at h1
              exact h1
            · have h2 := HO.out
              unfold Fm at h2
              rw [show k - a = s1 by have := HS1.out; omega] at h2
              simpa using h2
          have HFN := hide hfin
          have gk : decide ((k : Int) < (k : Int)) = false := decide_eq_false (by omega)
          have gk2 : decide (k < k) = false := by simp
          clear hfin HG HO
          go_wp2
          go_end0
          exact HFN.out
end Go.Proofs.Ytjkjgfgblfioeaa
