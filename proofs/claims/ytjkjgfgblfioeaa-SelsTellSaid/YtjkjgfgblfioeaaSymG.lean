/- Contract: two sorted parts of at least two elements merged, the middle ahead of the second one's beginning. -/
import Derived.Test.YtjkjgfgblfioeaaSymE
import Derived.Test.YtjkjgfgblfioeaaSymD
namespace Go.Proofs.Ytjkjgfgblfioeaa
open Go.ChangeShapes Go.WideShapes Go.ChangeAt Go.RowKit
open SpanM SelM
attribute [local go_sem ↓] Go.wp_at_zero Go.wp_at_succ
set_option maxRecDepth 100000
set_option linter.unusedVariables false
set_option maxHeartbeats 32000000 in
theorem symG_any (g c base n : Nat) (P A B S : List (Sp × Nat)) (a m b : Nat) (w : World) (hIH : SymOK g c base n (A.length + B.length)) (hA : 1 < A.length) (hB : 1 < B.length) (tA : TS lessL A) (tB : TS lessL B) (hAB : Ahead A B) (h : w.ownsRow base 38 2 (.slice (some ⟨g, 0, none⟩) n c) n (flat (vals (P ++ (A ++ (B ++ S)))))) (hn : P.length + A.length + B.length + S.length = n) (hl : n ≤ 1000) (ha : a = P.length) (hm : m = P.length + A.length) (hb : b = P.length + A.length + B.length) (hmid : (a + b) / 2 < m) :
    Calls Try.prog 47 #[.slice (some ⟨g, 0, none⟩) n c, .int .i64 a, .int .i64 m, .int .i64 b, .func (.func 27) #[] #[]] w (SymPost w g base n c P A B S) := by
  obtain ⟨mid, hmd⟩ : ∃ mid, (a + b) / 2 = mid := ⟨_, rfl⟩
  rw [hmd] at hmid
  obtain ⟨L, hL⟩ : ∃ L, vals (P ++ (A ++ (B ++ S))) = L := ⟨_, rfl⟩
  have HLL := hide hL
  have HLN : Hid (L.length = n) := hide (by rw [← hL, vals_len]; simp; omega)
  have hLA : ∀ u (hu : u < A.length), L[a + u]! = A[u].1 := fun u hu => by
    rw [← hL]
    exact vals_at P A (B ++ S) u hu (a + u) (by omega)
  have hLB : ∀ u (hu : u < B.length), L[m + u]! = B[u].1 := fun u hu => by
    have := vals_at (P ++ A) B S u hu (m + u) (by rw [List.length_append]; omega)
    rw [List.append_assoc] at this
    rw [← hL]
    exact this
  obtain ⟨pp, hpp⟩ : ∃ pp, mid + m = pp + 1 := ⟨mid + m - 1, by omega⟩
  obtain ⟨pI, hpI⟩ : ∃ pI : Nat → Bool, pI = fun u => !lessL L[pp - u]! L[u]! := ⟨_, rfl⟩
  obtain ⟨lo, hlo⟩ : ∃ lo, mid + m - b = lo := ⟨_, rfl⟩
  have HPI : Hid (∀ u, lo ≤ u → u < mid → pI u = !lessL L[pp - u]! L[u]!) := hide (fun u _ _ => by rw [hpI])
  have HMON : Hid (∀ u v, lo ≤ u → u ≤ v → v < mid → pI v = true → pI u = true) := hide (fun u v h1 h2 h3 h4 => by
    obtain ⟨u', rfl⟩ : ∃ u', u = a + u' := ⟨u - a, by omega⟩
    obtain ⟨v', rfl⟩ : ∃ v', v = a + v' := ⟨v - a, by omega⟩
    obtain ⟨u2, hu2⟩ : ∃ u2, pp - (a + u') = m + u2 := ⟨pp - (a + u') - m, by omega⟩
    obtain ⟨v2, hv2⟩ : ∃ v2, pp - (a + v') = m + v2 := ⟨pp - (a + v') - m, by omega⟩
    rw [hpI] at h4 ⊢
    simp only [hu2, hv2] at h4 ⊢
    simp only [hLA u' (by omega), hLA v' (by omega), hLB u2 (by omega), hLB v2 (by omega), Bool.not_eq_true'] at h4 ⊢
    have k1 := ts_le wk_less tA u' v' (by omega) (by omega)
    have k2 := ts_le wk_less tB v2 u2 (by omega) (by omega)
    exact wk_less.ntrans _ _ _ (wk_less.ntrans _ _ _ k2 h4) k1)
  have HK1 : Hid (∀ j s t, a + s = j → j + t = mid → lo ≤ j → j ≤ mid → (∀ u, lo ≤ u → u < j → pI u = true) → ∀ (h1 : 0 < s) (h2 : t < B.length) (h3 : s ≤ A.length), lessL B[t].1 (A[s - 1]'(Nat.lt_of_lt_of_le (Nat.sub_lt h1 Nat.one_pos) h3)).1 = false) := hide (fun j s t e1 e2 h1 h2 hp h3 h4 h5 => by
    have h6 := hp (j - 1) (by omega) (by omega)
    have w1 : pp - (j - 1) = m + t := by omega
    have w2 : j - 1 = a + (s - 1) := by omega
    rw [hpI] at h6
    simp only at h6
    rw [w1, w2, hLA (s - 1) (by omega), hLB t h4] at h6
    simpa using h6)
  have HK2 : Hid (∀ j s t, a + s = j → j + t = mid → lo ≤ j → j ≤ mid → (∀ u, j ≤ u → u < mid → pI u = false) → ∀ (h1 : 0 < t) (h2 : s < A.length) (h3 : t ≤ B.length), lessL (B[t - 1]'(Nat.lt_of_lt_of_le (Nat.sub_lt h1 Nat.one_pos) h3)).1 A[s].1 = true) := hide (fun j s t e1 e2 h1 h2 hp h3 h4 h5 => by
    have h6 := hp j (by omega) (by omega)
    have w1 : pp - j = m + (t - 1) := by omega
    have w2 : j = a + s := by omega
    rw [hpI] at h6
    simp only at h6
    rw [w1, w2, hLA s h4, hLB (t - 1) (by omega)] at h6
    simpa using h6)
  have IH := hide hIH
  have tsA := hide tA
  have tsB := hide tB
  have AHD := hide hAB
  have HO := hide h
  rw [hL] at HO
  obtain ⟨d0, hd0⟩ : ∃ d0, m - a = d0 := ⟨_, rfl⟩
  obtain ⟨d1, hd1⟩ : ∃ d1, b - m = d1 := ⟨_, rfl⟩
  obtain ⟨nn, hnn⟩ : ∃ nn, mid + m = nn := ⟨_, rfl⟩
  have i1 : a + A.length ≤ m ∧ m ≤ a + A.length := by omega
  have i2 : m + B.length ≤ b ∧ b ≤ m + B.length := by omega
  have i3 : b + S.length ≤ n ∧ n ≤ b + S.length := by omega
  have i4 : P.length ≤ a ∧ a ≤ P.length := by omega
  have i5 : 2 * mid ≤ a + b ∧ a + b ≤ 2 * mid + 1 := by omega
  have i6 : mid + m ≤ pp + 1 ∧ pp + 1 ≤ mid + m := by omega
  have i7 : mid + m ≤ nn ∧ nn ≤ mid + m := by omega
  have e1 : IntKind.i64.wrap ((m : Int) - (a : Int)) = (d0 : Int) := by rw [IntWalk.i64_in _ (by omega)]; omega
  have e2 : (m : Int) - (a : Int) = (d0 : Int) := by omega
  have e3 : IntKind.i64.wrap (d0 : Int) = (d0 : Int) := IntWalk.i64_in _ (by omega)
  have e4 : ((d0 : Int) == 1) = false := beq_eq_false_iff_ne.2 (by omega)
  have e5 : (d0 == 1) = false := beq_eq_false_iff_ne.2 (by omega)
  have e6 : IntKind.i64.wrap ((b : Int) - (m : Int)) = (d1 : Int) := by rw [IntWalk.i64_in _ (by omega)]; omega
  have e7 : (b : Int) - (m : Int) = (d1 : Int) := by omega
  have e8 : IntKind.i64.wrap (d1 : Int) = (d1 : Int) := IntWalk.i64_in _ (by omega)
  have e9 : ((d1 : Int) == 1) = false := beq_eq_false_iff_ne.2 (by omega)
  have e10 : (d1 == 1) = false := beq_eq_false_iff_ne.2 (by omega)
  have e11 : ((a : Int) + (b : Int)) / 2 = (mid : Int) := by omega
  have e12 : (mid : Int) + (m : Int) = (nn : Int) := by omega
  have e13 : IntKind.i64.wrap ((mid : Int) + (m : Int)) = (nn : Int) := by rw [IntWalk.i64_in _ (by omega)]; omega
  have e14 : IntKind.i64.wrap (nn : Int) = (nn : Int) := IntWalk.i64_in _ (by omega)
  have e15 : (nn : Int) - 1 = (pp : Int) := by omega
  have e16 : IntKind.i64.wrap ((nn : Int) - 1) = (pp : Int) := by rw [IntWalk.i64_in _ (by omega)]; omega
  have e17 : (nn : Int) + -1 = (pp : Int) := by omega
  have b1 : d0 ≤ 1000 := by omega
  have b2 : d1 ≤ 1000 := by omega
  have b3 : nn ≤ 2000 := by omega
  have b4 : pp ≤ 2000 := by omega
  have b5 : mid ≤ 1000 := by omega
  have gmi : decide ((mid : Int) < (m : Int)) = true := decide_eq_true (by omega)
  have gmn : decide (mid < m) = true := decide_eq_true (by omega)
  have i8 : mid + m ≤ lo + b ∧ lo + b ≤ mid + m := by omega
  have e18 : (nn : Int) - (b : Int) = (lo : Int) := by omega
  have e19 : IntKind.i64.wrap ((nn : Int) - (b : Int)) = (lo : Int) := by rw [IntWalk.i64_in _ (by omega)]; omega
  have e20 : IntKind.i64.wrap (lo : Int) = (lo : Int) := IntWalk.i64_in _ (by omega)
  clear h tA tB hAB hL hpI hn ha hm hb hd0 hd1 hnn hIH hLA hLB hpp hmd hlo
  go_enter Try.func47, Try.ntmps47
  go_wp2
  clear e1 e2 e3 e4 e5 e6 e7 e8 e9 e10 e11 e12 e13 e14 e15 e16 e17 gmi gmn e18 e19 e20
  go_loopw [20, 21] (fun vi vj wr => L1Rel w g base n c lo mid L pI vi vj wr) (fun vi vj _ => (intOf vj).toNat - (intOf vi).toNat)
  case atStart => exact ⟨lo, mid, rfl, rfl, Nat.le_refl _, by omega, Nat.le_refl _, hide (fun u h1 h2 => by omega), hide (fun u h1 h2 => by omega), hide (grown_refl w _), HO⟩
  case round =>
    clear HO
    obtain ⟨i, j, rfl, rfl, hi1, hij, hj1, H1, H2, HG, HO⟩ := hrel
    by_cases hlt : i < j
    · obtain ⟨q, hq⟩ : ∃ q, (i + j) / 2 = q := ⟨_, rfl⟩
      have hq1 : i ≤ q := by omega
      have hq2 : q < j := by omega
      have hqi : ((i : Int) + (j : Int)) / 2 = (q : Int) := by omega
      have hLn := HLN.out
      have hT := HPI.out q (by omega) (by omega)
      obtain ⟨T1, T2⟩ := turn_up HMON.out (show lo ≤ q by omega) (show q < mid by omega)
      obtain ⟨d, hd⟩ : ∃ d, pp - q = d := ⟨_, rfl⟩
      have hdq : d + q ≤ pp ∧ pp ≤ d + q := by omega
      rw [hd] at hT
      have hw1 : (pp : Int) - (q : Int) = (d : Int) := by omega
      have hw2 : IntKind.i64.wrap ((pp : Int) - (q : Int)) = (d : Int) := by rw [IntWalk.i64_in _ (by omega)]; omega
      have hw3 : IntKind.i64.wrap (d : Int) = (d : Int) := IntWalk.i64_in _ (by omega)
      have hdn : d < n := by omega
      have hqn : q < n := by omega
      clear hd
      have hE_y : d < L.length := by omega
      have fy := flat_at L d hE_y
      rw [← getElem!_pos L d hE_y] at fy
      have y1 : wr.cell? ⟨g, d * 2, none⟩ = some (.int .i64 (L[d]!).1) := by rw [World.ownsRow.cellAt HO.out (d * 2) (by omega)]; exact fy.1
      have y2 : wr.cell? ⟨g, d * 2 + 1, none⟩ = some (.int .i64 (L[d]!).2) := by rw [World.ownsRow.cellAt HO.out (d * 2 + 1) (by omega)]; exact fy.2
      have gy : decide (d < n) = true := decide_eq_true (by omega)
      have hE_z : q < L.length := by omega
      have fz := flat_at L q hE_z
      rw [← getElem!_pos L q hE_z] at fz
      have z1 : wr.cell? ⟨g, q * 2, none⟩ = some (.int .i64 (L[q]!).1) := by rw [World.ownsRow.cellAt HO.out (q * 2) (by omega)]; exact fz.1
      have z2 : wr.cell? ⟨g, q * 2 + 1, none⟩ = some (.int .i64 (L[q]!).2) := by rw [World.ownsRow.cellAt HO.out (q * 2 + 1) (by omega)]; exact fz.2
      have gz : decide (q < n) = true := decide_eq_true (by omega)
      obtain ⟨r, hr⟩ : ∃ r, cmpL L[d]! L[q]! = r := ⟨_, rfl⟩
      have HC := hide (fun W => cmp_e L[d]! L[q]! r hr W)
      have hrl := cmp_lt L[d]! L[q]!
      rw [hr] at hrl
      have hsum : i + j ≤ 100000 := by omega
      have gl : decide ((i : Int) < (j : Int)) = true := decide_eq_true (by omega)
      have gl2 : decide (i < j) = true := decide_eq_true hlt
      clear hr hq fy fz hLn hE_y hE_z
      generalize L[d]! = yv at *
      generalize L[q]! = zv at *
      rcases hb : lessL yv zv with _ | _
      · rw [hb] at hrl hT
        have HN := hide (T1 hT)
        clear T1 T2 hT hb
        go_wp2
        go_region_with (go_at_call 27; (with_reducible refine (HC.out _).mono ?_); rintro e w2 ⟨rfl, hb2⟩; have hb3 : Below wr.heap.size wr w2 := bl_trans (by repeat (first | exact bl_refl _ | refine bl_drew ?_)) hb2; clear hb2)
        all_goals
          have HO9 := hide (own_below HO.out hb3)
          have HG9 := hide (HG.out.trans (grown_below g hb3))
          clear hb3
          go_wp2
          refine ⟨?_, by simp [intOf]; omega⟩
          first
            | exact ⟨q + 1, j, by go_num, rfl, by omega, by omega, by omega, HN, H2, HG9, HO9⟩
            | ((repeat apply Exists.intro); exact ⟨⟨q + 1, j, by go_num, rfl, by omega, by omega, by omega, HN, H2, HG9, HO9⟩, rfl⟩)
      · rw [hb] at hrl hT
        have HN := hide (T2 hT)
        clear T1 T2 hT hb
        go_wp2
        go_region_with (go_at_call 27; (with_reducible refine (HC.out _).mono ?_); rintro e w2 ⟨rfl, hb2⟩; have hb3 : Below wr.heap.size wr w2 := bl_trans (by repeat (first | exact bl_refl _ | refine bl_drew ?_)) hb2; clear hb2)
        all_goals
          have HO9 := hide (own_below HO.out hb3)
          have HG9 := hide (HG.out.trans (grown_below g hb3))
          clear hb3
          go_wp2
          refine ⟨?_, by simp [intOf]; omega⟩
          first
            | exact ⟨i, q, rfl, rfl, by omega, by omega, by omega, H1, HN, HG9, HO9⟩
            | ((repeat apply Exists.intro); exact ⟨⟨i, q, rfl, rfl, by omega, by omega, by omega, H1, HN, HG9, HO9⟩, rfl⟩)
    · obtain rfl : j = i := by omega
      have gl : decide ((j : Int) < (j : Int)) = false := decide_eq_false (by omega)
      have gl2 : decide (j < j) = false := by simp
      clear hij hlt
      obtain ⟨s, hs⟩ : ∃ s, a + s = j := ⟨j - a, by omega⟩
      obtain ⟨t, ht⟩ : ∃ t, j + t = mid := ⟨mid - j, by omega⟩
      obtain ⟨en, hen⟩ : ∃ en, m + t = en := ⟨_, rfl⟩
      have hsA : s ≤ A.length := by omega
      have htB : t ≤ B.length := by omega
      have HH1 := hide (fun (h1 : 0 < s) (h2 : t < B.length) => HK1.out j s t hs ht hi1 hj1 H1.out h1 h2 hsA)
      have HH2 := hide (fun (h1 : 0 < t) (h2 : s < A.length) => HK2.out j s t hs ht hi1 hj1 H2.out h1 h2 htB)
      have l1 : a + s ≤ j ∧ j ≤ a + s := by omega
      have l2 : j + t ≤ mid ∧ mid ≤ j + t := by omega
      have l3 : m + t ≤ en ∧ en ≤ m + t := by omega
      have e1 : (nn : Int) - (j : Int) = (en : Int) := by omega
      have e2 : IntKind.i64.wrap ((nn : Int) - (j : Int)) = (en : Int) := by rw [IntWalk.i64_in _ (by omega)]; omega
      have e3 : IntKind.i64.wrap (en : Int) = (en : Int) := IntWalk.i64_in _ (by omega)
      have enb : en ≤ 1000 := by omega
      clear hs ht hen HK1 HK2
      by_cases hs0 : s = 0
      · have hs1 : s ≤ 0 := by omega
        clear hs0
        by_cases ht0 : t = 0
        · have ht1 : t ≤ 0 := by omega
          clear ht0
          exfalso
          omega
        · have ht1 : 0 < t := by omega
          clear ht0
          by_cases htf : t = B.length
          · have ht2 : B.length ≤ t := by omega
            clear htf
            have q1i : decide ((j : Int) < (m : Int)) = true := decide_eq_true (by omega)
            have q1n : decide (j < m) = true := decide_eq_true (by omega)
            have q2i : decide ((m : Int) < (en : Int)) = true := decide_eq_true (by omega)
            have q2n : decide (m < en) = true := decide_eq_true (by omega)
            have q3i : decide ((a : Int) < (j : Int)) = false := decide_eq_false (by omega)
            have q3n : decide (a < j) = false := decide_eq_false (by omega)
            have q4i : decide ((j : Int) < (mid : Int)) = true := decide_eq_true (by omega)
            have q4n : decide (j < mid) = true := decide_eq_true (by omega)
            have q5i : decide ((mid : Int) < (en : Int)) = true := decide_eq_true (by omega)
            have q5n : decide (mid < en) = true := decide_eq_true (by omega)
            have q6i : decide ((en : Int) < (b : Int)) = false := decide_eq_false (by omega)
            have q6n : decide (en < b) = false := decide_eq_false (by omega)
            have hR0 := HO.out
            rw [← HLL.out] at hR0
            have hR1 : wr.ownsRow base 38 2 (.slice (some ⟨g, 0, none⟩) n c) n (flat (vals ((P ++ A.take s) ++ (A.drop s ++ (B.take t ++ (B.drop t ++ S)))))) := by
              have e9 : (P ++ A.take s) ++ (A.drop s ++ (B.take t ++ (B.drop t ++ S))) = P ++ ((A.take s ++ A.drop s) ++ ((B.take t ++ B.drop t) ++ S)) := by simp only [List.append_assoc]
              rw [e9, List.take_append_drop, List.take_append_drop]; exact hR0
            have hAt : (A.take s).length = s := by rw [List.length_take]; omega
            have hAd : (A.drop s).length = A.length - s := List.length_drop
            have hBt : (B.take t).length = t := by rw [List.length_take]; omega
            have hBd : (B.drop t).length = B.length - t := List.length_drop
            have HRT := hide (rotV g c base n (P ++ A.take s) (A.drop s) (B.take t) (B.drop t ++ S) j m en (.func (.func 27) #[] #[]) wr hR1 (by simp only [List.length_append]; omega) hl (by omega) (by omega) (by rw [List.length_append]; omega) (by rw [List.length_append]; omega) (by rw [List.length_append]; omega))
            have TA := tsA.out
            have TB := tsB.out
            have HFIN := hide (fun (M1 M2 : List (Sp × Nat)) (p1 : M1.Perm (A.take s ++ B.take t)) (p2 : M2.Perm (A.drop s ++ B.drop t)) (z1 : TS lessL M1) (z2 : TS lessL M2) => halves s t (by omega) (by omega) TA TB AHD.out HH1.out HH2.out p1 p2 z1 z2)
            have t1 := ts_take TA s
            have t2 := ts_drop TA s
            have t3 := ts_take TB t
            have t4 := ts_drop TB t
            have a1 : Ahead (A.take s) (B.take t) := ahead_sub AHD.out (fun x hx => List.mem_of_mem_take hx) (fun x hx => List.mem_of_mem_take hx)
            have a2 : Ahead (A.drop s) (B.drop t) := ahead_sub AHD.out (fun x hx => List.mem_of_mem_drop hx) (fun x hx => List.mem_of_mem_drop hx)
            have HM1 : Hid (TS lessL (A.take s ++ B.take t)) := hide (by
              rw [show A.take s = [] from by rw [show s = 0 by omega]; rfl]
              first
                | (rw [List.nil_append]; exact t3)
                | (rw [List.append_nil]; exact t1))
            have HM2 : Hid (TS lessL (A.drop s ++ B.drop t)) := hide (by
              rw [List.drop_of_length_le (show B.length ≤ t by omega)]
              first
                | (rw [List.nil_append]; exact t4)
                | (rw [List.append_nil]; exact t2))
            have HLEN := hide (show (A.take s ++ B.take t).length = s + t by rw [List.length_append]; omega)
            clear hR0 hR1 hAt hAd hBt hBd TA TB t1 t2 t3 t4 a1 a2 H1 H2 HO HLL HPI HMON HLN tsA tsB AHD HH1 HH2
            generalize A.take s = A1 at *
            generalize A.drop s = A2 at *
            generalize B.take t = B1 at *
            generalize B.drop t = B2 at *
            have HGf := HG
            go_wp2_with fail
            (with_reducible refine HRT.out.mono ?_)
            rintro e wR ⟨rfl, hgR, hoR⟩
            have HR2 := hide hoR
            have HGf := hide (HGf.out.trans hgR)
            clear hoR hgR HRT
            obtain ⟨M1, hM1⟩ : ∃ M1, A1 ++ B1 = M1 := ⟨_, rfl⟩
            have HR3 : Hid (World.ownsRow _ base 38 2 (.slice (some ⟨g, 0, none⟩) n c) n (flat (vals ((P ++ M1) ++ (A2 ++ (B2 ++ S)))))) := hide (by
              have h9 := HR2.out
              rw [← hM1]
              simpa using h9)
            have hML := hide (show M1.length = s + t by rw [← hM1]; exact HLEN.out)
            have HP1 := hide (show M1.Perm (A1 ++ B1) by rw [hM1])
            have HZ1 := hide (show TS lessL M1 by rw [← hM1]; exact HM1.out)
            clear hM1 HR2
            obtain ⟨M2, hM2⟩ : ∃ M2, A2 ++ B2 = M2 := ⟨_, rfl⟩
            have HR4 : Hid (World.ownsRow _ base 38 2 (.slice (some ⟨g, 0, none⟩) n c) n (flat (vals ((P ++ M1) ++ (M2 ++ S))))) := hide (by
              have h9 := HR3.out
              rw [← hM2]
              simpa using h9)
            obtain ⟨f1, f2⟩ := HFIN.out M1 M2 HP1.out (by rw [hM2]) HZ1.out (by rw [← hM2]; exact HM2.out)
            have HF1 := hide f1
            have HF2 := hide f2
            clear hM2 f1 f2
            go_wp2
            go_end0
            refine ⟨rfl, HGf.out, M1 ++ M2, HF1.out, HF2.out, ?_⟩
            have h9 := HR4.out
            rw [List.append_assoc, ← List.append_assoc M1] at h9
            exact h9
          · have ht2 : t < B.length := by omega
            clear htf
            have q1i : decide ((j : Int) < (m : Int)) = true := decide_eq_true (by omega)
            have q1n : decide (j < m) = true := decide_eq_true (by omega)
            have q2i : decide ((m : Int) < (en : Int)) = true := decide_eq_true (by omega)
            have q2n : decide (m < en) = true := decide_eq_true (by omega)
            have q3i : decide ((a : Int) < (j : Int)) = false := decide_eq_false (by omega)
            have q3n : decide (a < j) = false := decide_eq_false (by omega)
            have q4i : decide ((j : Int) < (mid : Int)) = true := decide_eq_true (by omega)
            have q4n : decide (j < mid) = true := decide_eq_true (by omega)
            have q5i : decide ((mid : Int) < (en : Int)) = true := decide_eq_true (by omega)
            have q5n : decide (mid < en) = true := decide_eq_true (by omega)
            have q6i : decide ((en : Int) < (b : Int)) = true := decide_eq_true (by omega)
            have q6n : decide (en < b) = true := decide_eq_true (by omega)
            have hR0 := HO.out
            rw [← HLL.out] at hR0
            have hR1 : wr.ownsRow base 38 2 (.slice (some ⟨g, 0, none⟩) n c) n (flat (vals ((P ++ A.take s) ++ (A.drop s ++ (B.take t ++ (B.drop t ++ S)))))) := by
              have e9 : (P ++ A.take s) ++ (A.drop s ++ (B.take t ++ (B.drop t ++ S))) = P ++ ((A.take s ++ A.drop s) ++ ((B.take t ++ B.drop t) ++ S)) := by simp only [List.append_assoc]
              rw [e9, List.take_append_drop, List.take_append_drop]; exact hR0
            have hAt : (A.take s).length = s := by rw [List.length_take]; omega
            have hAd : (A.drop s).length = A.length - s := List.length_drop
            have hBt : (B.take t).length = t := by rw [List.length_take]; omega
            have hBd : (B.drop t).length = B.length - t := List.length_drop
            have HRT := hide (rotV g c base n (P ++ A.take s) (A.drop s) (B.take t) (B.drop t ++ S) j m en (.func (.func 27) #[] #[]) wr hR1 (by simp only [List.length_append]; omega) hl (by omega) (by omega) (by rw [List.length_append]; omega) (by rw [List.length_append]; omega) (by rw [List.length_append]; omega))
            have TA := tsA.out
            have TB := tsB.out
            have HFIN := hide (fun (M1 M2 : List (Sp × Nat)) (p1 : M1.Perm (A.take s ++ B.take t)) (p2 : M2.Perm (A.drop s ++ B.drop t)) (z1 : TS lessL M1) (z2 : TS lessL M2) => halves s t (by omega) (by omega) TA TB AHD.out HH1.out HH2.out p1 p2 z1 z2)
            have t1 := ts_take TA s
            have t2 := ts_drop TA s
            have t3 := ts_take TB t
            have t4 := ts_drop TB t
            have a1 : Ahead (A.take s) (B.take t) := ahead_sub AHD.out (fun x hx => List.mem_of_mem_take hx) (fun x hx => List.mem_of_mem_take hx)
            have a2 : Ahead (A.drop s) (B.drop t) := ahead_sub AHD.out (fun x hx => List.mem_of_mem_drop hx) (fun x hx => List.mem_of_mem_drop hx)
            have HM1 : Hid (TS lessL (A.take s ++ B.take t)) := hide (by
              rw [show A.take s = [] from by rw [show s = 0 by omega]; rfl]
              first
                | (rw [List.nil_append]; exact t3)
                | (rw [List.append_nil]; exact t1))
            have HI2 := hide (fun W (M1 : List (Sp × Nat)) (hM : M1.length = s + t) (hW : W.ownsRow base 38 2 (.slice (some ⟨g, 0, none⟩) n c) n (flat (vals ((P ++ M1) ++ (A.drop s ++ (B.drop t ++ S)))))) => IH.out (P ++ M1) (A.drop s) (B.drop t) S mid en b W (by omega) (by omega) (by omega) t2 t4 a2 hW (by simp only [List.length_append]; omega) (by rw [List.length_append]; omega) (by rw [List.length_append]; omega) (by rw [List.length_append]; omega))
            have HLEN := hide (show (A.take s ++ B.take t).length = s + t by rw [List.length_append]; omega)
            clear hR0 hR1 hAt hAd hBt hBd TA TB t1 t2 t3 t4 a1 a2 H1 H2 HO HLL HPI HMON HLN tsA tsB AHD HH1 HH2
            generalize A.take s = A1 at *
            generalize A.drop s = A2 at *
            generalize B.take t = B1 at *
            generalize B.drop t = B2 at *
            have HGf := HG
            go_wp2_with fail
            (with_reducible refine HRT.out.mono ?_)
            rintro e wR ⟨rfl, hgR, hoR⟩
            have HR2 := hide hoR
            have HGf := hide (HGf.out.trans hgR)
            clear hoR hgR HRT
            obtain ⟨M1, hM1⟩ : ∃ M1, A1 ++ B1 = M1 := ⟨_, rfl⟩
            have HR3 : Hid (World.ownsRow _ base 38 2 (.slice (some ⟨g, 0, none⟩) n c) n (flat (vals ((P ++ M1) ++ (A2 ++ (B2 ++ S)))))) := hide (by
              have h9 := HR2.out
              rw [← hM1]
              simpa using h9)
            have hML := hide (show M1.length = s + t by rw [← hM1]; exact HLEN.out)
            have HP1 := hide (show M1.Perm (A1 ++ B1) by rw [hM1])
            have HZ1 := hide (show TS lessL M1 by rw [← hM1]; exact HM1.out)
            clear hM1 HR2
            go_wp2_with fail
            (with_reducible refine (HI2.out _ M1 hML.out HR3.out).mono ?_)
            rintro e w2 ⟨rfl, hg2, M2, hp2, hz2, ho2⟩
            have HGf := hide (HGf.out.trans hg2)
            have HR4 := hide ho2
            obtain ⟨f1, f2⟩ := HFIN.out M1 M2 HP1.out hp2 HZ1.out hz2
            have HF1 := hide f1
            have HF2 := hide f2
            clear ho2 hg2 hp2 hz2 f1 f2
            go_wp2
            go_end0
            refine ⟨rfl, HGf.out, M1 ++ M2, HF1.out, HF2.out, ?_⟩
            have h9 := HR4.out
            rw [List.append_assoc, ← List.append_assoc M1] at h9
            exact h9
      · have hs1 : 0 < s := by omega
        clear hs0
        by_cases hsf : s = A.length
        · have hs2 : A.length ≤ s := by omega
          clear hsf
          by_cases ht0 : t = 0
          · have ht1 : t ≤ 0 := by omega
            clear ht0
            have q1i : decide ((j : Int) < (m : Int)) = false := decide_eq_false (by omega)
            have q1n : decide (j < m) = false := decide_eq_false (by omega)
            have q2i : decide ((m : Int) < (en : Int)) = false := decide_eq_false (by omega)
            have q2n : decide (m < en) = false := decide_eq_false (by omega)
            have q3i : decide ((a : Int) < (j : Int)) = true := decide_eq_true (by omega)
            have q3n : decide (a < j) = true := decide_eq_true (by omega)
            have q4i : decide ((j : Int) < (mid : Int)) = false := decide_eq_false (by omega)
            have q4n : decide (j < mid) = false := decide_eq_false (by omega)
            have q5i : decide ((mid : Int) < (en : Int)) = false := decide_eq_false (by omega)
            have q5n : decide (mid < en) = false := decide_eq_false (by omega)
            have q6i : decide ((en : Int) < (b : Int)) = true := decide_eq_true (by omega)
            have q6n : decide (en < b) = true := decide_eq_true (by omega)
            have hR0 := HO.out
            rw [← HLL.out] at hR0
            have hR1 : wr.ownsRow base 38 2 (.slice (some ⟨g, 0, none⟩) n c) n (flat (vals ((P ++ A.take s) ++ (A.drop s ++ (B.take t ++ (B.drop t ++ S)))))) := by
              have e9 : (P ++ A.take s) ++ (A.drop s ++ (B.take t ++ (B.drop t ++ S))) = P ++ ((A.take s ++ A.drop s) ++ ((B.take t ++ B.drop t) ++ S)) := by simp only [List.append_assoc]
              rw [e9, List.take_append_drop, List.take_append_drop]; exact hR0
            have hAt : (A.take s).length = s := by rw [List.length_take]; omega
            have hAd : (A.drop s).length = A.length - s := List.length_drop
            have hBt : (B.take t).length = t := by rw [List.length_take]; omega
            have hBd : (B.drop t).length = B.length - t := List.length_drop
            have HR2 : Hid (wr.ownsRow base 38 2 (.slice (some ⟨g, 0, none⟩) n c) n (flat (vals ((P ++ A.take s) ++ (B.take t ++ (A.drop s ++ (B.drop t ++ S))))))) := hide (by
              have h9 := hR1
              rw [List.drop_of_length_le (show A.length ≤ s by omega)] at h9 ⊢
              simpa using h9)
            have TA := tsA.out
            have TB := tsB.out
            have HFIN := hide (fun (M1 M2 : List (Sp × Nat)) (p1 : M1.Perm (A.take s ++ B.take t)) (p2 : M2.Perm (A.drop s ++ B.drop t)) (z1 : TS lessL M1) (z2 : TS lessL M2) => halves s t (by omega) (by omega) TA TB AHD.out HH1.out HH2.out p1 p2 z1 z2)
            have t1 := ts_take TA s
            have t2 := ts_drop TA s
            have t3 := ts_take TB t
            have t4 := ts_drop TB t
            have a1 : Ahead (A.take s) (B.take t) := ahead_sub AHD.out (fun x hx => List.mem_of_mem_take hx) (fun x hx => List.mem_of_mem_take hx)
            have a2 : Ahead (A.drop s) (B.drop t) := ahead_sub AHD.out (fun x hx => List.mem_of_mem_drop hx) (fun x hx => List.mem_of_mem_drop hx)
            have HM1 : Hid (TS lessL (A.take s ++ B.take t)) := hide (by
              rw [show B.take t = [] from by rw [show t = 0 by omega]; rfl]
              first
                | (rw [List.nil_append]; exact t3)
                | (rw [List.append_nil]; exact t1))
            have HM2 : Hid (TS lessL (A.drop s ++ B.drop t)) := hide (by
              rw [List.drop_of_length_le (show A.length ≤ s by omega)]
              first
                | (rw [List.nil_append]; exact t4)
                | (rw [List.append_nil]; exact t2))
            have HLEN := hide (show (A.take s ++ B.take t).length = s + t by rw [List.length_append]; omega)
            clear hR0 hR1 hAt hAd hBt hBd TA TB t1 t2 t3 t4 a1 a2 H1 H2 HO HLL HPI HMON HLN tsA tsB AHD HH1 HH2
            generalize A.take s = A1 at *
            generalize A.drop s = A2 at *
            generalize B.take t = B1 at *
            generalize B.drop t = B2 at *
            have HGf := HG
            obtain ⟨M1, hM1⟩ : ∃ M1, A1 ++ B1 = M1 := ⟨_, rfl⟩
            have HR3 : Hid (World.ownsRow _ base 38 2 (.slice (some ⟨g, 0, none⟩) n c) n (flat (vals ((P ++ M1) ++ (A2 ++ (B2 ++ S)))))) := hide (by
              have h9 := HR2.out
              rw [← hM1]
              simpa using h9)
            have hML := hide (show M1.length = s + t by rw [← hM1]; exact HLEN.out)
            have HP1 := hide (show M1.Perm (A1 ++ B1) by rw [hM1])
            have HZ1 := hide (show TS lessL M1 by rw [← hM1]; exact HM1.out)
            clear hM1 HR2
            obtain ⟨M2, hM2⟩ : ∃ M2, A2 ++ B2 = M2 := ⟨_, rfl⟩
            have HR4 : Hid (World.ownsRow _ base 38 2 (.slice (some ⟨g, 0, none⟩) n c) n (flat (vals ((P ++ M1) ++ (M2 ++ S))))) := hide (by
              have h9 := HR3.out
              rw [← hM2]
              simpa using h9)
            obtain ⟨f1, f2⟩ := HFIN.out M1 M2 HP1.out (by rw [hM2]) HZ1.out (by rw [← hM2]; exact HM2.out)
            have HF1 := hide f1
            have HF2 := hide f2
            clear hM2 f1 f2
            go_wp2
            go_end0
            refine ⟨rfl, HGf.out, M1 ++ M2, HF1.out, HF2.out, ?_⟩
            have h9 := HR4.out
            rw [List.append_assoc, ← List.append_assoc M1] at h9
            exact h9
          · have ht1 : 0 < t := by omega
            clear ht0
            by_cases htf : t = B.length
            · have ht2 : B.length ≤ t := by omega
              clear htf
              exfalso
              omega
            · have ht2 : t < B.length := by omega
              clear htf
              have q1i : decide ((j : Int) < (m : Int)) = false := decide_eq_false (by omega)
              have q1n : decide (j < m) = false := decide_eq_false (by omega)
              have q2i : decide ((m : Int) < (en : Int)) = true := decide_eq_true (by omega)
              have q2n : decide (m < en) = true := decide_eq_true (by omega)
              have q3i : decide ((a : Int) < (j : Int)) = true := decide_eq_true (by omega)
              have q3n : decide (a < j) = true := decide_eq_true (by omega)
              have q4i : decide ((j : Int) < (mid : Int)) = true := decide_eq_true (by omega)
              have q4n : decide (j < mid) = true := decide_eq_true (by omega)
              have q5i : decide ((mid : Int) < (en : Int)) = false := decide_eq_false (by omega)
              have q5n : decide (mid < en) = false := decide_eq_false (by omega)
              have q6i : decide ((en : Int) < (b : Int)) = true := decide_eq_true (by omega)
              have q6n : decide (en < b) = true := decide_eq_true (by omega)
              have hR0 := HO.out
              rw [← HLL.out] at hR0
              have hR1 : wr.ownsRow base 38 2 (.slice (some ⟨g, 0, none⟩) n c) n (flat (vals ((P ++ A.take s) ++ (A.drop s ++ (B.take t ++ (B.drop t ++ S)))))) := by
                have e9 : (P ++ A.take s) ++ (A.drop s ++ (B.take t ++ (B.drop t ++ S))) = P ++ ((A.take s ++ A.drop s) ++ ((B.take t ++ B.drop t) ++ S)) := by simp only [List.append_assoc]
                rw [e9, List.take_append_drop, List.take_append_drop]; exact hR0
              have hAt : (A.take s).length = s := by rw [List.length_take]; omega
              have hAd : (A.drop s).length = A.length - s := List.length_drop
              have hBt : (B.take t).length = t := by rw [List.length_take]; omega
              have hBd : (B.drop t).length = B.length - t := List.length_drop
              have HR2 : Hid (wr.ownsRow base 38 2 (.slice (some ⟨g, 0, none⟩) n c) n (flat (vals ((P ++ A.take s) ++ (B.take t ++ (A.drop s ++ (B.drop t ++ S))))))) := hide (by
                have h9 := hR1
                rw [List.drop_of_length_le (show A.length ≤ s by omega)] at h9 ⊢
                simpa using h9)
              have TA := tsA.out
              have TB := tsB.out
              have HFIN := hide (fun (M1 M2 : List (Sp × Nat)) (p1 : M1.Perm (A.take s ++ B.take t)) (p2 : M2.Perm (A.drop s ++ B.drop t)) (z1 : TS lessL M1) (z2 : TS lessL M2) => halves s t (by omega) (by omega) TA TB AHD.out HH1.out HH2.out p1 p2 z1 z2)
              have t1 := ts_take TA s
              have t2 := ts_drop TA s
              have t3 := ts_take TB t
              have t4 := ts_drop TB t
              have a1 : Ahead (A.take s) (B.take t) := ahead_sub AHD.out (fun x hx => List.mem_of_mem_take hx) (fun x hx => List.mem_of_mem_take hx)
              have a2 : Ahead (A.drop s) (B.drop t) := ahead_sub AHD.out (fun x hx => List.mem_of_mem_drop hx) (fun x hx => List.mem_of_mem_drop hx)
              have HI1 := hide (fun W (hW : W.ownsRow base 38 2 (.slice (some ⟨g, 0, none⟩) n c) n (flat (vals ((P ++ A.take s) ++ (B.take t ++ (A.drop s ++ (B.drop t ++ S))))))) => IH.out P (A.take s) (B.take t) (A.drop s ++ (B.drop t ++ S)) a j mid W (by omega) (by omega) (by omega) t1 t3 a1 (by rw [List.append_assoc] at hW; exact hW) (by simp only [List.length_append]; omega) (by omega) (by omega) (by omega))
              have HM2 : Hid (TS lessL (A.drop s ++ B.drop t)) := hide (by
                rw [List.drop_of_length_le (show A.length ≤ s by omega)]
                first
                  | (rw [List.nil_append]; exact t4)
                  | (rw [List.append_nil]; exact t2))
              have HLEN := hide (show (A.take s ++ B.take t).length = s + t by rw [List.length_append]; omega)
              clear hR0 hR1 hAt hAd hBt hBd TA TB t1 t2 t3 t4 a1 a2 H1 H2 HO HLL HPI HMON HLN tsA tsB AHD HH1 HH2
              generalize A.take s = A1 at *
              generalize A.drop s = A2 at *
              generalize B.take t = B1 at *
              generalize B.drop t = B2 at *
              have HGf := HG
              go_wp2_with fail
              (with_reducible refine (HI1.out _ HR2.out).mono ?_)
              rintro e w1 ⟨rfl, hg1, M1, hp1, hz1, ho1⟩
              have HR3 : Hid (w1.ownsRow base 38 2 (.slice (some ⟨g, 0, none⟩) n c) n (flat (vals ((P ++ M1) ++ (A2 ++ (B2 ++ S)))))) := hide (by rw [List.append_assoc]; exact ho1)
              have HGf := hide (HGf.out.trans hg1)
              have hML := hide (hp1.length_eq.trans HLEN.out)
              have HP1 := hide hp1
              have HZ1 := hide hz1
              clear ho1 hg1 hp1 hz1 HI1 HR2
              obtain ⟨M2, hM2⟩ : ∃ M2, A2 ++ B2 = M2 := ⟨_, rfl⟩
              have HR4 : Hid (World.ownsRow _ base 38 2 (.slice (some ⟨g, 0, none⟩) n c) n (flat (vals ((P ++ M1) ++ (M2 ++ S))))) := hide (by
                have h9 := HR3.out
                rw [← hM2]
                simpa using h9)
              obtain ⟨f1, f2⟩ := HFIN.out M1 M2 HP1.out (by rw [hM2]) HZ1.out (by rw [← hM2]; exact HM2.out)
              have HF1 := hide f1
              have HF2 := hide f2
              clear hM2 f1 f2
              go_wp2
              go_end0
              refine ⟨rfl, HGf.out, M1 ++ M2, HF1.out, HF2.out, ?_⟩
              have h9 := HR4.out
              rw [List.append_assoc, ← List.append_assoc M1] at h9
              exact h9
        · have hs2 : s < A.length := by omega
          clear hsf
          by_cases ht0 : t = 0
          · have ht1 : t ≤ 0 := by omega
            clear ht0
            have q1i : decide ((j : Int) < (m : Int)) = true := decide_eq_true (by omega)
            have q1n : decide (j < m) = true := decide_eq_true (by omega)
            have q2i : decide ((m : Int) < (en : Int)) = false := decide_eq_false (by omega)
            have q2n : decide (m < en) = false := decide_eq_false (by omega)
            have q3i : decide ((a : Int) < (j : Int)) = true := decide_eq_true (by omega)
            have q3n : decide (a < j) = true := decide_eq_true (by omega)
            have q4i : decide ((j : Int) < (mid : Int)) = false := decide_eq_false (by omega)
            have q4n : decide (j < mid) = false := decide_eq_false (by omega)
            have q5i : decide ((mid : Int) < (en : Int)) = true := decide_eq_true (by omega)
            have q5n : decide (mid < en) = true := decide_eq_true (by omega)
            have q6i : decide ((en : Int) < (b : Int)) = true := decide_eq_true (by omega)
            have q6n : decide (en < b) = true := decide_eq_true (by omega)
            have hR0 := HO.out
            rw [← HLL.out] at hR0
            have hR1 : wr.ownsRow base 38 2 (.slice (some ⟨g, 0, none⟩) n c) n (flat (vals ((P ++ A.take s) ++ (A.drop s ++ (B.take t ++ (B.drop t ++ S)))))) := by
              have e9 : (P ++ A.take s) ++ (A.drop s ++ (B.take t ++ (B.drop t ++ S))) = P ++ ((A.take s ++ A.drop s) ++ ((B.take t ++ B.drop t) ++ S)) := by simp only [List.append_assoc]
              rw [e9, List.take_append_drop, List.take_append_drop]; exact hR0
            have hAt : (A.take s).length = s := by rw [List.length_take]; omega
            have hAd : (A.drop s).length = A.length - s := List.length_drop
            have hBt : (B.take t).length = t := by rw [List.length_take]; omega
            have hBd : (B.drop t).length = B.length - t := List.length_drop
            have HR2 : Hid (wr.ownsRow base 38 2 (.slice (some ⟨g, 0, none⟩) n c) n (flat (vals ((P ++ A.take s) ++ (B.take t ++ (A.drop s ++ (B.drop t ++ S))))))) := hide (by
              have h9 := hR1
              rw [show B.take t = [] from by rw [show t = 0 by omega]; rfl] at h9 ⊢
              simpa using h9)
            have TA := tsA.out
            have TB := tsB.out
            have HFIN := hide (fun (M1 M2 : List (Sp × Nat)) (p1 : M1.Perm (A.take s ++ B.take t)) (p2 : M2.Perm (A.drop s ++ B.drop t)) (z1 : TS lessL M1) (z2 : TS lessL M2) => halves s t (by omega) (by omega) TA TB AHD.out HH1.out HH2.out p1 p2 z1 z2)
            have t1 := ts_take TA s
            have t2 := ts_drop TA s
            have t3 := ts_take TB t
            have t4 := ts_drop TB t
            have a1 : Ahead (A.take s) (B.take t) := ahead_sub AHD.out (fun x hx => List.mem_of_mem_take hx) (fun x hx => List.mem_of_mem_take hx)
            have a2 : Ahead (A.drop s) (B.drop t) := ahead_sub AHD.out (fun x hx => List.mem_of_mem_drop hx) (fun x hx => List.mem_of_mem_drop hx)
            have HM1 : Hid (TS lessL (A.take s ++ B.take t)) := hide (by
              rw [show B.take t = [] from by rw [show t = 0 by omega]; rfl]
              first
                | (rw [List.nil_append]; exact t3)
                | (rw [List.append_nil]; exact t1))
            have HI2 := hide (fun W (M1 : List (Sp × Nat)) (hM : M1.length = s + t) (hW : W.ownsRow base 38 2 (.slice (some ⟨g, 0, none⟩) n c) n (flat (vals ((P ++ M1) ++ (A.drop s ++ (B.drop t ++ S)))))) => IH.out (P ++ M1) (A.drop s) (B.drop t) S mid en b W (by omega) (by omega) (by omega) t2 t4 a2 hW (by simp only [List.length_append]; omega) (by rw [List.length_append]; omega) (by rw [List.length_append]; omega) (by rw [List.length_append]; omega))
            have HLEN := hide (show (A.take s ++ B.take t).length = s + t by rw [List.length_append]; omega)
            clear hR0 hR1 hAt hAd hBt hBd TA TB t1 t2 t3 t4 a1 a2 H1 H2 HO HLL HPI HMON HLN tsA tsB AHD HH1 HH2
            generalize A.take s = A1 at *
            generalize A.drop s = A2 at *
            generalize B.take t = B1 at *
            generalize B.drop t = B2 at *
            have HGf := HG
            obtain ⟨M1, hM1⟩ : ∃ M1, A1 ++ B1 = M1 := ⟨_, rfl⟩
            have HR3 : Hid (World.ownsRow _ base 38 2 (.slice (some ⟨g, 0, none⟩) n c) n (flat (vals ((P ++ M1) ++ (A2 ++ (B2 ++ S)))))) := hide (by
              have h9 := HR2.out
              rw [← hM1]
              simpa using h9)
            have hML := hide (show M1.length = s + t by rw [← hM1]; exact HLEN.out)
            have HP1 := hide (show M1.Perm (A1 ++ B1) by rw [hM1])
            have HZ1 := hide (show TS lessL M1 by rw [← hM1]; exact HM1.out)
            clear hM1 HR2
            go_wp2_with fail
            (with_reducible refine (HI2.out _ M1 hML.out HR3.out).mono ?_)
            rintro e w2 ⟨rfl, hg2, M2, hp2, hz2, ho2⟩
            have HGf := hide (HGf.out.trans hg2)
            have HR4 := hide ho2
            obtain ⟨f1, f2⟩ := HFIN.out M1 M2 HP1.out hp2 HZ1.out hz2
            have HF1 := hide f1
            have HF2 := hide f2
            clear ho2 hg2 hp2 hz2 f1 f2
            go_wp2
            go_end0
            refine ⟨rfl, HGf.out, M1 ++ M2, HF1.out, HF2.out, ?_⟩
            have h9 := HR4.out
            rw [List.append_assoc, ← List.append_assoc M1] at h9
            exact h9
          · have ht1 : 0 < t := by omega
            clear ht0
            by_cases htf : t = B.length
            · have ht2 : B.length ≤ t := by omega
              clear htf
              have q1i : decide ((j : Int) < (m : Int)) = true := decide_eq_true (by omega)
              have q1n : decide (j < m) = true := decide_eq_true (by omega)
              have q2i : decide ((m : Int) < (en : Int)) = true := decide_eq_true (by omega)
              have q2n : decide (m < en) = true := decide_eq_true (by omega)
              have q3i : decide ((a : Int) < (j : Int)) = true := decide_eq_true (by omega)
              have q3n : decide (a < j) = true := decide_eq_true (by omega)
              have q4i : decide ((j : Int) < (mid : Int)) = true := decide_eq_true (by omega)
              have q4n : decide (j < mid) = true := decide_eq_true (by omega)
              have q5i : decide ((mid : Int) < (en : Int)) = true := decide_eq_true (by omega)
              have q5n : decide (mid < en) = true := decide_eq_true (by omega)
              have q6i : decide ((en : Int) < (b : Int)) = false := decide_eq_false (by omega)
              have q6n : decide (en < b) = false := decide_eq_false (by omega)
              have hR0 := HO.out
              rw [← HLL.out] at hR0
              have hR1 : wr.ownsRow base 38 2 (.slice (some ⟨g, 0, none⟩) n c) n (flat (vals ((P ++ A.take s) ++ (A.drop s ++ (B.take t ++ (B.drop t ++ S)))))) := by
                have e9 : (P ++ A.take s) ++ (A.drop s ++ (B.take t ++ (B.drop t ++ S))) = P ++ ((A.take s ++ A.drop s) ++ ((B.take t ++ B.drop t) ++ S)) := by simp only [List.append_assoc]
                rw [e9, List.take_append_drop, List.take_append_drop]; exact hR0
              have hAt : (A.take s).length = s := by rw [List.length_take]; omega
              have hAd : (A.drop s).length = A.length - s := List.length_drop
              have hBt : (B.take t).length = t := by rw [List.length_take]; omega
              have hBd : (B.drop t).length = B.length - t := List.length_drop
              have HRT := hide (rotV g c base n (P ++ A.take s) (A.drop s) (B.take t) (B.drop t ++ S) j m en (.func (.func 27) #[] #[]) wr hR1 (by simp only [List.length_append]; omega) hl (by omega) (by omega) (by rw [List.length_append]; omega) (by rw [List.length_append]; omega) (by rw [List.length_append]; omega))
              have TA := tsA.out
              have TB := tsB.out
              have HFIN := hide (fun (M1 M2 : List (Sp × Nat)) (p1 : M1.Perm (A.take s ++ B.take t)) (p2 : M2.Perm (A.drop s ++ B.drop t)) (z1 : TS lessL M1) (z2 : TS lessL M2) => halves s t (by omega) (by omega) TA TB AHD.out HH1.out HH2.out p1 p2 z1 z2)
              have t1 := ts_take TA s
              have t2 := ts_drop TA s
              have t3 := ts_take TB t
              have t4 := ts_drop TB t
              have a1 : Ahead (A.take s) (B.take t) := ahead_sub AHD.out (fun x hx => List.mem_of_mem_take hx) (fun x hx => List.mem_of_mem_take hx)
              have a2 : Ahead (A.drop s) (B.drop t) := ahead_sub AHD.out (fun x hx => List.mem_of_mem_drop hx) (fun x hx => List.mem_of_mem_drop hx)
              have HI1 := hide (fun W (hW : W.ownsRow base 38 2 (.slice (some ⟨g, 0, none⟩) n c) n (flat (vals ((P ++ A.take s) ++ (B.take t ++ (A.drop s ++ (B.drop t ++ S))))))) => IH.out P (A.take s) (B.take t) (A.drop s ++ (B.drop t ++ S)) a j mid W (by omega) (by omega) (by omega) t1 t3 a1 (by rw [List.append_assoc] at hW; exact hW) (by simp only [List.length_append]; omega) (by omega) (by omega) (by omega))
              have HM2 : Hid (TS lessL (A.drop s ++ B.drop t)) := hide (by
                rw [List.drop_of_length_le (show B.length ≤ t by omega)]
                first
                  | (rw [List.nil_append]; exact t4)
                  | (rw [List.append_nil]; exact t2))
              have HLEN := hide (show (A.take s ++ B.take t).length = s + t by rw [List.length_append]; omega)
              clear hR0 hR1 hAt hAd hBt hBd TA TB t1 t2 t3 t4 a1 a2 H1 H2 HO HLL HPI HMON HLN tsA tsB AHD HH1 HH2
              generalize A.take s = A1 at *
              generalize A.drop s = A2 at *
              generalize B.take t = B1 at *
              generalize B.drop t = B2 at *
              have HGf := HG
              go_wp2_with fail
              (with_reducible refine HRT.out.mono ?_)
              rintro e wR ⟨rfl, hgR, hoR⟩
              have HR2 := hide hoR
              have HGf := hide (HGf.out.trans hgR)
              clear hoR hgR HRT
              go_wp2_with fail
              (with_reducible refine (HI1.out _ HR2.out).mono ?_)
              rintro e w1 ⟨rfl, hg1, M1, hp1, hz1, ho1⟩
              have HR3 : Hid (w1.ownsRow base 38 2 (.slice (some ⟨g, 0, none⟩) n c) n (flat (vals ((P ++ M1) ++ (A2 ++ (B2 ++ S)))))) := hide (by rw [List.append_assoc]; exact ho1)
              have HGf := hide (HGf.out.trans hg1)
              have hML := hide (hp1.length_eq.trans HLEN.out)
              have HP1 := hide hp1
              have HZ1 := hide hz1
              clear ho1 hg1 hp1 hz1 HI1 HR2
              obtain ⟨M2, hM2⟩ : ∃ M2, A2 ++ B2 = M2 := ⟨_, rfl⟩
              have HR4 : Hid (World.ownsRow _ base 38 2 (.slice (some ⟨g, 0, none⟩) n c) n (flat (vals ((P ++ M1) ++ (M2 ++ S))))) := hide (by
                have h9 := HR3.out
                rw [← hM2]
                simpa using h9)
              obtain ⟨f1, f2⟩ := HFIN.out M1 M2 HP1.out (by rw [hM2]) HZ1.out (by rw [← hM2]; exact HM2.out)
              have HF1 := hide f1
              have HF2 := hide f2
              clear hM2 f1 f2
              go_wp2
              go_end0
              refine ⟨rfl, HGf.out, M1 ++ M2, HF1.out, HF2.out, ?_⟩
              have h9 := HR4.out
              rw [List.append_assoc, ← List.append_assoc M1] at h9
              exact h9
            · have ht2 : t < B.length := by omega
              clear htf
              have q1i : decide ((j : Int) < (m : Int)) = true := decide_eq_true (by omega)
              have q1n : decide (j < m) = true := decide_eq_true (by omega)
              have q2i : decide ((m : Int) < (en : Int)) = true := decide_eq_true (by omega)
              have q2n : decide (m < en) = true := decide_eq_true (by omega)
              have q3i : decide ((a : Int) < (j : Int)) = true := decide_eq_true (by omega)
              have q3n : decide (a < j) = true := decide_eq_true (by omega)
              have q4i : decide ((j : Int) < (mid : Int)) = true := decide_eq_true (by omega)
              have q4n : decide (j < mid) = true := decide_eq_true (by omega)
              have q5i : decide ((mid : Int) < (en : Int)) = true := decide_eq_true (by omega)
              have q5n : decide (mid < en) = true := decide_eq_true (by omega)
              have q6i : decide ((en : Int) < (b : Int)) = true := decide_eq_true (by omega)
              have q6n : decide (en < b) = true := decide_eq_true (by omega)
              have hR0 := HO.out
              rw [← HLL.out] at hR0
              have hR1 : wr.ownsRow base 38 2 (.slice (some ⟨g, 0, none⟩) n c) n (flat (vals ((P ++ A.take s) ++ (A.drop s ++ (B.take t ++ (B.drop t ++ S)))))) := by
                have e9 : (P ++ A.take s) ++ (A.drop s ++ (B.take t ++ (B.drop t ++ S))) = P ++ ((A.take s ++ A.drop s) ++ ((B.take t ++ B.drop t) ++ S)) := by simp only [List.append_assoc]
                rw [e9, List.take_append_drop, List.take_append_drop]; exact hR0
              have hAt : (A.take s).length = s := by rw [List.length_take]; omega
              have hAd : (A.drop s).length = A.length - s := List.length_drop
              have hBt : (B.take t).length = t := by rw [List.length_take]; omega
              have hBd : (B.drop t).length = B.length - t := List.length_drop
              have HRT := hide (rotV g c base n (P ++ A.take s) (A.drop s) (B.take t) (B.drop t ++ S) j m en (.func (.func 27) #[] #[]) wr hR1 (by simp only [List.length_append]; omega) hl (by omega) (by omega) (by rw [List.length_append]; omega) (by rw [List.length_append]; omega) (by rw [List.length_append]; omega))
              have TA := tsA.out
              have TB := tsB.out
              have HFIN := hide (fun (M1 M2 : List (Sp × Nat)) (p1 : M1.Perm (A.take s ++ B.take t)) (p2 : M2.Perm (A.drop s ++ B.drop t)) (z1 : TS lessL M1) (z2 : TS lessL M2) => halves s t (by omega) (by omega) TA TB AHD.out HH1.out HH2.out p1 p2 z1 z2)
              have t1 := ts_take TA s
              have t2 := ts_drop TA s
              have t3 := ts_take TB t
              have t4 := ts_drop TB t
              have a1 : Ahead (A.take s) (B.take t) := ahead_sub AHD.out (fun x hx => List.mem_of_mem_take hx) (fun x hx => List.mem_of_mem_take hx)
              have a2 : Ahead (A.drop s) (B.drop t) := ahead_sub AHD.out (fun x hx => List.mem_of_mem_drop hx) (fun x hx => List.mem_of_mem_drop hx)
              have HI1 := hide (fun W (hW : W.ownsRow base 38 2 (.slice (some ⟨g, 0, none⟩) n c) n (flat (vals ((P ++ A.take s) ++ (B.take t ++ (A.drop s ++ (B.drop t ++ S))))))) => IH.out P (A.take s) (B.take t) (A.drop s ++ (B.drop t ++ S)) a j mid W (by omega) (by omega) (by omega) t1 t3 a1 (by rw [List.append_assoc] at hW; exact hW) (by simp only [List.length_append]; omega) (by omega) (by omega) (by omega))
              have HI2 := hide (fun W (M1 : List (Sp × Nat)) (hM : M1.length = s + t) (hW : W.ownsRow base 38 2 (.slice (some ⟨g, 0, none⟩) n c) n (flat (vals ((P ++ M1) ++ (A.drop s ++ (B.drop t ++ S)))))) => IH.out (P ++ M1) (A.drop s) (B.drop t) S mid en b W (by omega) (by omega) (by omega) t2 t4 a2 hW (by simp only [List.length_append]; omega) (by rw [List.length_append]; omega) (by rw [List.length_append]; omega) (by rw [List.length_append]; omega))
              have HLEN := hide (show (A.take s ++ B.take t).length = s + t by rw [List.length_append]; omega)
              clear hR0 hR1 hAt hAd hBt hBd TA TB t1 t2 t3 t4 a1 a2 H1 H2 HO HLL HPI HMON HLN tsA tsB AHD HH1 HH2
              generalize A.take s = A1 at *
              generalize A.drop s = A2 at *
              generalize B.take t = B1 at *
              generalize B.drop t = B2 at *
              have HGf := HG
              go_wp2_with fail
              (with_reducible refine HRT.out.mono ?_)
              rintro e wR ⟨rfl, hgR, hoR⟩
              have HR2 := hide hoR
              have HGf := hide (HGf.out.trans hgR)
              clear hoR hgR HRT
              go_wp2_with fail
              (with_reducible refine (HI1.out _ HR2.out).mono ?_)
              rintro e w1 ⟨rfl, hg1, M1, hp1, hz1, ho1⟩
              have HR3 : Hid (w1.ownsRow base 38 2 (.slice (some ⟨g, 0, none⟩) n c) n (flat (vals ((P ++ M1) ++ (A2 ++ (B2 ++ S)))))) := hide (by rw [List.append_assoc]; exact ho1)
              have HGf := hide (HGf.out.trans hg1)
              have hML := hide (hp1.length_eq.trans HLEN.out)
              have HP1 := hide hp1
              have HZ1 := hide hz1
              clear ho1 hg1 hp1 hz1 HI1 HR2
              go_wp2_with fail
              (with_reducible refine (HI2.out _ M1 hML.out HR3.out).mono ?_)
              rintro e w2 ⟨rfl, hg2, M2, hp2, hz2, ho2⟩
              have HGf := hide (HGf.out.trans hg2)
              have HR4 := hide ho2
              obtain ⟨f1, f2⟩ := HFIN.out M1 M2 HP1.out hp2 HZ1.out hz2
              have HF1 := hide f1
              have HF2 := hide f2
              clear ho2 hg2 hp2 hz2 f1 f2
              go_wp2
              go_end0
              refine ⟨rfl, HGf.out, M1 ++ M2, HF1.out, HF2.out, ?_⟩
              have h9 := HR4.out
              rw [List.append_assoc, ← List.append_assoc M1] at h9
              exact h9
end Go.Proofs.Ytjkjgfgblfioeaa
