/- Contract: one element and a sorted part beside it merged, as the library's stable sort does. Condition: they lie in the row. -/
import Derived.Test.YtjkjgfgblfioeaaSymB
import Derived.Test.YtjkjgfgblfioeaaSymM
import Derived.Test.YtjkjgfgblfioeaaSelK
import Derived.Test.YtjkjgfgblfioeaaSelC
namespace Go.Proofs.Ytjkjgfgblfioeaa
open Go.ChangeShapes Go.WideShapes Go.ChangeAt Go.RowKit
open SpanM SelM
attribute [local go_sem ↓] Go.wp_at_zero Go.wp_at_succ
set_option maxRecDepth 100000
set_option linter.unusedVariables false
theorem grown_below {w w' : World} (g : Nat) (h : Below w.heap.size w w') : w.grownBy w' (some g) := ⟨h.os, h.tape, h.output, h.size, fun k hk _ => h.block k hk⟩
theorem cmp_e (a b : Sp) (r : Int) (h : cmpL a b = r) (w : World) : Calls Try.prog 27 #[.agg #[.int .i64 a.1, .int .i64 a.2], .agg #[.int .i64 b.1, .int .i64 b.2]] w fun e w' => e = .returned (.int .i64 r) ∧ Below w.heap.size w w' := by
  subst h
  refine (closure_s a b w).mono ?_
  rintro e w' ⟨rfl, q, os, rfl⟩
  exact ⟨rfl, ⟨rfl, rfl, rfl, by simp, fun k hk => by rw [Go.Sort.heap_grow_old _ _ (by simpa using hk)]; rfl⟩⟩
theorem cmp_lt (a b : Sp) : decide (cmpL a b < 0) = lessL a b := by rw [← ltOf_lessL]; rfl
def vals (l : List (Sp × Nat)) : List Sp := l.map (·.1)
theorem vals_app (l k : List (Sp × Nat)) : vals (l ++ k) = vals l ++ vals k := by simp [vals]
theorem vals_len (l : List (Sp × Nat)) : (vals l).length = l.length := by simp [vals]
theorem vals_at (P A S : List (Sp × Nat)) (i : Nat) (hi : i < A.length) (j : Nat) (hj : j = P.length + i) : (vals (P ++ (A ++ S)))[j]! = A[i].1 := by
  subst hj
  rw [getElem!_pos _ _ (by rw [vals_len]; simp; omega)]
  simp only [vals, List.getElem_map]
  rw [List.getElem_append_right (by omega)]
  simp only [Nat.add_sub_cancel_left]
  rw [List.getElem_append_left hi]
def SymPost (w : World) (g base n c : Nat) (P A B S : List (Sp × Nat)) (e : Ending) (w' : World) : Prop :=
  e = .returned (.tuple #[]) ∧ w.grownBy w' (some g) ∧ ∃ M, M.Perm (A ++ B) ∧ TS lessL M ∧ w'.ownsRow base 38 2 (.slice (some ⟨g, 0, none⟩) n c) n (flat (vals (P ++ (M ++ S))))
def L1Rel (w : World) (g base n c lo hi : Nat) (L : List Sp) (p : Nat → Bool) (vi vj : Value) (wr : World) : Prop :=
  ∃ i j : Nat, vi = .int .i64 i ∧ vj = .int .i64 j ∧ lo ≤ i ∧ i ≤ j ∧ j ≤ hi ∧ Hid (∀ u, lo ≤ u → u < i → p u = true) ∧ Hid (∀ u, j ≤ u → u < hi → p u = false) ∧ Hid (w.grownBy wr (some g)) ∧ Hid (wr.ownsRow base 38 2 (.slice (some ⟨g, 0, none⟩) n c) n (flat L))
def L2Rel (w : World) (g base n c lo : Nat) (F : Nat → List Sp) (top : Nat) (v : Value) (wr : World) : Prop :=
  ∃ k : Nat, v = .int .i64 k ∧ lo ≤ k ∧ k ≤ top ∧ Hid (w.grownBy wr (some g)) ∧ Hid (wr.ownsRow base 38 2 (.slice (some ⟨g, 0, none⟩) n c) n (flat (F k)))
/-- Rising: where a test turns, it turns once. -/
theorem turn_up {p : Nat → Bool} {lo hi q : Nat} (hmono : ∀ u v, lo ≤ u → u ≤ v → v < hi → p v = true → p u = true) (hlo : lo ≤ q) (hhi : q < hi) :
    (p q = true → ∀ u, lo ≤ u → u < q + 1 → p u = true) ∧ (p q = false → ∀ u, q ≤ u → u < hi → p u = false) := by
  refine ⟨fun h u h1 h2 => hmono u q h1 (by omega) hhi h, fun h u h1 h2 => ?_⟩
  rcases hb : p u with _ | _
  · rfl
  · rw [hmono q u hlo h1 h2 hb] at h; cases h
theorem swp_mid (A B : List Sp) (x y : Sp) (i j : Nat) (hi : i = A.length) (hj : j = A.length + 1) : swpL (A ++ x :: y :: B) i j = A ++ y :: x :: B := by
  have := swpL_at A [] B x y i j hi (by simpa using hj)
  simpa using this
theorem swpL_comm (L : List Sp) (i j : Nat) (hi : i < L.length) (hj : j < L.length) (h : i ≠ j) : swpL L i j = swpL L j i := by
  unfold swpL
  rw [List.set_comm _ _ h]
/-- One element that goes through a part. -/
def Fm (P X : List (Sp × Nat)) (z : Sp × Nat) (S : List (Sp × Nat)) (a k : Nat) : List Sp := vals (P ++ (X.take (k - a) ++ (z :: (X.drop (k - a) ++ S))))
theorem Fm_len (P X : List (Sp × Nat)) (z : Sp × Nat) (S : List (Sp × Nat)) (a k : Nat) : (Fm P X z S a k).length = P.length + X.length + 1 + S.length := by
  unfold Fm
  rw [vals_len]
  simp only [List.length_append, List.length_take, List.length_cons, List.length_drop]
  omega
theorem Fm_up (P X : List (Sp × Nat)) (z : Sp × Nat) (S : List (Sp × Nat)) (a k : Nat) (ha : a = P.length) (h1 : a ≤ k) (h2 : k < a + X.length) : swpL (Fm P X z S a k) k (k + 1) = Fm P X z S a (k + 1) := by
  obtain ⟨v, rfl⟩ : ∃ v, k = a + v := ⟨k - a, by omega⟩
  have hv : v < X.length := by omega
  unfold Fm
  rw [show a + v - a = v by omega, show a + v + 1 - a = v + 1 by omega, List.drop_eq_getElem_cons hv, List.take_succ_eq_append_getElem hv]
  have h := swp_mid (vals (P ++ X.take v)) (vals (X.drop (v + 1) ++ S)) z.1 X[v].1 (a + v) (a + v + 1) (by rw [vals_len, List.length_append, List.length_take]; omega) (by rw [vals_len, List.length_append, List.length_take]; omega)
  simp only [vals, List.map_append, List.map_cons, List.append_assoc, List.cons_append, List.nil_append] at h ⊢
  exact h
theorem Fm_dn (P X : List (Sp × Nat)) (z : Sp × Nat) (S : List (Sp × Nat)) (a k : Nat) (ha : a = P.length) (h1 : a ≤ k) (h2 : k < a + X.length) : swpL (Fm P X z S a (k + 1)) (k + 1) k = Fm P X z S a k := by
  rw [swpL_comm _ _ _ (by rw [Fm_len]; omega) (by rw [Fm_len]; omega) (by omega)]
  obtain ⟨v, rfl⟩ : ∃ v, k = a + v := ⟨k - a, by omega⟩
  have hv : v < X.length := by omega
  unfold Fm
  rw [show a + v - a = v by omega, show a + v + 1 - a = v + 1 by omega, List.drop_eq_getElem_cons hv, List.take_succ_eq_append_getElem hv]
  have h := swp_mid (vals (P ++ X.take v)) (vals (X.drop (v + 1) ++ S)) X[v].1 z.1 (a + v) (a + v + 1) (by rw [vals_len, List.length_append, List.length_take]; omega) (by rw [vals_len, List.length_append, List.length_take]; omega)
  simp only [vals, List.map_append, List.map_cons, List.append_assoc, List.cons_append, List.nil_append] at h ⊢
  exact h
set_option maxHeartbeats 16000000 in
theorem symA_any (g c base n : Nat) (P B S : List (Sp × Nat)) (x : Sp × Nat) (a m b : Nat) (w : World) (h : w.ownsRow base 38 2 (.slice (some ⟨g, 0, none⟩) n c) n (flat (vals (P ++ ([x] ++ (B ++ S)))))) (hn : P.length + 1 + B.length + S.length = n) (hl : n ≤ 1000) (hB : 0 < B.length) (tB : TS lessL B) (hAB : Ahead [x] B) (ha : a = P.length) (hm : m = P.length + 1) (hb : b = P.length + 1 + B.length) :
    Calls Try.prog 47 #[.slice (some ⟨g, 0, none⟩) n c, .int .i64 a, .int .i64 m, .int .i64 b, .func (.func 27) #[] #[]] w (SymPost w g base n c P [x] B S) := by
  obtain ⟨L, hL⟩ : ∃ L, vals (P ++ ([x] ++ (B ++ S))) = L := ⟨_, rfl⟩
  have HLL := hide hL
  have HLN : Hid (L.length = n) := hide (by rw [← hL, vals_len]; simp; omega)
  have HLX : Hid (L[a]! = x.1) := hide (by rw [← hL]; exact vals_at P [x] (B ++ S) 0 (by simp) a (by omega))
  have HLB : Hid (∀ u (hu : u < B.length), L[m + u]! = B[u].1) := hide (fun u hu => by
    have := vals_at (P ++ [x]) B S u hu (m + u) (by simp; omega)
    rw [← hL]
    simpa only [List.append_assoc] using this)
  obtain ⟨pI, hpI⟩ : ∃ pI : Nat → Bool, pI = fun u => lessL L[u]! L[a]! := ⟨_, rfl⟩
  have HPI : Hid (∀ u, m ≤ u → u < b → pI u = lessL L[u]! L[a]!) := hide (fun u _ _ => by rw [hpI])
  have HMON : Hid (∀ u v, m ≤ u → u ≤ v → v < b → pI v = true → pI u = true) := hide (fun u v h1 h2 h3 h4 => by
    obtain ⟨u', rfl⟩ : ∃ u', u = m + u' := ⟨u - m, by omega⟩
    obtain ⟨v', rfl⟩ : ∃ v', v = m + v' := ⟨v - m, by omega⟩
    rw [hpI] at h4 ⊢
    simp only [HLB.out u' (by omega), HLB.out v' (by omega)] at h4 ⊢
    exact wk_less.le_lt _ _ _ (ts_le wk_less tB u' v' (by omega) (by omega)) h4)
  have HT := hide tB
  have HAh := hide hAB
  have HO := hide h
  rw [hL] at HO
  have HAP := hide ha
  have ham : a + 1 ≤ m ∧ m ≤ a + 1 := by omega
  have hmb : m + B.length ≤ b ∧ b ≤ m + B.length := by omega
  have hbn : b + S.length ≤ n ∧ n ≤ b + S.length := by omega
  have hPa : P.length ≤ a ∧ a ≤ P.length := by omega
  have e1 : IntKind.i64.wrap ((m : Int) - (a : Int)) = 1 := by rw [IntWalk.i64_in _ (by omega)]; omega
  have e2 : (m : Int) - (a : Int) = 1 := by omega
  clear h tB hAB hL hpI hn ha hm hb
  go_enter Try.func47, Try.ntmps47
  go_wp2
  clear e1 e2
  go_loopw [10, 11] (fun vi vj wr => L1Rel w g base n c m b L pI vi vj wr) (fun vi vj _ => (intOf vj).toNat - (intOf vi).toNat)
  case atStart => exact ⟨m, b, rfl, rfl, Nat.le_refl _, by omega, Nat.le_refl _, hide (fun u h1 h2 => by omega), hide (fun u h1 h2 => by omega), hide (grown_refl w _), HO⟩
  case round =>
    clear HO
    obtain ⟨i, j, rfl, rfl, hi1, hij, hj1, H1, H2, HG, HO⟩ := hrel
    by_cases hlt : i < j
    · obtain ⟨q, hq⟩ : ∃ q, (i + j) / 2 = q := ⟨_, rfl⟩
      have hq1 : i ≤ q := by omega
      have hq2 : q < j := by omega
      have hqi : ((i : Int) + (j : Int)) / 2 = (q : Int) := by omega
      have hLn := HLN.out
      have hT := HPI.out q (by omega) (by omega)
      obtain ⟨T1, T2⟩ := turn_up HMON.out (show m ≤ q by omega) (show q < b by omega)
      have hE_y : q < L.length := by omega
      have fy := flat_at L q hE_y
      rw [← getElem!_pos L q hE_y] at fy
      have y1 : wr.cell? ⟨g, q * 2, none⟩ = some (.int .i64 (L[q]!).1) := by rw [World.ownsRow.cellAt HO.out (q * 2) (by omega)]; exact fy.1
      have y2 : wr.cell? ⟨g, q * 2 + 1, none⟩ = some (.int .i64 (L[q]!).2) := by rw [World.ownsRow.cellAt HO.out (q * 2 + 1) (by omega)]; exact fy.2
      have gy : decide (q < n) = true := decide_eq_true (by omega)
      have hE_z : a < L.length := by omega
      have fz := flat_at L a hE_z
      rw [← getElem!_pos L a hE_z] at fz
      have z1 : wr.cell? ⟨g, a * 2, none⟩ = some (.int .i64 (L[a]!).1) := by rw [World.ownsRow.cellAt HO.out (a * 2) (by omega)]; exact fz.1
      have z2 : wr.cell? ⟨g, a * 2 + 1, none⟩ = some (.int .i64 (L[a]!).2) := by rw [World.ownsRow.cellAt HO.out (a * 2 + 1) (by omega)]; exact fz.2
      have gz : decide (a < n) = true := decide_eq_true (by omega)
      obtain ⟨r, hr⟩ : ∃ r, cmpL L[q]! L[a]! = r := ⟨_, rfl⟩
      have HC := hide (fun W => cmp_e L[q]! L[a]! r hr W)
      have hrl := cmp_lt L[q]! L[a]!
      rw [hr] at hrl
      have hsum : i + j ≤ 100000 := by omega
      have gl : decide ((i : Int) < (j : Int)) = true := decide_eq_true (by omega)
      have gl2 : decide (i < j) = true := decide_eq_true hlt
      clear hr hq fy fz hLn hE_y hE_z
      generalize L[q]! = yv at *
      generalize L[a]! = zv at *
      rcases hb : lessL yv zv with _ | _
      · rw [hb] at hrl hT
        have HN := hide (T2 hT)
        clear T1 T2 hT hb
        go_wp2
        go_region_with (go_at_call 27; (with_reducible refine (HC.out _).mono ?_); rintro e w2 ⟨rfl, hb2⟩; have hb3 : Below wr.heap.size wr w2 := bl_trans (by repeat (first | exact bl_refl _ | refine bl_drew ?_)) hb2; clear hb2)
        all_goals
          have HO9 := hide (own_below HO.out hb3)
          have HG9 := hide (HG.out.trans (grown_below g hb3))
          clear hb3
          go_wp2
          refine ⟨?_, by simp [intOf]; omega⟩
          first
            | exact ⟨i, q, rfl, rfl, by omega, by omega, by omega, H1, HN, HG9, HO9⟩
            | ((repeat apply Exists.intro); exact ⟨⟨i, q, rfl, rfl, by omega, by omega, by omega, H1, HN, HG9, HO9⟩, rfl⟩)
      · rw [hb] at hrl hT
        have HN := hide (T1 hT)
        clear T1 T2 hT hb
        go_wp2
        go_region_with (go_at_call 27; (with_reducible refine (HC.out _).mono ?_); rintro e w2 ⟨rfl, hb2⟩; have hb3 : Below wr.heap.size wr w2 := bl_trans (by repeat (first | exact bl_refl _ | refine bl_drew ?_)) hb2; clear hb2)
        all_goals
          have HO9 := hide (own_below HO.out hb3)
          have HG9 := hide (HG.out.trans (grown_below g hb3))
          clear hb3
          go_wp2
          refine ⟨?_, by simp [intOf]; omega⟩
          first
            | exact ⟨q + 1, j, by go_num, rfl, by omega, by omega, by omega, HN, H2, HG9, HO9⟩
            | ((repeat apply Exists.intro); exact ⟨⟨q + 1, j, by go_num, rfl, by omega, by omega, by omega, HN, H2, HG9, HO9⟩, rfl⟩)
    · obtain rfl : j = i := by omega
      have gl : decide ((j : Int) < (j : Int)) = false := decide_eq_false (by omega)
      have gl2 : decide (j < j) = false := by simp
      clear hij hlt
      obtain ⟨t1, ht1⟩ : ∃ t1, j = t1 + 1 := ⟨j - 1, by omega⟩
      obtain ⟨s1, hs1⟩ : ∃ s1, j = m + s1 := ⟨j - m, by omega⟩
      have HTS := hide (ts_one_left wk_less x HT.out HAh.out s1 (by omega) (fun u hu h => by
        have h9 := H1.out (m + u) (by omega) (by omega)
        rw [HPI.out (m + u) (by omega) (by omega), HLB.out u hu, HLX.out] at h9; exact h9) (fun u hu h => by
        have h9 := H2.out (m + u) (by omega) (by omega)
        rw [HPI.out (m + u) (by omega) (by omega), HLB.out u hu, HLX.out] at h9; exact h9))
      have HS1 := hide (show t1 = a + s1 by omega)
      have hat1 : a ≤ t1 := by omega
      have ht1b : t1 ≤ 1000 := by omega
      have HO0 : Hid (wr.ownsRow base 38 2 (.slice (some ⟨g, 0, none⟩) n c) n (flat (Fm P B x S a a))) := hide (by
        have h2 := HO.out
        rw [← HLL.out] at h2
        unfold Fm
        rw [Nat.sub_self, List.take_zero, List.drop_zero, List.nil_append]
        simpa using h2)
      have HLN2 := hide (show P.length + B.length + 1 + S.length = n ∧ t1 ≤ a + B.length from ⟨by omega, by omega⟩)
      have HO := HO0
      clear HO0 H1 H2 hi1 hj1 HLB HLX HLL HPI HMON HLN
      subst ht1
      clear hs1
      have hji : ((t1 + 1 : Nat) : Int) - 1 = (t1 : Int) := by omega
      have hji2 : (t1 : Int) + 1 - 1 = (t1 : Int) := by omega
      go_wp2
      go_loopw [13] (fun v wr => L2Rel w g base n c a (Fm P B x S a) t1 v wr) (fun v _ => t1 - (intOf v).toNat)
      case atStart => exact ⟨a, rfl, Nat.le_refl _, hat1, HG, HO⟩
      case round =>
        clear HO HG
        obtain ⟨k, rfl, hk1, hk2, HG, HO⟩ := hrel
        by_cases hlt : k < t1
        · obtain ⟨k1, hk1e⟩ : ∃ k1, k + 1 = k1 := ⟨_, rfl⟩
          have hl2 := HLN2.out
          have hLn : (Fm P B x S a k).length = n := by rw [Fm_len]; omega
          have hstep := Fm_up P B x S a k HAP.out (by omega) (by omega)
          rw [hk1e] at hstep
          obtain ⟨L, hL⟩ : ∃ L, Fm P B x S a k = L := ⟨_, rfl⟩
          rw [hL] at hLn hstep HO
          have hp : k < L.length := by omega
          have hq : k1 < L.length := by omega
          unfold swpL at hstep
          rw [getElem!_pos L k hp, getElem!_pos L k1 hq] at hstep
          have fp := flat_at L k hp
          have fq := flat_at L k1 hq
          obtain ⟨x1, hx⟩ : ∃ x1, L[k] = x1 := ⟨_, rfl⟩
          obtain ⟨y1, hy⟩ : ∃ y1, L[k1] = y1 := ⟨_, rfl⟩
          rw [hx] at fp hstep
          rw [hy] at fq hstep
          have c1 : wr.cell? ⟨g, k * 2, none⟩ = some (.int .i64 x1.1) := by rw [World.ownsRow.cellAt HO.out (k * 2) (by omega)]; exact fp.1
          have c3 : wr.cell? ⟨g, k1 * 2, none⟩ = some (.int .i64 y1.1) := by rw [World.ownsRow.cellAt HO.out (k1 * 2) (by omega)]; exact fq.1
          have c2 : wr.cell? ⟨g, k * 2 + 1, none⟩ = some (.int .i64 x1.2) := by rw [World.ownsRow.cellAt HO.out (k * 2 + 1) (by omega)]; exact fp.2
          have c4 : wr.cell? ⟨g, k1 * 2 + 1, none⟩ = some (.int .i64 y1.2) := by rw [World.ownsRow.cellAt HO.out (k1 * 2 + 1) (by omega)]; exact fq.2
          have z1 := World.ownsRow.frozenAt HO.out (k * 2)
          have z2 := World.ownsRow.frozenAt HO.out (k * 2 + 1)
          have z3 := World.ownsRow.frozenAt HO.out (k1 * 2)
          have z4 := World.ownsRow.frozenAt HO.out (k1 * 2 + 1)
          have gpn : k < n := by omega
          have gqn : k1 < n := by omega
          have hne1 : k * 2 ≠ k1 * 2 := by omega
          have hne2 : k * 2 ≠ k1 * 2 + 1 := by omega
          have hne3 : k * 2 + 1 ≠ k1 * 2 := by omega
          have hne4 : k * 2 + 1 ≠ k1 * 2 + 1 := by omega
          have hkn : k + 1 ≤ 1000 := by omega
          have gk : decide ((k : Int) < (t1 : Int)) = true := decide_eq_true (by omega)
          have gk2 : decide (k < t1) = true := decide_eq_true hlt
          have hwk : IntKind.i64.wrap ((k : Int) + 1) = (k1 : Int) := by rw [IntWalk.i64_in _ (by omega)]; omega
          have hwk2 : (k : Int) + 1 = (k1 : Int) := by omega
          have hwk4 : IntKind.i64.wrap (k1 : Int) = (k1 : Int) := IntWalk.i64_in _ (by omega)
          have hwk5 : k1 ≤ 1000 := by omega
          have hfin := fun (W : World) (ho : W.ownsRow base 38 2 (.slice (some ⟨g, 0, none⟩) n c) n (flat L)) => own_put2 (own_put2 ho (k) (by omega) y1) (k1) (by rw [List.length_set]; omega) x1
          rw [hstep] at hfin
          have hfin2 := fun (W : World) (ho : W.ownsRow base 38 2 (.slice (some ⟨g, 0, none⟩) n c) n (flat L)) => own_put2 (own_put2 ho (k1) (by omega) x1) (k) (by rw [List.length_set]; omega) y1
          rw [List.set_comm _ _ (by omega : k1 ≠ k), hstep] at hfin2
          have HF := hide hfin
          have HF2 := hide hfin2
          have hkr : k < k1 ∧ k1 ≤ k + 1 := by omega
          clear hfin hfin2 hstep hLn fp fq hx hy hL hp hq hk1e hl2
          go_wp2
          go_region
          all_goals
            go_wp2
            refine ⟨?_, by simp [intOf]; omega⟩
            refine ⟨k1, rfl, by omega, by omega, ?_, ?_⟩
            · exact hide (HG.out.trans (by repeat (first | exact grown_refl _ _ | refine grown_drew ?_ | refine grown_set ?_ _ _)))
            · first
                | exact hide (World.ownsRow.drew (HF.out _ HO.out))
                | exact hide (World.ownsRow.drew (HF2.out _ HO.out))
        · obtain rfl : k = t1 := by omega
          have hfin : SymPost w g base n c P [x] B S (.returned (.tuple #[])) wr := by
            refine ⟨rfl, HG.out, B.take s1 ++ [x] ++ B.drop s1, ?_, HTS.out, ?_⟩
            · have h1 : (B.take s1 ++ [x] ++ B.drop s1).Perm ([x] ++ (B.take s1 ++ B.drop s1)) := by
                rw [List.append_assoc]
                exact (List.perm_append_comm_assoc _ _ _)
              rw [List.take_append_drop] at h1
              exact h1
            · have h2 := HO.out
              unfold Fm at h2
              rw [show k - a = s1 by have := HS1.out; omega] at h2
              simpa using h2
          have HFN := hide hfin
          have gk : decide ((k : Int) < (k : Int)) = false := decide_eq_false (by omega)
          have gk2 : decide (k < k) = false := by simp
          clear hfin HG HO
          go_wp2
          go_end0
          exact HFN.out
end Go.Proofs.Ytjkjgfgblfioeaa
