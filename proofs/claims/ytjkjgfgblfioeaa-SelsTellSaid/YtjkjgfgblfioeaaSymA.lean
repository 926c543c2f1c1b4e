/- Contract: two parts of a row of selections exchanged, as the library's stable sort does. Condition: they lie in the row, one behind the other. -/
import Derived.Test.YtjkjgfgblfioeaaSpanA
import Derived.Test.YtjkjgfgblfioeaaLater
import Derived.Test.YtjkjgfgblfioeaaOwn
import Derived.IntWalk
import Derived.BigRegion
namespace Go.Proofs.Ytjkjgfgblfioeaa
open Go.ChangeShapes Go.WideShapes Go.ChangeAt Go.RowKit
open SpanM
set_option maxRecDepth 100000
set_option linter.unusedVariables false
/-- Two parts of a row exchanged, one element after the other. -/
def swpL {α : Type} [Inhabited α] (l : List α) (i j : Nat) : List α := (l.set i l[j]!).set j l[i]!
def swR {α : Type} [Inhabited α] (l : List α) (a b : Nat) : Nat → List α
  | 0 => l
  | k + 1 => swpL (swR l a b k) (a + k) (b + k)
theorem swpL_len {α : Type} [Inhabited α] (l : List α) (i j : Nat) : (swpL l i j).length = l.length := by unfold swpL; simp
theorem swR_len {α : Type} [Inhabited α] (l : List α) (a b k : Nat) : (swR l a b k).length = l.length := by
  induction k with
  | zero => rfl
  | succ k ih => rw [swR, swpL_len, ih]
theorem swpL_at {α : Type} [Inhabited α] (A B C : List α) (x y : α) (i j : Nat) (hi : i = A.length) (hj : j = A.length + 1 + B.length) : swpL (A ++ x :: (B ++ y :: C)) i j = A ++ y :: (B ++ x :: C) := by
  subst hi hj
  have e1 : (A ++ x :: (B ++ y :: C))[A.length]! = x := by rw [getElem!_pos _ _ (by simp)]; simp
  have e2 : (A ++ x :: (B ++ y :: C))[A.length + 1 + B.length]! = y := by
    rw [getElem!_pos _ _ (by simp; omega), List.getElem_append_right (by omega)]
    simp only [show A.length + 1 + B.length - A.length = B.length + 1 by omega, List.getElem_cons_succ]
    rw [List.getElem_append_right (Nat.le_refl _)]
    simp
  unfold swpL
  rw [e1, e2, List.set_append_right _ _ (Nat.le_refl _), Nat.sub_self, List.set_cons_zero, List.set_append_right _ _ (by omega), show A.length + 1 + B.length - A.length = B.length + 1 by omega, List.set_cons_succ, List.set_append_right _ _ (Nat.le_refl _), Nat.sub_self, List.set_cons_zero]
theorem swR_at {α : Type} [Inhabited α] (P X M Y S : List α) (hXY : X.length = Y.length) : ∀ k, k ≤ X.length → swR (P ++ (X ++ (M ++ (Y ++ S)))) P.length (P.length + X.length + M.length) k = P ++ (Y.take k ++ (X.drop k ++ (M ++ (X.take k ++ (Y.drop k ++ S))))) := by
  intro k
  induction k with
  | zero => intro _; simp [swR]
  | succ k ih =>
    intro hk
    rw [swR, ih (by omega)]
    have hx : X.drop k = X[k] :: X.drop (k + 1) := List.drop_eq_getElem_cons (by omega)
    have hy : Y.drop k = Y[k] :: Y.drop (k + 1) := List.drop_eq_getElem_cons (by omega)
    have tx : X.take (k + 1) = X.take k ++ [X[k]] := List.take_succ_eq_append_getElem (by omega)
    have ty : Y.take (k + 1) = Y.take k ++ [Y[k]] := List.take_succ_eq_append_getElem (by omega)
    rw [hx, hy]
    have h := swpL_at (P ++ Y.take k) (X.drop (k + 1) ++ (M ++ X.take k)) (Y.drop (k + 1) ++ S) X[k] Y[k] (P.length + k) (P.length + X.length + M.length + k) (by rw [List.length_append, List.length_take]; omega) (by simp only [List.length_append, List.length_take, List.length_drop]; omega)
    rw [tx, ty]
    simp only [List.append_assoc, List.cons_append, List.nil_append] at h ⊢
    exact h
theorem swR_all {α : Type} [Inhabited α] (P X M Y S : List α) (hXY : X.length = Y.length) : swR (P ++ (X ++ (M ++ (Y ++ S)))) P.length (P.length + X.length + M.length) X.length = P ++ (Y ++ (M ++ (X ++ S))) := by
  have h := swR_at P X M Y S hXY X.length (Nat.le_refl _)
  have h1 : Y.take X.length = Y := by rw [hXY, List.take_length]
  have h2 : Y.drop X.length = [] := by rw [hXY, List.drop_length]
  rw [List.take_length, List.drop_length, List.nil_append, h1, h2, List.nil_append] at h
  exact h
theorem flat_set2 (l : List Sp) (i : Nat) (h : i < l.length) (s : Sp) : ((flat l).set (i * 2) (.int .i64 s.1)).set (i * 2 + 1) (.int .i64 s.2) = flat (l.set i s) := by
  induction l generalizing i with
  | nil => simp at h
  | cons a r ih =>
    cases i with
    | zero => rfl
    | succ i =>
      have e : ∀ (b : Sp) (q : List Sp), flat (b :: q) = .int .i64 b.1 :: .int .i64 b.2 :: flat q := fun _ _ => rfl
      have h1 : (i + 1) * 2 = i * 2 + 1 + 1 := by omega
      rw [e, h1, List.set_cons_succ, List.set_cons_succ, List.set_cons_succ, List.set_cons_succ, ih i (by simpa using h), List.set_cons_succ, e]
/-- A whole element stored into a row of one's own. -/
theorem own_put2 {w : World} {base g n c : Nat} {l : List Sp} (h : w.ownsRow base 38 2 (.slice (some ⟨g, 0, none⟩) n c) n (flat l)) (i : Nat) (hi : i < l.length) (s : Sp) :
    ((w.setCell ⟨g, i * 2, none⟩ (.int .i64 s.1)).setCell ⟨g, i * 2 + 1, none⟩ (.int .i64 s.2)).ownsRow base 38 2 (.slice (some ⟨g, 0, none⟩) n c) n (flat (l.set i s)) := by
  have h1 := (World.ownsRow.stored h (i * 2) (.int .i64 s.1)).1
  have h2 := (World.ownsRow.stored h1 (i * 2 + 1) (.int .i64 s.2)).1
  rw [flat_set2 l i hi s] at h2
  exact h2
set_option maxHeartbeats 8000000 in
theorem swapR_any (g c base n : Nat) (l : List Sp) (a b k : Nat) (fv : Value) (w : World) (h : w.ownsRow base 38 2 (.slice (some ⟨g, 0, none⟩) n c) n (flat l)) (hn : l.length = n) (hl : n ≤ 1000) (hab : a + k ≤ b) (hbn : b + k ≤ n) :
    Calls Try.prog 52 #[.slice (some ⟨g, 0, none⟩) n c, .int .i64 a, .int .i64 b, .int .i64 k, fv] w fun e w' => e = .returned (.tuple #[]) ∧ w.grownBy w' (some g) ∧ w'.ownsRow base 38 2 (.slice (some ⟨g, 0, none⟩) n c) n (flat (swR l a b k)) := by
  have H := hide h
  have HN := hide hn
  clear h hn
  go_enter Try.func52, Try.ntmps52
  go_wp2
  go_loopw [10] (fun v wr => ∃ i : Nat, v = .int .i64 i ∧ i ≤ k ∧ w.grownBy wr (some g) ∧ Hid (wr.ownsRow base 38 2 (.slice (some ⟨g, 0, none⟩) n c) n (flat (swR l a b i)))) (fun v _ => k - (intOf v).toNat)
  case atStart => exact ⟨0, rfl, Nat.zero_le _, grown_refl w _, H⟩
  case round =>
    obtain ⟨i, rfl, hi, hg, HO⟩ := hrel
    by_cases hlt : i < k
    · have hL : (swR l a b i).length = n := by rw [swR_len, HN.out]
      obtain ⟨p, hp⟩ : ∃ p, a + i = p := ⟨_, rfl⟩
      obtain ⟨q, hq⟩ : ∃ q, b + i = q := ⟨_, rfl⟩
      have hpn : p < n := by omega
      have hqn : q < n := by omega
      have hpq : p < q := by omega
      obtain ⟨L, hLL⟩ : ∃ L, swR l a b i = L := ⟨_, rfl⟩
      have hstep : swR l a b (i + 1) = (L.set p L[q]!).set q L[p]! := by rw [swR, hLL, hp, hq]; rfl
      rw [hLL] at hL HO
      have fp := flat_at L p (by omega)
      have fq := flat_at L q (by omega)
      rw [getElem!_pos L q (by omega), getElem!_pos L p (by omega)] at hstep
      obtain ⟨x, hx⟩ : ∃ x, L[p] = x := ⟨_, rfl⟩
      obtain ⟨y, hy⟩ : ∃ y, L[q] = y := ⟨_, rfl⟩
      rw [hx] at fp hstep
      rw [hy] at fq hstep
      have x1 : wr.cell? ⟨g, p * 2, none⟩ = some (.int .i64 x.1) := by rw [World.ownsRow.cellAt HO.out (p * 2) (by omega)]; exact fp.1
      have x2 : wr.cell? ⟨g, p * 2 + 1, none⟩ = some (.int .i64 x.2) := by rw [World.ownsRow.cellAt HO.out (p * 2 + 1) (by omega)]; exact fp.2
      have y1 : wr.cell? ⟨g, q * 2, none⟩ = some (.int .i64 y.1) := by rw [World.ownsRow.cellAt HO.out (q * 2) (by omega)]; exact fq.1
      have y2 : wr.cell? ⟨g, q * 2 + 1, none⟩ = some (.int .i64 y.2) := by rw [World.ownsRow.cellAt HO.out (q * 2 + 1) (by omega)]; exact fq.2
      have z1 := World.ownsRow.frozenAt HO.out (p * 2)
      have z2 := World.ownsRow.frozenAt HO.out (p * 2 + 1)
      have z3 := World.ownsRow.frozenAt HO.out (q * 2)
      have z4 := World.ownsRow.frozenAt HO.out (q * 2 + 1)
      have hw1 : (a : Int) + (i : Int) = (p : Int) := by omega
      have hw2 : (b : Int) + (i : Int) = (q : Int) := by omega
      have hw3 : IntKind.i64.wrap ((a : Int) + (i : Int)) = (p : Int) := by rw [IntWalk.i64_in _ (by omega)]; omega
      have hw4 : IntKind.i64.wrap ((b : Int) + (i : Int)) = (q : Int) := by rw [IntWalk.i64_in _ (by omega)]; omega
      have gp : decide (p < n) = true := decide_eq_true hpn
      have gq : decide (q < n) = true := decide_eq_true hqn
      have hne1 : p * 2 ≠ q * 2 := by omega
      have hne2 : p * 2 ≠ q * 2 + 1 := by omega
      have hne3 : p * 2 + 1 ≠ q * 2 := by omega
      have hne4 : p * 2 + 1 ≠ q * 2 + 1 := by omega
      have hLn := hL
      have hfin := fun (W : World) (hw : wr.grownBy W (some g)) (ho : W.ownsRow base 38 2 (.slice (some ⟨g, 0, none⟩) n c) n (flat L)) => own_put2 (own_put2 ho p (by omega) y) q (by rw [List.length_set]; omega) x
      rw [← hstep] at hfin
      have hfin2 := fun (W : World) (hw : wr.grownBy W (some g)) (ho : W.ownsRow base 38 2 (.slice (some ⟨g, 0, none⟩) n c) n (flat L)) => own_put2 (own_put2 ho q (by omega) x) p (by rw [List.length_set]; omega) y
      rw [List.set_comm _ _ (by omega : q ≠ p), ← hstep] at hfin2
      have HF := hide hfin
      have HF2 := hide hfin2
      have HS := hide hL
      clear hfin hfin2 hstep hL fp fq hx hy hLL hp hq hLn
      go_wp2
      go_region
      all_goals
        go_wp2
        refine ⟨?_, by first | (simp [intOf]; done) | (simp [intOf]; omega)⟩
        refine ⟨i + 1, by go_num, by omega, ?_, ?_⟩
        · exact hg.trans (by repeat (first | exact grown_refl _ _ | refine grown_drew ?_ | refine grown_set ?_ _ _))
        · first
            | exact World.ownsRow.drew (HF.out _ (grown_refl _ _) HO.out)
            | exact World.ownsRow.drew (HF2.out _ (grown_refl _ _) HO.out)
    · obtain rfl : i = k := by omega
      have gl : decide (i < i) = false := by simp
      go_wp2
      go_end0
      exact ⟨rfl, hg, HO.out⟩
end Go.Proofs.Ytjkjgfgblfioeaa
