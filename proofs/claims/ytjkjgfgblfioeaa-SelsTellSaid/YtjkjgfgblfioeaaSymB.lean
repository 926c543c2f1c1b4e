/- Contract: two neighbouring parts of a row of selections turned about one another, as the library's stable sort does. Condition: neither is empty. -/
import Derived.Test.YtjkjgfgblfioeaaSymA
namespace Go.Proofs.Ytjkjgfgblfioeaa
open Go.ChangeShapes Go.WideShapes Go.ChangeAt Go.RowKit
open SpanM
set_option maxRecDepth 100000
set_option linter.unusedVariables false
/-- Two parts of one length exchanged, the row written out. -/
theorem swapP_any (g c base n : Nat) (P X M Y S : List Sp) (a b k : Nat) (fv : Value) (w : World) (h : w.ownsRow base 38 2 (.slice (some ⟨g, 0, none⟩) n c) n (flat (P ++ (X ++ (M ++ (Y ++ S)))))) (hn : P.length + X.length + M.length + Y.length + S.length = n) (hl : n ≤ 1000) (hXY : X.length = Y.length) (ha : a = P.length) (hb : b = P.length + X.length + M.length) (hk : k = X.length) :
    Calls Try.prog 52 #[.slice (some ⟨g, 0, none⟩) n c, .int .i64 a, .int .i64 b, .int .i64 k, fv] w fun e w' => e = .returned (.tuple #[]) ∧ w.grownBy w' (some g) ∧ w'.ownsRow base 38 2 (.slice (some ⟨g, 0, none⟩) n c) n (flat (P ++ (Y ++ (M ++ (X ++ S))))) := by
  have h1 := swapR_any g c base n _ a b k fv w h (by simp only [List.length_append]; omega) hl (by omega) (by omega)
  rw [ha, hb, hk, swR_all P X M Y S hXY] at h1
  rw [ha, hb, hk]
  exact h1
def RotRel (w : World) (base g n c m : Nat) (T : List Sp) (vi vj : Value) (wr : World) : Prop :=
  ∃ (i j : Nat) (P X Y S : List Sp), vi = .int .i64 i ∧ vj = .int .i64 j ∧ i ≤ n ∧ j ≤ n ∧ Hid (i = X.length ∧ j = Y.length ∧ P.length + X.length = m ∧ P.length + X.length + Y.length + S.length = n ∧ P ++ (Y ++ (X ++ S)) = T) ∧ 0 < i ∧ 0 < j ∧ i ≤ m ∧ m + j ≤ n ∧ w.grownBy wr (some g) ∧ Hid (wr.ownsRow base 38 2 (.slice (some ⟨g, 0, none⟩) n c) n (flat (P ++ (X ++ (Y ++ S)))))
set_option maxHeartbeats 8000000 in
theorem rot_any (g c base n : Nat) (P A B S : List Sp) (a m b : Nat) (fv : Value) (w : World) (h : w.ownsRow base 38 2 (.slice (some ⟨g, 0, none⟩) n c) n (flat (P ++ (A ++ (B ++ S))))) (hn : P.length + A.length + B.length + S.length = n) (hl : n ≤ 1000) (hA : 0 < A.length) (hB : 0 < B.length) (ha : a = P.length) (hm : m = P.length + A.length) (hb : b = P.length + A.length + B.length) :
    Calls Try.prog 50 #[.slice (some ⟨g, 0, none⟩) n c, .int .i64 a, .int .i64 m, .int .i64 b, fv] w fun e w' => e = .returned (.tuple #[]) ∧ w.grownBy w' (some g) ∧ w'.ownsRow base 38 2 (.slice (some ⟨g, 0, none⟩) n c) n (flat (P ++ (B ++ (A ++ S)))) := by
  obtain ⟨T, hT⟩ : ∃ T, P ++ (B ++ (A ++ S)) = T := ⟨_, rfl⟩
  rw [hT]
  obtain ⟨i0, hi0⟩ : ∃ i0, A.length = i0 := ⟨_, rfl⟩
  obtain ⟨j0, hj0⟩ : ∃ j0, B.length = j0 := ⟨_, rfl⟩
  have hw1 : IntKind.i64.wrap ((m : Int) - (a : Int)) = (i0 : Int) := by rw [IntWalk.i64_in _ (by omega)]; omega
  have hw2 : IntKind.i64.wrap ((b : Int) - (m : Int)) = (j0 : Int) := by rw [IntWalk.i64_in _ (by omega)]; omega
  have hw3 : (m : Int) - (a : Int) = (i0 : Int) := by omega
  have hw4 : (b : Int) - (m : Int) = (j0 : Int) := by omega
  have HS := hide (show RotRel w base g n c m T (.int .i64 i0) (.int .i64 j0) w from ⟨i0, j0, P, A, B, S, rfl, rfl, by omega, by omega, hide ⟨hi0.symm, hj0.symm, by omega, by omega, hT⟩, by omega, by omega, by omega, by omega, grown_refl w _, hide h⟩)
  have hib : i0 ≤ 1000 := by omega
  have hjb : j0 ≤ 1000 := by omega
  clear h hT hi0 hj0 ha hm hb hA hB hn
  go_enter Try.func50, Try.ntmps50
  go_wp2
  clear hw1 hw2 hw3 hw4
  go_loopw [10, 11] (fun vi vj wr => RotRel w base g n c m T vi vj wr) (fun vi vj _ => (intOf vi).toNat + (intOf vj).toNat)
  case atStart => exact HS.out
  case round =>
    clear HS
    obtain ⟨i, j, P, X, Y, S, rfl, rfl, hin, hjn, HQ, hi, hj, him, hjm, hg, HO⟩ := hrel
    rcases Nat.lt_trichotomy i j with hij | hij | hij
    · obtain ⟨q1, q2, q3, q4, q5⟩ := HQ.out
      obtain ⟨Y1, Y2, hY, hY2⟩ : ∃ Y1 Y2, Y = Y1 ++ Y2 ∧ Y2.length = i := ⟨Y.take (j - i), Y.drop (j - i), (List.take_append_drop _ _).symm, by rw [List.length_drop]; omega⟩
      have hY1 : Y1.length + i = j := by rw [q2, hY, List.length_append]; omega
      have HW := hide (swapP_any g c base n P X Y1 Y2 S (m - i) (m + j - i) i fv wr (by have := HO.out; rw [hY, List.append_assoc] at this; exact this) (by rw [hY, List.length_append] at q4; omega) hl (by omega) (by omega) (by omega) q1)
      have HQ2 := hide (show i = Y2.length ∧ j - i = Y1.length ∧ P.length + Y2.length = m ∧ P.length + Y2.length + Y1.length + (X ++ S).length = n ∧ P ++ (Y1 ++ (Y2 ++ (X ++ S))) = T from ⟨hY2.symm, by omega, by omega, by rw [hY, List.length_append] at q4; rw [List.length_append]; omega, by rw [← q5, hY]; simp⟩)
      have gi : ((i : Int) != (j : Int)) = true := by simp; omega
      have gi2 : (i != j) = true := by simp; omega
      have gj : decide ((j : Int) < (i : Int)) = false := decide_eq_false (by omega)
      have gj2 : decide (j < i) = false := decide_eq_false (by omega)
      have e1 : IntKind.i64.wrap ((m : Int) - (i : Int)) = ((m - i : Nat) : Int) := by rw [IntWalk.i64_in _ (by omega)]; omega
      have e2 : (m : Int) - (i : Int) = ((m - i : Nat) : Int) := by omega
      have e3 : (m : Int) + (j : Int) - (i : Int) = ((m + j - i : Nat) : Int) := by omega
      have e4 : IntKind.i64.wrap ((m : Int) + (j : Int) - (i : Int)) = ((m + j - i : Nat) : Int) := by rw [IntWalk.i64_in _ (by omega)]; omega
      have e5 : IntKind.i64.wrap ((m : Int) + (j : Int)) = (m : Int) + (j : Int) := IntWalk.i64_in _ (by omega)
      have e6 : (j : Int) - (i : Int) = ((j - i : Nat) : Int) := by omega
      have e7 : IntKind.i64.wrap ((j : Int) - (i : Int)) = ((j - i : Nat) : Int) := by rw [IntWalk.i64_in _ (by omega)]; omega
      clear q1 q2 q3 q4 q5 hY hY2 hY1 HO HQ
      go_wp2_with fail
      refine HW.out.mono ?_
      rintro e w2 ⟨rfl, hg2, ho2⟩
      have HO2 := hide ho2
      clear ho2
      go_wp2
      refine ⟨?_, by simp [intOf]; omega⟩
      exact ⟨i, j - i, P, Y2, Y1, X ++ S, rfl, rfl, by omega, by omega, HQ2, by omega, by omega, by omega, by omega, hg.trans hg2, HO2⟩
    · obtain ⟨q1, q2, q3, q4, q5⟩ := HQ.out
      subst hij
      have HW := hide (swapP_any g c base n P X [] Y S (m - i) m i fv wr HO.out (by simp; omega) hl (by omega) (by omega) (by simp; omega) q1)
      have HT := hide q5
      have e1 : IntKind.i64.wrap ((m : Int) - (i : Int)) = ((m - i : Nat) : Int) := by rw [IntWalk.i64_in _ (by omega)]; omega
      have e2 : (m : Int) - (i : Int) = ((m - i : Nat) : Int) := by omega
      have gi : ((i : Int) != (i : Int)) = false := by simp
      clear q1 q2 q3 q4 q5 HO HQ
      go_wp2_with fail
      refine HW.out.mono ?_
      rintro e w2 ⟨rfl, hg2, ho2⟩
      rw [List.nil_append, HT.out] at ho2
      go_wp2
      go_end0
      exact ⟨rfl, hg.trans hg2, ho2⟩
    · obtain ⟨q1, q2, q3, q4, q5⟩ := HQ.out
      obtain ⟨X1, X2, hX, hX1⟩ : ∃ X1 X2, X = X1 ++ X2 ∧ X1.length = j := ⟨X.take j, X.drop j, (List.take_append_drop _ _).symm, by rw [List.length_take]; omega⟩
      have hX2 : j + X2.length = i := by rw [q1, hX, List.length_append]; omega
      have HW := hide (swapP_any g c base n P X1 X2 Y S (m - i) m j fv wr (by have := HO.out; rw [hX, List.append_assoc] at this; exact this) (by rw [hX, List.length_append] at q4; omega) hl (by omega) (by omega) (by rw [hX, List.length_append] at q3; omega) hX1.symm)
      have HQ2 := hide (show i - j = X2.length ∧ j = X1.length ∧ (P ++ Y).length + X2.length = m ∧ (P ++ Y).length + X2.length + X1.length + S.length = n ∧ (P ++ Y) ++ (X1 ++ (X2 ++ S)) = T from ⟨by omega, hX1.symm, by rw [List.length_append]; omega, by rw [List.length_append]; omega, by rw [← q5, hX]; simp⟩)
      have gi : ((i : Int) != (j : Int)) = true := by simp; omega
      have gi2 : (i != j) = true := by simp; omega
      have gj : decide ((j : Int) < (i : Int)) = true := decide_eq_true (by omega)
      have gj2 : decide (j < i) = true := decide_eq_true (by omega)
      have e1 : IntKind.i64.wrap ((m : Int) - (i : Int)) = ((m - i : Nat) : Int) := by rw [IntWalk.i64_in _ (by omega)]; omega
      have e2 : (m : Int) - (i : Int) = ((m - i : Nat) : Int) := by omega
      have e6 : (i : Int) - (j : Int) = ((i - j : Nat) : Int) := by omega
      have e7 : IntKind.i64.wrap ((i : Int) - (j : Int)) = ((i - j : Nat) : Int) := by rw [IntWalk.i64_in _ (by omega)]; omega
      have hlen : 0 < i - j := by omega
      clear q1 q2 q3 q4 q5 hX hX1 hX2 HO HQ
      go_wp2_with fail
      refine HW.out.mono ?_
      rintro e w2 ⟨rfl, hg2, ho2⟩
      have HO2 : Hid (w2.ownsRow base 38 2 (.slice (some ⟨g, 0, none⟩) n c) n (flat ((P ++ Y) ++ (X2 ++ (X1 ++ S))))) := hide (by rw [List.append_assoc]; exact ho2)
      clear ho2
      go_wp2
      refine ⟨?_, by simp [intOf]; omega⟩
      exact ⟨i - j, j, P ++ Y, X2, X1, S, rfl, rfl, by omega, by omega, HQ2, by omega, by omega, by omega, by omega, hg.trans hg2, HO2⟩
end Go.Proofs.Ytjkjgfgblfioeaa
