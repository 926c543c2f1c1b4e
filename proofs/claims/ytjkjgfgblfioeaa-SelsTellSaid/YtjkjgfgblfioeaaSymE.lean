/- Two halves, each merged, one behind the other (plain mathematics of symMerge). -/
import Derived.Test.YtjkjgfgblfioeaaSymC
namespace Go.Proofs.Ytjkjgfgblfioeaa
open Go.ChangeShapes Go.WideShapes Go.ChangeAt Go.RowKit
open SpanM SelM
attribute [local go_sem ↓] Go.wp_at_zero Go.wp_at_succ
set_option maxRecDepth 100000
set_option linter.unusedVariables false
theorem ahead_sub {A B A' B' : List (Sp × Nat)} (h : Ahead A B) (hA : ∀ x ∈ A', x ∈ A) (hB : ∀ x ∈ B', x ∈ B) : Ahead A' B' := fun x hx y hy => h x (hA x hx) y (hB y hy)
theorem halves {A B M1 M2 : List (Sp × Nat)} (s t : Nat) (hs : s ≤ A.length) (ht : t ≤ B.length) (tA : TS lessL A) (tB : TS lessL B) (hAB : Ahead A B)
    (h1 : ∀ (h1 : 0 < s) (h2 : t < B.length), lessL B[t].1 (A[s - 1]'(by omega)).1 = false)
    (h2 : ∀ (h1 : 0 < t) (h2 : s < A.length), lessL (B[t - 1]'(by omega)).1 A[s].1 = true)
    (p1 : M1.Perm (A.take s ++ B.take t)) (p2 : M2.Perm (A.drop s ++ B.drop t)) (q1 : TS lessL M1) (q2 : TS lessL M2) : (M1 ++ M2).Perm (A ++ B) ∧ TS lessL (M1 ++ M2) := by
  have h4 := ts_four wk_less tA tB hAB s t hs ht h1 h2
  refine ⟨?_, ts_app.2 ⟨q1, q2, fun x hx y hy => h4 x (p1.mem_iff.1 hx) y (p2.mem_iff.1 hy)⟩⟩
  have e1 : (A ++ B) = (A.take s ++ A.drop s) ++ (B.take t ++ B.drop t) := by rw [List.take_append_drop, List.take_append_drop]
  refine (p1.append p2).trans ?_
  rw [e1]
  have e2 : (A.take s ++ B.take t ++ (A.drop s ++ B.drop t)) = A.take s ++ (B.take t ++ (A.drop s ++ B.drop t)) := List.append_assoc _ _ _
  have e3 : (A.take s ++ A.drop s ++ (B.take t ++ B.drop t)) = A.take s ++ (A.drop s ++ (B.take t ++ B.drop t)) := List.append_assoc _ _ _
  rw [e2, e3]
  refine List.Perm.append_left _ ?_
  exact List.perm_append_comm_assoc _ _ _
def SymOK (g c base n K : Nat) : Prop := ∀ (P A B S : List (Sp × Nat)) (a m b : Nat) (w : World), A.length + B.length < K → 0 < A.length → 0 < B.length → TS lessL A → TS lessL B → Ahead A B → w.ownsRow base 38 2 (.slice (some ⟨g, 0, none⟩) n c) n (flat (vals (P ++ (A ++ (B ++ S))))) → P.length + A.length + B.length + S.length = n → a = P.length → m = P.length + A.length → b = P.length + A.length + B.length →
  Calls Try.prog 47 #[.slice (some ⟨g, 0, none⟩) n c, .int .i64 a, .int .i64 m, .int .i64 b, .func (.func 27) #[] #[]] w (SymPost w g base n c P A B S)
/-- Turned about, over elements with places. -/
theorem rotV (g c base n : Nat) (P A B S : List (Sp × Nat)) (a m b : Nat) (fv : Value) (w : World) (h : w.ownsRow base 38 2 (.slice (some ⟨g, 0, none⟩) n c) n (flat (vals (P ++ (A ++ (B ++ S)))))) (hn : P.length + A.length + B.length + S.length = n) (hl : n ≤ 1000) (hA : 0 < A.length) (hB : 0 < B.length) (ha : a = P.length) (hm : m = P.length + A.length) (hb : b = P.length + A.length + B.length) :
    Calls Try.prog 50 #[.slice (some ⟨g, 0, none⟩) n c, .int .i64 a, .int .i64 m, .int .i64 b, fv] w fun e w' => e = .returned (.tuple #[]) ∧ w.grownBy w' (some g) ∧ w'.ownsRow base 38 2 (.slice (some ⟨g, 0, none⟩) n c) n (flat (vals (P ++ (B ++ (A ++ S))))) := by
  simp only [vals_app] at h ⊢
  exact rot_any g c base n (vals P) (vals A) (vals B) (vals S) a m b fv w h (by simp only [vals_len]; exact hn) hl (by rw [vals_len]; exact hA) (by rw [vals_len]; exact hB) (by rw [vals_len]; exact ha) (by simp only [vals_len]; exact hm) (by simp only [vals_len]; exact hb)
end Go.Proofs.Ytjkjgfgblfioeaa
