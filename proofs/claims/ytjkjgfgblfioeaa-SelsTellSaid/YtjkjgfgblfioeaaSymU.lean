/- Contracts: the library's stable sort of fewer than 80 selections. Condition: fewer than 80. -/
import Derived.Test.YtjkjgfgblfioeaaSymT
import Derived.Test.YtjkjgfgblfioeaaSelE
namespace Go.Proofs.Ytjkjgfgblfioeaa
open Go.ChangeShapes Go.WideShapes Go.ChangeAt Go.RowKit
open SpanM SelM
theorem tag_len (l : List Sp) (o : Nat) : (tagL o l).length = l.length := by
  have := congrArg List.length (tag_vals l o)
  rw [vals_len] at this
  exact this
theorem stableM_any (g c : Nat) (base : Nat) (l : List Sp) (w : World) (h : w.ownsRow base 38 2 (.slice (some ⟨g, 0, none⟩) l.length c) l.length (flat l)) (hl : l.length < 80) :
    Calls Try.prog 41 #[.slice (some ⟨g, 0, none⟩) l.length c, .int .i64 l.length, .func (.func 27) #[] #[]] w fun e w' =>
      e = .returned (.tuple #[]) ∧ w.grownBy w' (some g) ∧ w'.ownsRow base 38 2 (.slice (some ⟨g, 0, none⟩) l.length c) l.length (flat (sortL l)) := by
  by_cases h20 : l.length ≤ 20
  · exact stableL_any g c base l w h h20
  have hv := tag_vals l 0
  have hL := tag_len l 0
  have hu := tag_up l 0
  have key : ∀ (L : List (Sp × Nat)), L = tagL 0 l → (Calls Try.prog 41 #[.slice (some ⟨g, 0, none⟩) l.length c, .int .i64 l.length, .func (.func 27) #[] #[]] w fun e w' =>
      e = .returned (.tuple #[]) ∧ w.grownBy w' (some g) ∧ ∃ T, T.Perm L ∧ TS lessL T ∧ RowT w' g base l.length c T) → Calls Try.prog 41 #[.slice (some ⟨g, 0, none⟩) l.length c, .int .i64 l.length, .func (.func 27) #[] #[]] w fun e w' =>
      e = .returned (.tuple #[]) ∧ w.grownBy w' (some g) ∧ w'.ownsRow base 38 2 (.slice (some ⟨g, 0, none⟩) l.length c) l.length (flat (sortL l)) := by
    rintro L rfl hc
    refine hc.mono ?_
    rintro e w' ⟨he, hg, T, hp, ht, hr⟩
    refine ⟨he, hg, ?_⟩
    rw [← stable_eq l T hp ht]
    exact hr
  obtain ⟨X1, Y1, e1, l1, m1⟩ := cutT (tagL 0 l) 20 (by omega)
  have h0 : RowT w g base l.length c (X1 ++ Y1) := by rw [← e1]; unfold RowT; rw [hv]; exact h
  by_cases h40 : l.length ≤ 40
  · refine key (X1 ++ Y1) e1.symm ?_
    rw [e1] at hu
    rcases Nat.lt_or_ge l.length 40 with h4 | h4
    · exact st2_any g c base l.length X1 Y1 w h0 l1 (by omega) (by omega) h4 hu
    · have h5 : l.length = 40 := by omega
      rw [h5] at h0 ⊢
      exact st2e_any g c base X1 Y1 w h0 l1 (by omega) hu
  obtain ⟨X2, Y2, e2, l2, m2⟩ := cutT Y1 20 (by omega)
  by_cases h60 : l.length ≤ 60
  · refine key (X1 ++ (X2 ++ Y2)) (by rw [e1, e2]) ?_
    rw [e1, e2] at hu
    rw [e2] at h0
    rcases Nat.lt_or_ge l.length 60 with h4 | h4
    · exact st3_any g c base l.length X1 X2 Y2 w h0 l1 l2 (by omega) (by omega) h4 hu
    · have h5 : l.length = 60 := by omega
      rw [h5] at h0 ⊢
      exact st3e_any g c base X1 X2 Y2 w h0 l1 l2 (by omega) hu
  obtain ⟨X3, Y3, e3, l3, m3⟩ := cutT Y2 20 (by omega)
  refine key (X1 ++ (X2 ++ (X3 ++ Y3))) (by rw [e1, e2, e3]) ?_
  rw [e1, e2, e3] at hu
  rw [e2, e3] at h0
  exact st4_any g c base l.length X1 X2 X3 Y3 w h0 l1 l2 l3 (by omega) (by omega) hl hu
set_option maxRecDepth 100000 in
set_option maxHeartbeats 2000000 in
theorem sstableM_any (g c : Nat) (base : Nat) (l : List Sp) (w : World) (h : w.ownsRow base 38 2 (.slice (some ⟨g, 0, none⟩) l.length c) l.length (flat l)) (hl : l.length < 80) :
    Calls Try.prog 26 #[.slice (some ⟨g, 0, none⟩) l.length c, .func (.func 27) #[] #[]] w fun e w' =>
      e = .returned (.tuple #[]) ∧ w.grownBy w' (some g) ∧ w'.ownsRow base 38 2 (.slice (some ⟨g, 0, none⟩) l.length c) l.length (flat (sortL l)) := by
  have H := hide h
  clear h
  go_enter Try.func26, Try.ntmps26
  go_wp2_with fail
  refine (stableM_any g c base l _ H.out hl).mono ?_
  rintro e w1 ⟨rfl, hg1, ho1⟩
  go_wp2
  go_end0
  exact ⟨rfl, hg1, ho1⟩
theorem stab79 : StabOK 79 := fun g c base l w h hl => sstableM_any g c base l w h (by omega)
end Go.Proofs.Ytjkjgfgblfioeaa
