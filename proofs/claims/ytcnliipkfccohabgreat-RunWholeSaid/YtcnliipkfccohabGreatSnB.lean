/- What At answers by more fuel and by less; a text that is too long to be read. No condition. -/
import Derived.Test.YtcnliipkfccohabGreatSnA
namespace Go.Proofs.YtcnliipkfccohabGreat
open Go.ChangeShapes Go.WideShapes Go.ChangeAt Go.RowKit
open SetM SpanM
attribute [local go_sem ↓] Go.wp_at_zero Go.wp_at_succ
set_option maxRecDepth 100000
set_option linter.unusedVariables false
set_option maxHeartbeats 4000000 in
theorem read_big (s : ByteArray) (h1 : 256 < s.size) (w : World) : Calls Tryz.prog 4 #[.string s] w fun e w' => e = .returned (.tuple #[.agg #[.int .i64 0, .string ⟨#[]⟩, .bool false, .slice none 0 0, .int .i64 0, .int .i64 0, .bool false, .slice none 0 0], .int .i64 4]) ∧ Below w.heap.size w w' := by
  have g1 : decide (256 < s.size) = true := decide_eq_true h1
  have g1' : decide (256 < (s.size : Int)) = true := decide_eq_true (by omega)
  go_enter Tryz.func4, Tryz.ntmps4
  go_wp2
  refine bodyPost_ret (v := .tuple #[.agg #[.int .i64 0, .string ⟨#[]⟩, .bool false, .slice none 0 0, .int .i64 0, .int .i64 0, .bool false, .slice none 0 0], .int .i64 4]) ?_ rfl ⟨rfl, bl_alloc (bl_refl w) _⟩
  rw [results_cell2 rfl]
  go_simp
/-- What is read: an error, or a tree that may be. -/
def RdO (w : World) (s : ByteArray) (o : Option Rt) (e : Ending) (w' : World) : Prop := match o with
  | none => ∃ n : Int, n ≠ 0 ∧ e = .returned (.tuple #[.agg #[.int .i64 0, .string ⟨#[]⟩, .bool false, .slice none 0 0, .int .i64 0, .int .i64 0, .bool false, .slice none 0 0], .int .i64 n]) ∧ Below w.heap.size w w'
  | some x => ∃ t, e = .returned (.tuple #[t.v, .int .i64 0]) ∧ Below w.heap.size w w' ∧ RxAt w' t ∧ er t = x
theorem read_o (s : ByteArray) : ∃ o : Option Rt, (∀ w, Calls Tryz.prog 4 #[.string s] w (RdO w s o)) ∧ ∀ x, o = some x → s.size ≤ 256 ∧ cnB x 16 512 = true ∧ pM x ≤ 2 * s.size + 1 ∧ sM x ≤ 8 * s.size + 8 ∧ dM x ≤ 16 := by
  by_cases h1 : 256 < s.size
  · exact ⟨none, fun w => (read_big s h1 w).mono fun e w' ⟨h2, h3⟩ => ⟨4, by decide, h2, h3⟩, fun x h => by cases h⟩
  · have hl : s.data.toList.length = s.size := Array.length_toList
    rcases readP_cases s.data.toList with ⟨n, hn, hnn⟩ | ⟨x, hx⟩
    · refine ⟨none, fun w => (read_any s (by omega) w _ hn).mono fun e w' h => ⟨n, by omega, h.1, h.2⟩, fun x h => by cases h⟩
    · obtain ⟨-, -, -, -, v5, v6, v7, v8, v9, v10, v11⟩ := readP_va hx
      rw [hl] at v7 v10
      refine ⟨some x, fun w => (read_any s (by omega) w _ hx).mono fun e w' h => ?_, fun y h => ?_⟩
      · obtain ⟨t, h1, h2, h3, _, h5⟩ := h
        exact ⟨t, h1, h2, h3, h5⟩
      · injection h with h; subst h
        exact ⟨by omega, cnB_of (by omega) (by omega) v6, by omega, by omega, by omega⟩
theorem atq_err {t : Rt} {fold : Bool} {s : ByteArray} {at_ : Int} {F : Nat} {q : An} (h : AtQ t fold s at_ F q) (hn : q.n ≠ 0) : q.a = 0 ∧ q.b = 0 ∧ q.p = [] ∧ q.f = 0 ∧ q.ok = false := by
  unfold AtQ at h
  split at h
  · rw [h]; exact ⟨rfl, rfl, rfl, rfl, rfl⟩
  · split at h
    · obtain ⟨i, r, ⟨hi, _⟩, ho, rfl⟩ := h
      cases r with
      | dry => exact ⟨rfl, rfl, rfl, rfl, rfl⟩
      | fail f => exact absurd rfl hn
      | found j p f => exact absurd rfl hn
    · rw [h]; exact ⟨rfl, rfl, rfl, rfl, rfl⟩
theorem anS_sh {of : Nat → Int} {st : Nat} {r : Ro} (a b : Nat) (hr : r ≠ .dry) : anS of st (r.sh a b) = { anS of st r with f := ((r.left - a + b : Nat) : Int) } := by
  cases r with
  | dry => exact absurd rfl hr
  | fail f => rfl
  | found j p f => rfl
/-- By more fuel as much more is left; by just what burns none; by less it is out. -/
theorem atq_fuel {t : Rt} {fold : Bool} {s : ByteArray} {at_ : Int} {U : Nat} {q : An} (h : AtQ t fold s at_ U q) (hn : q.n = 0) : ∃ f1 : Nat, q.f = (f1 : Int) ∧ f1 ≤ U ∧ (∀ V q', U ≤ V → AtQ t fold s at_ V q' → q' = { q with f := ((f1 + (V - U) : Nat) : Int) }) ∧ (∀ q', AtQ t fold s at_ (U - f1) q' → q' = { q with f := 0 }) ∧ (∀ q', f1 < U → AtQ t fold s at_ (U - f1 - 1) q' → q'.n = 9) := by
  unfold AtQ at h
  split at h
  · rw [h] at hn; exact absurd hn (by decide)
  · rename_i h1
    split at h
    · rename_i h2
      obtain ⟨i, r, hi, ho, rfl⟩ := h
      have hr : r ≠ .dry := by rintro rfl; exact absurd hn (show ¬ (9 : Int) = 0 by decide)
      have hl := on_left _ _ ho
      have hf : (anS (ofG (psS s)) i r).f = ((r.left : Nat) : Int) := by
        cases r with
        | dry => exact absurd rfl hr
        | fail f => rfl
        | found j p f => rfl
      refine ⟨r.left, hf, hl, fun V q' hV g => ?_, fun q' g => ?_, fun q' hlt g => ?_⟩
      · unfold AtQ at g
        rw [if_neg h1, if_pos h2] at g
        obtain ⟨j, r', hj, ho', rfl⟩ := g
        obtain rfl := ps_one hi hj
        have h5 := on_sh _ _ ho hr (a := 0) (b := V - U) (Nat.zero_le _)
        rw [show U - 0 + (V - U) = V by omega] at h5
        obtain rfl := on_det _ _ ho' h5
        rw [anS_sh 0 (V - U) hr, Nat.sub_zero]
      · unfold AtQ at g
        rw [if_neg h1, if_pos h2] at g
        obtain ⟨j, r', hj, ho', rfl⟩ := g
        obtain rfl := ps_one hi hj
        have h5 := on_sh _ _ ho hr (a := r.left) (b := 0) (Nat.le_refl _)
        rw [Nat.add_zero] at h5
        obtain rfl := on_det _ _ ho' h5
        rw [anS_sh r.left 0 hr, Nat.sub_self]
        rfl
      · unfold AtQ at g
        rw [if_neg h1, if_pos h2] at g
        obtain ⟨j, r', hj, ho', rfl⟩ := g
        obtain rfl := ps_one hi hj
        obtain rfl := on_short _ _ ho hr ho' (by omega)
        rfl
    · rw [h] at hn; exact absurd hn (by decide)
end Go.Proofs.YtcnliipkfccohabGreat
