/- Contracts: the law's turned and first; edits as arguments, held against one another. Conditions: short lists. -/
import Derived.Test.YtbaaciekjpadfaaEdH
import Derived.Test.YtbaaciekjpadfaaEdW
import Derived.Test.YtbaaciekjpadfaaSpanArgs
import Derived.Test.YtbaaciekjpadfaaLow
import Derived.Deep.RegionHeld3
import Derived.Deep.Fields
namespace Go.Proofs.Ytbaaciekjpadfaa
open Go.ChangeShapes Go.WideShapes Go.ChangeAt Go.RowKit Go.Deep
open SpanM EdM
attribute [local go_sem ↓] Go.wp_at_zero Go.wp_at_succ
attribute [local go_sem] later_cell later_frozen
theorem edat_src {w : World} {a : Option Addr} {n c : Nat} {l : List Ed} (h : EdAt w (.slice a n c) l) : Src w 3 a n (flatE l) := by
  have hn : n = l.length := by
    rcases h with ⟨h0, rfl⟩ | ⟨x, c', h0, _⟩
    · cases h0; rfl
    · cases h0; rfl
  subst hn
  refine ⟨flatE_len l, ?_⟩
  by_cases hp : 0 < l.length
  · right
    rcases h with ⟨h0, rfl⟩ | ⟨x, c', h0, h1, h2, h3⟩
    · simp at hp
    · cases h0
      refine ⟨x, rfl, fun j u hu => ?_⟩
      have hj : j < l.length * 3 := by
        have := (List.getElem?_eq_some_iff.1 hu).1
        rwa [flatE_len] at this
      have hq : j / 3 < l.length := by omega
      have hf := flatE_at l (j / 3) hq
      have hc := h3 (j / 3) hq
      have hmod : j % 3 = 0 ∨ j % 3 = 1 ∨ j % 3 = 2 := by omega
      rcases hmod with hh | hh | hh
      · have ht : j / 3 * 3 = j := by omega
        rw [ht] at hf hc
        rw [hu] at hf
        rw [Option.some.inj hf.1]; exact hc.1
      · have ht : j / 3 * 3 + 1 = j := by omega
        rw [ht] at hf hc
        rw [hu] at hf
        rw [Option.some.inj hf.2.1]; exact hc.2.1
      · have ht : j / 3 * 3 + 2 = j := by omega
        rw [ht] at hf hc
        rw [hu] at hf
        rw [Option.some.inj hf.2.2]; exact hc.2.2
  · exact .inl (by omega)
/-- Turned by some places. -/
def turn (l : List Ed) (k : Nat) : List Ed := l.drop k ++ l.take k
theorem turn_perm (l : List Ed) (k : Nat) : (turn l k).Perm l := by
  unfold turn
  exact List.perm_append_comm.trans (by rw [List.take_append_drop])
theorem turn_len (l : List Ed) (k : Nat) : (turn l k).length = l.length := (turn_perm l k).length_eq
def TurnPost (l : List Ed) (w : World) (e : Ending) (w' : World) : Prop := ∃ v' k, e = .returned v' ∧ k ≤ l.length ∧ Below w.heap.size w w' ∧ w'.ownsRow w.heap.size 45 3 v' l.length (flatE (turn l k))
set_option maxRecDepth 100000 in
set_option maxHeartbeats 8000000 in
theorem turned_any (v : Value) (l : List Ed) (n : Int) (w : World) (h : EdAt w v l) (hl : l.length ≤ 20) :
    Calls Try.prog 25 #[v, .int .i64 n] w (TurnPost l w) := by
  obtain ⟨i0, hi0, hz0', hz1, hz2⟩ := info_parts info_ed
  obtain ⟨aO, cO, rfl⟩ := edat_len h
  obtain ⟨k, hk⟩ : ∃ k, lowN n (l.length + 1) = k := ⟨_, rfl⟩
  have hkl : k ≤ l.length := by have := lowN_lt n (l.length + 1) (by omega); omega
  have hLOW := fun W => low_any n (l.length + 1) W (by omega) (by omega)
  rw [hk] at hLOW
  have hcast : ((l.length + 1 : Nat) : Int) = (l.length : Int) + 1 := by omega
  rw [hcast] at hLOW
  have HLOW := hide hLOW
  have hcl : l.length ≤ cO := by
    rcases h with ⟨h0, rfl⟩ | ⟨x, c', h0, h1, _⟩
    · cases h0; simp
    · cases h0; exact h1
  have hlo := edat_src (edat_take h k hkl)
  have hhi := edat_src (edat_drop h k hkl)
  have hslo := fun (W : World) => run_slice_to (P := Try.prog) 22 45 i0 Try.underlying22 hi0 aO l.length cO k (k : Int) rfl (by omega) W
  have hshi := fun (W : World) => run_slice_from (P := Try.prog) 22 45 i0 Try.underlying22 hi0 aO l.length cO k (k : Int) rfl (by omega) W
  rw [hz1] at hshi
  generalize (if cO = k then aO else aO.map (·.add (k * 3))) = a2 at *
  have SLO := hide hlo
  have SHI := hide hhi
  have HONE1 := hide (flatE_one (l.drop k))
  have HONE2 := hide (flatE_one (l.take k))
  have FIN := hide (show ∀ (W : World) (v' : Value), W.ownsRow w.heap.size 45 3 v' (0 + (l.length - k) + k) ([] ++ flatE (l.drop k) ++ flatE (l.take k)) → W.ownsRow w.heap.size 45 3 v' l.length (flatE (turn l k)) from fun W v' ho => by
    have e1 : flatE (turn l k) = [] ++ flatE (l.drop k) ++ flatE (l.take k) := by unfold turn; rw [flatE_app]; rfl
    rw [e1, show l.length = 0 + (l.length - k) + k by omega]
    exact ho)
  clear hk hLOW hcast h hlo hhi
  go_enter Try.func25, Try.ntmps25
  go_wp2_with (go_at_call 28; refine (HLOW.out _).mono ?_; rintro e w1 ⟨rfl, rfl⟩)
  have HKEEP := hide (show ∀ W, Below w.heap.size w W → (fun w' => Below w.heap.size w w') W from fun W h => h)
  go_region_held3 (fun w' => Below w.heap.size w w')
    ((try go_split_ands
      refine HKEEP.out _ ?_
      repeat (first | assumption | exact bl_refl _ | refine bl_drew ?_ | refine bl_alloc ?_ _)))
    (first
      | (go_split_ands; refine step_src _ (by rfl) (.tmp 11) (.tmp 14) 22 (by rfl) w.heap.size 45 i0 (.agg #[.int .i64 0, .int .i64 0, .string ⟨#[]⟩]) 3 32 Try.underlying22 hi0 hz0' hz1 hz2 rfl (by decide) (.slice (some ⟨_, 0, none⟩) 0 0) 0 [] (by rfl) (own_at (by (try refine heap_drew ?_); first | exact heap_new (by simp) | exact heap_old (heap_new (by simp))) (by first | (simp; done) | (simp; omega))) a2 (l.length - k) (cO - k) (flatE (l.drop k)) (by rfl) (src_below SHI.out (by assumption)) HONE1.out (by omega) (by decide) (by first | (simp; done) | (simp; omega)) ?_; intro v8 w8 hv8 hg8; have B8 := bl_grown (a := w) (by assumption) hg8 (fun k hk => by cases hk; first | (simp; done) | (simp; omega)))
      | (go_split_ands; refine step_src _ (by rfl) (.tmp 15) (.tmp 18) 22 (by rfl) w.heap.size 45 i0 (.agg #[.int .i64 0, .int .i64 0, .string ⟨#[]⟩]) 3 32 Try.underlying22 hi0 hz0' hz1 hz2 rfl (by decide) v8 (0 + (l.length - k)) ([] ++ flatE (l.drop k)) (by rfl) hv8 aO k cO (flatE (l.take k)) (by rfl) (src_below SLO.out (by assumption)) HONE2.out (by omega) (by decide) (by have := B8.size; omega) ?_; intro v9 w9 hv9 hg9; have B9 := bl_grown (a := w) (by assumption) hg9 (fun k hk => (hv8.lt k hk).1))
      | fail)
  all_goals
    clear hv8 hg8 hg9 B8 hslo hshi
    go_wp2
    go_ret
    exact ⟨_, k, rfl, hkl, B9, FIN.out _ _ hv9⟩
end Go.Proofs.Ytbaaciekjpadfaa
