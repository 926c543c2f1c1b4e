/- Contract: stretches in rising order, in a slice of the call's own. No condition but short slices. -/
import Derived.Test.YtjmoeahlbgdkbaaSpanD
import Derived.Test.YtjmoeahlbgdkbaaSpanS
import Derived.Test.YtjmoeahlbgdkbaaLay
import Derived.Sort.LotA
namespace Go.Proofs.Ytjmoeahlbgdkbaa
open Go.ChangeShapes Go.WideShapes Go.ChangeAt Go.RowKit
open SpanM
section
open Go.Sort Go.Proofs
def sortS (l : List Sp) : List Sp := l.mergeSort fun a b => !less b a
theorem cmpS_neg (a b : Sp) : decide (cmpS a b < 0) = less a b := by
  rw [less_d, Bool.eq_iff_iff]
  unfold cmpS cmpI
  by_cases h1 : a.1 < b.1
  · simp [h1]
  · by_cases h2 : b.1 < a.1
    · simp [h1, h2]; omega
    · by_cases h3 : a.2 < b.2
      · simp [h1, h2, h3]; omega
      · by_cases h4 : b.2 < a.2
        · simp [h1, h2, h3, h4]
        · simp [h1, h2, h3, h4]
theorem ltOf_less : ltOf cmpS = less := by
  funext a b
  exact cmpS_neg a b
theorem swo_less : SWO less where
  irrefl a := by rw [less_d]; simp
  trans a b c h1 h2 := by rw [less_d] at *; simp at *; omega
  ntrans a b c h1 h2 := by rw [less_d] at *; simp at *; omega
theorem less_tot (a b : Sp) (h1 : less a b = false) (h2 : less b a = false) : a = b := by
  rw [less_d] at *
  simp at *
  exact Prod.ext (by omega) (by omega)
theorem sortS_perm (l : List Sp) : (sortS l).Perm l := List.mergeSort_perm _ _
theorem sortS_len (l : List Sp) : (sortS l).length = l.length := (sortS_perm l).length_eq
theorem sortS_sorted (l : List Sp) : Sorted (sortS l) := by
  have := List.pairwise_mergeSort (le := fun a b => !less b a) (fun a b c h1 h2 => by rw [less_d] at *; simp at *; omega) (fun a b => by rw [less_d, less_d]; simp; omega) l
  refine this.imp fun {a b} h => ?_
  rw [less_d] at h
  simp at h
  unfold le
  omega
theorem sortS_eq {l k : List Sp} (h : k.Perm l) (hs : Sorted k) : sortS l = k := sorted_perm ((sortS_perm l).trans h.symm) (sortS_sorted l) hs
theorem sort_any (g c : Nat) (base : Nat) (l : List Sp) (w : World) (h : w.ownsRow base 41 2 (.slice (some ⟨g, 0, none⟩) l.length c) l.length (flat l)) (hl : l.length ≤ 1000) :
    Calls Try.prog 84 #[.slice (some ⟨g, 0, none⟩) l.length c, .func (.func 85) #[] #[]] w fun e w' =>
      e = .returned (.tuple #[]) ∧ w.grownBy w' (some g) ∧ w'.ownsRow base 41 2 (.slice (some ⟨g, 0, none⟩) l.length c) (sortS l).length (flat (sortS l)) := by
  have eg : ∀ args w, (callFunc 85 args).run Try.prog w = .ok (.enter 85 args) w := enters_of Try.func85 (by kernel_rfl) rfl
  have hg : g < w.heap.size := by
    rcases own_form h with ⟨h0, _⟩ | ⟨g', c', h0, _, h1, _⟩
    · cases h0
    · cases h0; exact h1
  have hcm : CmpLays Try.prog 85 #[] encS 2 cmpS g 0 l.toArray.size w := fun _ _ _ _ x y => closure_any x y _
  have hcon := AnyQ.slices_SortFunc sortSp 2 (fun w => by kernel_rfl) (fun w => by kernel_rfl) encS (fun _ => rfl) (fun x v hv => by simp [encS] at hv; rcases hv with rfl | rfl <;> rfl) cmpS (by rw [ltOf_less]; exact swo_less) 85 #[] g 0 c l.toArray w eg hcm (holds_own h) hg (by simp; omega)
  rw [ltOf_less] at hcon
  refine hcon.mono ?_
  rintro e w' ⟨he, d', n, os, hp, hs, rfl⟩
  have hu := sorted_unique_holds swo_less less_tot l.toArray d' hp hs
  obtain ⟨k⟩ := d'
  have hu' : k = sortS l := hu
  subst hu'
  have ho := own_sorted (k := sortS l) h (sortS_len l) n os
  rw [sortS_len] at ho ⊢
  exact ⟨he, grown_sorted _, ho⟩
end
section
open Go.Proofs
variable (fv : Value) (w : World)
theorem ins_none : Calls Try.prog 91 #[.slice none 0 0, .int .i64 0, .int .i64 0, fv] w fun e w' => e = .returned (.tuple #[]) ∧ w = w' := by
  go_enter Try.func91, Try.ntmps91
  go_wp2
  refine wp_loop_rounds 1 ?_
  rw [rounds_succ]
  go_wp2
  go_end0
  exact ⟨rfl, rfl⟩
set_option maxRecDepth 100000 in
set_option maxHeartbeats 2000000 in
theorem pdq_none (lim : Int) : Calls Try.prog 88 #[.slice none 0 0, .int .i64 0, .int .i64 0, .int .i64 lim, fv] w fun e w' => e = .returned (.tuple #[]) ∧ w = w' := by
  go_enter Try.func88, Try.ntmps88
  go_wp2
  refine wp_loop_rounds 1 ?_
  rw [rounds_succ]
  go_wp2_with (go_at_call 91; refine (ins_none _ _).mono ?_; rintro e w' ⟨rfl, rfl⟩)
  (try simp only [Exit.inBlock, Exit.then]); refine bodyPost_ret (results_none rfl _ _ _) rfl ?_
  exact ⟨rfl, rfl⟩
set_option maxRecDepth 100000 in
set_option maxHeartbeats 2000000 in
theorem sort_none : Calls Try.prog 84 #[.slice none 0 0, fv] w fun e w' => e = .returned (.tuple #[]) ∧ w = w' := by
  have hl : ∀ W, Calls Try.prog 89 #[.int .u64 0] W fun e w' => e = .returned (.int .i64 (Lib.bitLen 0 : Nat)) ∧ w' = W := fun W =>
    Any.bits_Len (SlLaysF0.n15.bits (P := Try.prog) (ρ := sortSp_ren) { sortSp with }) 0 W (by omega) (by omega)
  go_enter Try.func84, Try.ntmps84
  go_wp2_with (first | (go_at_call 89; refine (hl _).mono ?_; rintro e w' ⟨rfl, rfl⟩) | (go_at_call 88; refine (pdq_none _ _ _).mono ?_; rintro e w' ⟨rfl, rfl⟩))
  go_end0
  exact ⟨rfl, rfl⟩
end
set_option maxRecDepth 100000 in
set_option maxHeartbeats 1000000 in
theorem asc_any (v : Value) (l : List Sp) (w : World) (h : SpAt w v l) (hl : l.length ≤ 1000) :
    Calls Try.prog 77 #[v] w fun e w' => ∃ v', e = .returned v' ∧ Below w.heap.size w w' ∧ w'.ownsRow w.heap.size 41 2 v' (sortS l).length (flat (sortS l)) := by
  have H := hide h
  clear h
  go_enter Try.func77, Try.ntmps77
  go_wp2_with fail
  refine (clone_any v l _ H.out hl).mono ?_
  rintro e w1 ⟨v', rfl, hb1, ho1⟩
  have HO := hide ho1
  rcases own_form ho1 with ⟨rfl, h1, h2⟩ | ⟨g, c, rfl, h1, h2, h3, h4, h5⟩
  · have hl0 : l = [] := List.eq_nil_of_length_eq_zero h1
    subst hl0
    clear h1 h2 ho1
    go_wp2_with fail
    refine (sort_none _ _).mono ?_
    rintro e w2 ⟨rfl, rfl⟩
    go_wp2
    go_ret
    have e : sortS [] = [] := List.eq_nil_of_length_eq_zero (sortS_len [])
    rw [e]
    exact ⟨_, rfl, hb1, ⟨rfl, .inl ⟨rfl, rfl⟩⟩⟩
  · clear h3 h4 h5 ho1
    go_wp2_with fail
    refine (sort_any g c w.heap.size l _ HO.out hl).mono ?_
    rintro e w2 ⟨rfl, hg2, ho2⟩
    have hb2 : Below w.heap.size w w2 := bl_grown hb1 hg2 (fun k hk => by cases hk; exact h1)
    go_wp2
    go_ret
    rw [sortS_len] at *
    exact ⟨_, rfl, hb2, ho2⟩
end Go.Proofs.Ytjmoeahlbgdkbaa
