/- Contract: the library's sort at rows. No condition but short slices. -/
import Derived.Test.YtcgphknnnjpbkaaRowD
import Derived.Test.YtcgphknnnjpbkaaRowS
import Derived.Test.YtcgphknnnjpbkaaLay
import Derived.Sort.LotA
namespace Go.Proofs.Ytcgphknnnjpbkaa
open Go.ChangeShapes Go.WideShapes Go.ChangeAt Go.RowKit
open SetM
section
open Go.Sort Go.Proofs
theorem cmpT_neg (x y : ByteArray) : decide (cmpT x y < 0) = bl x y := by
  unfold cmpT
  cases h : bl x y
  · cases g : bl y x <;> simp
  · simp
theorem cmpT_zero (x y : ByteArray) : (cmpT x y = 0) ↔ x = y := by
  unfold cmpT
  constructor
  · intro h
    cases h1 : bl x y
    · cases h2 : bl y x
      · exact bl_tri _ _ h1 h2
      · rw [h1, h2] at h; simp at h
    · rw [h1] at h; simp at h
  · rintro rfl; rw [bl_irr]; rfl
theorem cmpR_neg (a b : Rw) : decide (cmpR a b < 0) = less a b := by
  unfold cmpR less
  by_cases h : cmpT a.1 b.1 = 0
  · rw [if_pos h, cmpT_neg]
    rw [cmpT_zero] at h
    rw [h, bl_irr, (eqB_iff _ _).2 rfl]; rfl
  · rw [if_neg h, cmpT_neg]
    rw [cmpT_zero] at h
    have : eqB a.1 b.1 = false := by rw [eqB_d]; simp [h]
    rw [this]; simp
theorem ltOf_less : ltOf cmpR = less := by
  funext a b
  exact cmpR_neg a b
theorem swo_less : SWO less where
  irrefl a := less_irr a
  trans _ _ _ h1 h2 := less_trans h1 h2
  ntrans a b c h1 h2 := le_trans (a := c) (b := b) (c := a) h2 h1
theorem sort_any (g c : Nat) (base : Nat) (l : List Rw) (w : World) (h : w.ownsRow base 47 2 (.slice (some ⟨g, 0, none⟩) l.length c) l.length (flatR l)) (hl : l.length ≤ 1000) :
    Calls Try.prog 38 #[.slice (some ⟨g, 0, none⟩) l.length c, .func (.func 39) #[] #[]] w fun e w' =>
      e = .returned (.tuple #[]) ∧ w.grownBy w' (some g) ∧ w'.ownsRow base 47 2 (.slice (some ⟨g, 0, none⟩) l.length c) (sortS l).length (flatR (sortS l)) := by
  have eg : ∀ args w, (callFunc 39 args).run Try.prog w = .ok (.enter 39 args) w := enters_of Try.func39 (by kernel_rfl) rfl
  have hg : g < w.heap.size := by
    rcases own_form h with ⟨h0, _⟩ | ⟨g', c', h0, _, h1, _⟩
    · cases h0
    · cases h0; exact h1
  have hcm : CmpLays Try.prog 39 #[] encR 2 cmpR g 0 l.toArray.size w := fun _ _ _ _ x y => closure_any x y _
  have hcon := AnyQ.slices_SortFunc sortRw 2 (fun w => by kernel_rfl) (fun w => by kernel_rfl) encR (fun _ => rfl) (fun x v hv => by simp [encR] at hv; rcases hv with rfl | rfl <;> rfl) cmpR (by rw [ltOf_less]; exact swo_less) 39 #[] g 0 c l.toArray w eg hcm (holds_own h) hg (by simp; omega)
  rw [ltOf_less] at hcon
  refine hcon.mono ?_
  rintro e w' ⟨he, d', n, os, hp, hs, rfl⟩
  have hu := sorted_unique_holds swo_less less_tot l.toArray d' hp hs
  obtain ⟨k⟩ := d'
  have hu' : k = sortS l := hu
  subst hu'
  have ho := own_sorted (k := sortS l) h (sortS_len l) n os
  rw [sortS_len] at ho ⊢
  exact ⟨he, grown_sorted _, ho⟩
end
section
open Go.Proofs
variable (fv : Value) (w : World)
theorem ins_none : Calls Try.prog 72 #[.slice none 0 0, .int .i64 0, .int .i64 0, fv] w fun e w' => e = .returned (.tuple #[]) ∧ w = w' := by
  go_enter Try.func72, Try.ntmps72
  go_wp2
  refine wp_loop_rounds 1 ?_
  rw [rounds_succ]
  go_wp2
  go_end0
  exact ⟨rfl, rfl⟩
set_option maxRecDepth 100000 in
set_option maxHeartbeats 2000000 in
theorem pdq_none (lim : Int) : Calls Try.prog 56 #[.slice none 0 0, .int .i64 0, .int .i64 0, .int .i64 lim, fv] w fun e w' => e = .returned (.tuple #[]) ∧ w = w' := by
  go_enter Try.func56, Try.ntmps56
  go_wp2
  refine wp_loop_rounds 1 ?_
  rw [rounds_succ]
  go_wp2_with (go_at_call 72; refine (ins_none _ _).mono ?_; rintro e w' ⟨rfl, rfl⟩)
  (try simp only [Exit.inBlock, Exit.then]); refine bodyPost_ret (results_none rfl _ _ _) rfl ?_
  exact ⟨rfl, rfl⟩
set_option maxRecDepth 100000 in
set_option maxHeartbeats 2000000 in
theorem sort_none : Calls Try.prog 38 #[.slice none 0 0, fv] w fun e w' => e = .returned (.tuple #[]) ∧ w = w' := by
  have hl : ∀ W, Calls Try.prog 57 #[.int .u64 0] W fun e w' => e = .returned (.int .i64 (Lib.bitLen 0 : Nat)) ∧ w' = W := fun W =>
    Any.bits_Len (SlLaysF0.n15.bits (P := Try.prog) (ρ := sortRw_ren) { sortRw with }) 0 W (by omega) (by omega)
  go_enter Try.func38, Try.ntmps38
  go_wp2_with (first | (go_at_call 57; refine (hl _).mono ?_; rintro e w' ⟨rfl, rfl⟩) | (go_at_call 56; refine (pdq_none _ _ _).mono ?_; rintro e w' ⟨rfl, rfl⟩))
  go_end0
  exact ⟨rfl, rfl⟩
end
end Go.Proofs.Ytcgphknnnjpbkaa
