/- Contracts: selections in order: the library's stable sort of at most 20. Condition: at most 20 selections. -/
import Derived.Test.YtjkjgfgblfioeaaSelK
import Derived.Test.YtjkjgfgblfioeaaSelS
import Derived.Test.YtjkjgfgblfioeaaSelN
import Derived.Test.YtjkjgfgblfioeaaLay
import Derived.Test.YtjkjgfgblfioeaaApp
import Derived.Shelf.SlSortCmp.InsertionK
namespace Go.Proofs.Ytjkjgfgblfioeaa
open Go.ChangeShapes Go.WideShapes Go.ChangeAt Go.RowKit
open SpanM SelM
section
open Go.Sort Go.Proofs
def cmpL (a b : Sp) : Int := cmpS (ky a) (ky b)
theorem ltOf_lessL : ltOf cmpL = lessL := by
  funext a b
  unfold ltOf lessL cmpL
  show decide (cmpS (ky a) (ky b) < 0) = less (ky a) (ky b)
  rw [less_d, Bool.eq_iff_iff]
  unfold cmpS cmpI
  generalize ky a = x
  generalize ky b = y
  by_cases h1 : x.1 < y.1
  · simp [h1]
  · by_cases h2 : y.1 < x.1
    · simp [h1, h2]; omega
    · by_cases h3 : x.2 < y.2
      · simp [h1, h2, h3]; omega
      · by_cases h4 : y.2 < x.2
        · simp [h1, h2, h3, h4]
        · simp [h1, h2, h3, h4]
theorem insL_any (g c : Nat) (base : Nat) (l : List Sp) (a b : Nat) (w : World) (h : w.ownsRow base 38 2 (.slice (some ⟨g, 0, none⟩) l.length c) l.length (flat l)) (hab : a ≤ b) (hb : b ≤ l.length) (hl : l.length ≤ 1000) :
    Calls Try.prog 46 #[.slice (some ⟨g, 0, none⟩) l.length c, .int .i64 a, .int .i64 b, .func (.func 27) #[] #[]] w fun e w' =>
      e = .returned (.tuple #[]) ∧ w.grownBy w' (some g) ∧ ∀ k : List Sp, insertionSort lessL l.toArray a b = k.toArray → k.length = l.length → w'.ownsRow base 38 2 (.slice (some ⟨g, 0, none⟩) l.length c) l.length (flat k) := by
  have eg : ∀ args w, (callFunc 27 args).run Try.prog w = .ok (.enter 27 args) w := enters_of Try.func27 (by kernel_rfl) rfl
  have hg : g < w.heap.size := by
    rcases own_form h with ⟨h0, _⟩ | ⟨g', c', h0, _, h1, _⟩
    · cases h0
    · cases h0; exact h1
  have hcm : CmpLays Try.prog 27 #[] encS 2 cmpL g 0 l.toArray.size w := fun _ _ _ _ x y => closure_s x y _
  have hcon := AnyQ.insertionSortCmpFunc insL 2 (fun w => by kernel_rfl) (fun w => by kernel_rfl) encS (fun _ => rfl) (fun x v hv => by simp [encS] at hv; rcases hv with rfl | rfl <;> rfl) cmpL 27 #[] g 0 c a b l.toArray w eg hcm (holds_ownL h) hg hab (by simpa using hb) (by simp; omega)
  rw [ltOf_lessL] at hcon
  refine hcon.mono ?_
  rintro e w' ⟨he, n, os, rfl⟩
  refine ⟨he, ?_, fun k hk hkl => ?_⟩
  · exact sp_grown _
  · rw [hk]
    have := own_sortedL h hkl n os
    rw [hkl] at this
    exact this
end
theorem insL_none (fv : Value) (w : World) : Calls Try.prog 46 #[.slice none 0 0, .int .i64 0, .int .i64 0, fv] w fun e w' => e = .returned (.tuple #[]) ∧ w = w' := by
  go_enter Try.func46, Try.ntmps46
  go_wp2
  refine wp_loop_rounds 1 ?_
  rw [rounds_succ]
  go_wp2
  go_end0
  exact ⟨rfl, rfl⟩
set_option maxRecDepth 100000 in
set_option maxHeartbeats 2000000 in
theorem stableL_none (fv : Value) (w : World) : Calls Try.prog 41 #[.slice none 0 0, .int .i64 0, fv] w fun e w' => e = .returned (.tuple #[]) ∧ w = w' := by
  go_enter Try.func41, Try.ntmps41
  go_wp2
  refine wp_loop_rounds 1 ?_
  rw [rounds_succ]
  go_wp2_with (go_at_call 46; refine (insL_none _ _).mono ?_; rintro e w' ⟨rfl, rfl⟩)
  refine wp_loop_rounds 1 ?_
  rw [rounds_succ]
  go_wp2
  go_end0
  exact ⟨rfl, rfl⟩
section
open Go.Sort
theorem insSameL (l : List Sp) (a : Nat) : insertionSort lessL l.toArray a a = l.toArray := by
  unfold insertionSort; rw [insOuter_stop _ _ _ _ _ (by omega)]
set_option maxRecDepth 100000 in
set_option maxHeartbeats 4000000 in
theorem stableL_any (g c : Nat) (base : Nat) (l : List Sp) (w : World) (h : w.ownsRow base 38 2 (.slice (some ⟨g, 0, none⟩) l.length c) l.length (flat l)) (hl : l.length ≤ 20) :
    Calls Try.prog 41 #[.slice (some ⟨g, 0, none⟩) l.length c, .int .i64 l.length, .func (.func 27) #[] #[]] w fun e w' =>
      e = .returned (.tuple #[]) ∧ w.grownBy w' (some g) ∧ w'.ownsRow base 38 2 (.slice (some ⟨g, 0, none⟩) l.length c) l.length (flat (sortL l)) := by
  have H := hide h
  clear h
  have hfin' := insertionSort_list l
  have hsl := sortL_len l
  obtain ⟨S, hS⟩ : ∃ S, sortL l = S := ⟨_, rfl⟩
  rw [hS] at hfin' hsl ⊢
  have hfin := hide hfin'
  have HSL := hide hsl
  clear hS hsl hfin'
  by_cases h20 : l.length < 20
  · have hd : decide ((20 : Int) ≤ (l.length : Int)) = false := by simp; omega
    go_enter Try.func41, Try.ntmps41
    go_wp2
    refine wp_loop_rounds 1 ?_
    rw [rounds_succ]
    go_wp2_with fail
    refine (insL_any g c base l 0 l.length _ H.out (Nat.zero_le _) (Nat.le_refl _) (by omega)).mono ?_
    rintro e w1 ⟨rfl, hg1, ho1⟩
    have HO := hide (ho1 S hfin.out HSL.out)
    clear ho1
    go_wp2
    refine wp_loop_rounds 1 ?_
    rw [rounds_succ]
    go_wp2
    go_end0
    exact ⟨rfl, hg1, HO.out⟩
  · have h21 : l.length = 20 := by omega
    rw [h21]
    have hI := fun W (h : W.ownsRow base 38 2 (.slice (some ⟨g, 0, none⟩) l.length c) l.length (flat l)) => insL_any g c base l 0 l.length W h (Nat.zero_le _) (Nat.le_refl _) (by omega)
    have hJ := fun W (h : W.ownsRow base 38 2 (.slice (some ⟨g, 0, none⟩) S.length c) S.length (flat S)) => insL_any g c base S 20 20 W h (Nat.le_refl _) (by have := HSL.out; omega) (by have := HSL.out; omega)
    rw [HSL.out] at hJ
    have hfin' := hfin.out
    have hsl' := HSL.out
    have h0 := H.out
    rw [h21] at hI hJ hfin' hsl' h0
    have HI := hide hI
    have HJ := hide hJ
    have HF := hide hfin'
    have HS2 := hide hsl'
    have H0 := hide h0
    clear hI hJ hfin' hsl' h0 hfin HSL H h20 h21 hl
    go_enter Try.func41, Try.ntmps41
    go_wp2
    refine wp_loop_rounds 2 ?_
    rw [rounds_succ]
    go_wp2_with fail
    refine (HI.out _ H0.out).mono ?_
    rintro e w1 ⟨rfl, hg1, ho1⟩
    have HO := hide (ho1 S HF.out HS2.out)
    clear ho1
    go_wp2
    rw [rounds_succ]
    go_wp2_with fail
    refine (HJ.out _ HO.out).mono ?_
    rintro e w2 ⟨rfl, hg2, ho2⟩
    have HO2 := hide (ho2 S (insSameL S 20) (by rw [HS2.out]))
    clear ho2
    go_wp2
    refine wp_loop_rounds 1 ?_
    rw [rounds_succ]
    go_wp2
    go_end0
    exact ⟨rfl, hg1.trans hg2, HO2.out⟩
end
set_option maxRecDepth 100000 in
set_option maxHeartbeats 2000000 in
theorem sstableL_any (g c : Nat) (base : Nat) (l : List Sp) (w : World) (h : w.ownsRow base 38 2 (.slice (some ⟨g, 0, none⟩) l.length c) l.length (flat l)) (hl : l.length ≤ 20) :
    Calls Try.prog 26 #[.slice (some ⟨g, 0, none⟩) l.length c, .func (.func 27) #[] #[]] w fun e w' =>
      e = .returned (.tuple #[]) ∧ w.grownBy w' (some g) ∧ w'.ownsRow base 38 2 (.slice (some ⟨g, 0, none⟩) l.length c) l.length (flat (sortL l)) := by
  have H := hide h
  clear h
  go_enter Try.func26, Try.ntmps26
  go_wp2_with fail
  refine (stableL_any g c base l _ H.out hl).mono ?_
  rintro e w1 ⟨rfl, hg1, ho1⟩
  go_wp2
  go_end0
  exact ⟨rfl, hg1, ho1⟩
set_option maxRecDepth 100000 in
set_option maxHeartbeats 2000000 in
theorem sstableL_none (fv : Value) (w : World) : Calls Try.prog 26 #[.slice none 0 0, fv] w fun e w' => e = .returned (.tuple #[]) ∧ w = w' := by
  go_enter Try.func26, Try.ntmps26
  go_wp2_with (go_at_call 41; refine (stableL_none _ _).mono ?_; rintro e w' ⟨rfl, rfl⟩)
  go_end0
  exact ⟨rfl, rfl⟩
end Go.Proofs.Ytjkjgfgblfioeaa
