/- Contracts: edits in order: the library's stable sort of at most 20, the package's Sort and inOrder. Condition: at most 20 edits. -/
import Derived.Test.YtjkjgfgblfioeaaEdS
import Derived.Test.YtjkjgfgblfioeaaLay
import Derived.Test.YtjkjgfgblfioeaaApp
namespace Go.Proofs.Ytjkjgfgblfioeaa
open Go.ChangeShapes Go.WideShapes Go.ChangeAt Go.RowKit
open SpanM EdM
section
open Go.Sort Go.Proofs
theorem ltOf_lessE : ltOf cmpE = lessE := by
  funext a b
  unfold ltOf lessE cmpE
  show decide (cmpS a.1 b.1 < 0) = _
  rw [less_d, Bool.eq_iff_iff]
  unfold cmpS cmpI
  by_cases h1 : a.1.1 < b.1.1
  · simp [h1]
  · by_cases h2 : b.1.1 < a.1.1
    · simp [h1, h2]; omega
    · by_cases h3 : a.1.2 < b.1.2
      · simp [h1, h2, h3]; omega
      · by_cases h4 : b.1.2 < a.1.2
        · simp [h1, h2, h3, h4]
        · simp [h1, h2, h3, h4]
theorem insE_any (g c : Nat) (base : Nat) (l : List Ed) (a b : Nat) (w : World) (h : w.ownsRow base 44 3 (.slice (some ⟨g, 0, none⟩) l.length c) l.length (flatE l)) (hab : a ≤ b) (hb : b ≤ l.length) (hl : l.length ≤ 1000) :
    Calls Try.prog 48 #[.slice (some ⟨g, 0, none⟩) l.length c, .int .i64 a, .int .i64 b, .func (.func 37) #[] #[]] w fun e w' =>
      e = .returned (.tuple #[]) ∧ w.grownBy w' (some g) ∧ ∀ k : List Ed, insertionSort lessE l.toArray a b = k.toArray → k.length = l.length → w'.ownsRow base 44 3 (.slice (some ⟨g, 0, none⟩) l.length c) l.length (flatE k) := by
  have eg : ∀ args w, (callFunc 37 args).run Try.prog w = .ok (.enter 37 args) w := enters_of Try.func37 (by kernel_rfl) rfl
  have hg : g < w.heap.size := by
    rcases own_form h with ⟨h0, _⟩ | ⟨g', c', h0, _, h1, _⟩
    · cases h0
    · cases h0; exact h1
  have hcm : CmpLays Try.prog 37 #[] encE 3 cmpE g 0 l.toArray.size w := fun _ _ _ _ x y => compare_any x y _
  have hcon := AnyQ.insertionSortCmpFunc insE 3 (fun w => by kernel_rfl) (fun w => by kernel_rfl) encE (fun _ => rfl) (fun x v hv => by simp [encE] at hv; rcases hv with rfl | rfl | rfl <;> rfl) cmpE 37 #[] g 0 c a b l.toArray w eg hcm (holds_ownE h) hg hab (by simpa using hb) (by simp; omega)
  rw [ltOf_lessE] at hcon
  refine hcon.mono ?_
  rintro e w' ⟨he, n, os, rfl⟩
  refine ⟨he, ?_, fun k hk hkl => ?_⟩
  · exact sp_grown _
  · rw [hk]
    have := own_sortedE h hkl n os
    rw [hkl] at this
    exact this
end
theorem insE_none (fv : Value) (w : World) : Calls Try.prog 48 #[.slice none 0 0, .int .i64 0, .int .i64 0, fv] w fun e w' => e = .returned (.tuple #[]) ∧ w = w' := by
  go_enter Try.func48, Try.ntmps48
  go_wp2
  refine wp_loop_rounds 1 ?_
  rw [rounds_succ]
  go_wp2
  go_end0
  exact ⟨rfl, rfl⟩
set_option maxRecDepth 100000 in
set_option maxHeartbeats 2000000 in
theorem stable_none (fv : Value) (w : World) : Calls Try.prog 43 #[.slice none 0 0, .int .i64 0, fv] w fun e w' => e = .returned (.tuple #[]) ∧ w = w' := by
  go_enter Try.func43, Try.ntmps43
  go_wp2
  refine wp_loop_rounds 1 ?_
  rw [rounds_succ]
  go_wp2_with (go_at_call 48; refine (insE_none _ _).mono ?_; rintro e w' ⟨rfl, rfl⟩)
  refine wp_loop_rounds 1 ?_
  rw [rounds_succ]
  go_wp2
  go_end0
  exact ⟨rfl, rfl⟩
section
open Go.Sort
theorem insSame (l : List Ed) (a : Nat) : insertionSort lessE l.toArray a a = l.toArray := by
  unfold insertionSort; rw [insOuter_stop _ _ _ _ _ (by omega)]
set_option maxRecDepth 100000 in
set_option maxHeartbeats 4000000 in
theorem stable_any (g c : Nat) (base : Nat) (l : List Ed) (w : World) (h : w.ownsRow base 44 3 (.slice (some ⟨g, 0, none⟩) l.length c) l.length (flatE l)) (hl : l.length ≤ 20) :
    Calls Try.prog 43 #[.slice (some ⟨g, 0, none⟩) l.length c, .int .i64 l.length, .func (.func 37) #[] #[]] w fun e w' =>
      e = .returned (.tuple #[]) ∧ w.grownBy w' (some g) ∧ w'.ownsRow base 44 3 (.slice (some ⟨g, 0, none⟩) l.length c) l.length (flatE (sortE l)) := by
  have H := hide h
  clear h
  have hfin' := insertionSort_list l
  have hsl := sortE_len l
  obtain ⟨S, hS⟩ : ∃ S, sortE l = S := ⟨_, rfl⟩
  rw [hS] at hfin' hsl ⊢
  have hfin := hide hfin'
  have HSL := hide hsl
  clear hS hsl hfin'
  by_cases h20 : l.length < 20
  · have hd : decide ((20 : Int) ≤ (l.length : Int)) = false := by simp; omega
    go_enter Try.func43, Try.ntmps43
    go_wp2
    refine wp_loop_rounds 1 ?_
    rw [rounds_succ]
    go_wp2_with fail
    refine (insE_any g c base l 0 l.length _ H.out (Nat.zero_le _) (Nat.le_refl _) (by omega)).mono ?_
    rintro e w1 ⟨rfl, hg1, ho1⟩
    have HO := hide (ho1 S hfin.out HSL.out)
    clear ho1
    go_wp2
    refine wp_loop_rounds 1 ?_
    rw [rounds_succ]
    go_wp2
    go_end0
    exact ⟨rfl, hg1, HO.out⟩
  · have h21 : l.length = 20 := by omega
    rw [h21]
    have hI := fun W (h : W.ownsRow base 44 3 (.slice (some ⟨g, 0, none⟩) l.length c) l.length (flatE l)) => insE_any g c base l 0 l.length W h (Nat.zero_le _) (Nat.le_refl _) (by omega)
    have hJ := fun W (h : W.ownsRow base 44 3 (.slice (some ⟨g, 0, none⟩) S.length c) S.length (flatE S)) => insE_any g c base S 20 20 W h (Nat.le_refl _) (by have := HSL.out; omega) (by have := HSL.out; omega)
    rw [HSL.out] at hJ
    have hfin' := hfin.out
    have hsl' := HSL.out
    have h0 := H.out
    rw [h21] at hI hJ hfin' hsl' h0
    have HI := hide hI
    have HJ := hide hJ
    have HF := hide hfin'
    have HS2 := hide hsl'
    have H0 := hide h0
    clear hI hJ hfin' hsl' h0 hfin HSL H h20 h21 hl
    go_enter Try.func43, Try.ntmps43
    go_wp2
    refine wp_loop_rounds 2 ?_
    rw [rounds_succ]
    go_wp2_with fail
    refine (HI.out _ H0.out).mono ?_
    rintro e w1 ⟨rfl, hg1, ho1⟩
    have HO := hide (ho1 S HF.out HS2.out)
    clear ho1
    go_wp2
    rw [rounds_succ]
    go_wp2_with fail
    refine (HJ.out _ HO.out).mono ?_
    rintro e w2 ⟨rfl, hg2, ho2⟩
    have HO2 := hide (ho2 S (insSame S 20) (by rw [HS2.out]))
    clear ho2
    go_wp2
    refine wp_loop_rounds 1 ?_
    rw [rounds_succ]
    go_wp2
    go_end0
    exact ⟨rfl, hg1.trans hg2, HO2.out⟩
end
set_option maxRecDepth 100000 in
set_option maxHeartbeats 2000000 in
theorem sstable_any (g c : Nat) (base : Nat) (l : List Ed) (w : World) (h : w.ownsRow base 44 3 (.slice (some ⟨g, 0, none⟩) l.length c) l.length (flatE l)) (hl : l.length ≤ 20) :
    Calls Try.prog 36 #[.slice (some ⟨g, 0, none⟩) l.length c, .func (.func 37) #[] #[]] w fun e w' =>
      e = .returned (.tuple #[]) ∧ w.grownBy w' (some g) ∧ w'.ownsRow base 44 3 (.slice (some ⟨g, 0, none⟩) l.length c) l.length (flatE (sortE l)) := by
  have H := hide h
  clear h
  go_enter Try.func36, Try.ntmps36
  go_wp2_with fail
  refine (stable_any g c base l _ H.out hl).mono ?_
  rintro e w1 ⟨rfl, hg1, ho1⟩
  go_wp2
  go_end0
  exact ⟨rfl, hg1, ho1⟩
set_option maxRecDepth 100000 in
set_option maxHeartbeats 2000000 in
theorem sstable_none (fv : Value) (w : World) : Calls Try.prog 36 #[.slice none 0 0, fv] w fun e w' => e = .returned (.tuple #[]) ∧ w = w' := by
  go_enter Try.func36, Try.ntmps36
  go_wp2_with (go_at_call 43; refine (stable_none _ _).mono ?_; rintro e w' ⟨rfl, rfl⟩)
  go_end0
  exact ⟨rfl, rfl⟩
set_option maxRecDepth 100000 in
set_option maxHeartbeats 1000000 in
theorem sortE_any (v : Value) (l : List Ed) (w : World) (h : EdAt w v l) (hl : l.length ≤ 20) :
    Calls Try.prog 24 #[v] w fun e w' => ∃ v', e = .returned v' ∧ Below w.heap.size w w' ∧ w'.ownsRow w.heap.size 44 3 v' l.length (flatE (sortE l)) := by
  have H := hide h
  clear h
  go_enter Try.func24, Try.ntmps24
  go_wp2_with fail
  refine (cloneE_any v l _ H.out (by omega)).mono ?_
  rintro e w1 ⟨v', rfl, hb1, ho1⟩
  have HO := hide ho1
  rcases own_form ho1 with ⟨rfl, h1, h2⟩ | ⟨g, c, rfl, h1, h2, h3, h4, h5⟩
  · have hl0 : l = [] := List.eq_nil_of_length_eq_zero h1
    subst hl0
    clear h1 h2 ho1
    go_wp2_with fail
    refine (sstable_none _ _).mono ?_
    rintro e w2 ⟨rfl, rfl⟩
    go_wp2
    go_ret
    exact ⟨_, rfl, hb1, ⟨rfl, .inl ⟨rfl, rfl⟩⟩⟩
  · clear h3 h4 h5 ho1
    go_wp2_with fail
    refine (sstable_any g c w.heap.size l _ HO.out hl).mono ?_
    rintro e w2 ⟨rfl, hg2, ho2⟩
    have hb2 : Below w.heap.size w w2 := bl_grown hb1 hg2 (fun k hk => by cases hk; exact h1)
    go_wp2
    go_ret
    exact ⟨_, rfl, hb2, ho2⟩
theorem edat_of {w : World} {base : Nat} {v : Value} {l k : List Ed} (h : w.ownsRow base 44 3 v l.length (flatE k)) (hl : k.length = l.length) : EdAt w v k := by
  rw [← hl] at h; exact own_edat h
theorem sorted_of_cmp (l : List Ed) (h : ∀ i, (h : i + 1 < l.length) → 0 ≤ cmpE l[i + 1] l[i]) : SortedE l := by
  have h1 : ∀ i, (h : i + 1 < l.length) → le l[i].1 l[i + 1].1 := fun i hi => by
    have := h i hi
    unfold cmpE cmpS cmpI at this
    unfold le
    repeat' split at this
    all_goals omega
  have h2 : ∀ d i, (hd : i + d < l.length) → le l[i].1 l[i + d].1 := by
    intro d
    induction d with
    | zero => intro i _; exact le_refl _
    | succ d ih => intro i hd; exact le_trans (ih i (by omega)) (h1 (i + d) (by omega))
  refine List.pairwise_iff_getElem.2 fun i j hi hj hij => ?_
  have := h2 (j - i) i (by omega)
  simp only [show i + (j - i) = j by omega] at this
  exact this
set_option maxRecDepth 100000 in
set_option maxHeartbeats 1000000 in
theorem inorder_any (v : Value) (l : List Ed) (w : World) (h : EdAt w v l) (hl : l.length ≤ 20) :
    Calls Try.prog 39 #[v] w fun e w' => ∃ v', e = .returned v' ∧ Below w.heap.size w w' ∧ EdAt w' v' (sortE l) := by
  have H := hide h
  clear h
  go_enter Try.func39, Try.ntmps39
  go_wp2_with fail
  refine (issorted_any v l _ H.out (by omega)).mono ?_
  rintro e w1 ⟨⟨rfl, hs⟩ | rfl, hb1⟩
  · have he : sortE l = l := sortE_self l (sorted_of_cmp l hs)
    have H1 : Hid (EdAt w1 v (sortE l)) := hide (by rw [he]; exact edat_below H.out hb1)
    clear he hs
    go_wp2
    go_ret
    exact ⟨_, rfl, hb1, H1.out⟩
  · have H1 := hide (edat_below H.out hb1)
    go_wp2_with fail
    refine (sortE_any v l _ H1.out hl).mono ?_
    rintro e w2 ⟨v2, rfl, hb2, ho2⟩
    have H2 := hide (edat_of ho2 (sortE_len l))
    clear ho2
    go_wp2
    go_ret
    exact ⟨_, rfl, bl_trans hb1 hb2, H2.out⟩
end Go.Proofs.Ytjkjgfgblfioeaa
