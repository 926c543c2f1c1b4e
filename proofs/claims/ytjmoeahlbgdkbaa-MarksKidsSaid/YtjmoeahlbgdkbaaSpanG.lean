/- Contract of Apart; the layer's awake. No condition but short slices. -/
import Derived.Test.YtjmoeahlbgdkbaaSpanF
namespace Go.Proofs.Ytjmoeahlbgdkbaa
open Go.ChangeShapes Go.WideShapes Go.ChangeAt Go.RowKit
open SpanM
attribute [local go_sem ↓] Go.wp_at_zero Go.wp_at_succ
attribute [local go_sem] later_cell later_frozen
theorem apF_at (l : List Sp) : apF l = true ↔ ∀ i (h : i < l.length), l[i].1 ≤ l[i].2 ∧ ∀ j (hj : i = j + 1), R (l[j]'(by omega)) l[i] := by
  induction l with
  | nil => simp [apF]
  | cons a r ih =>
    cases r with
    | nil =>
      simp only [apF, decide_eq_true_iff]
      constructor
      · intro h i hi
        have : i = 0 := by simpa using hi
        subst this
        exact ⟨h, fun j hj => by omega⟩
      · intro h
        exact (h 0 (by simp)).1
    | cons b r =>
      rw [apF, Bool.and_eq_true, Bool.and_eq_true, ih, decide_eq_true_iff, decide_eq_true_iff]
      constructor
      · rintro ⟨⟨h1, h2⟩, h3⟩ i hi
        cases i with
        | zero => exact ⟨h1, fun j hj => by omega⟩
        | succ i =>
          have h4 := h3 i (by simpa using hi)
          refine ⟨h4.1, fun j hj => ?_⟩
          obtain rfl : j = i := by omega
          cases j with
          | zero => exact h2
          | succ j => exact h4.2 j rfl
      · intro h
        refine ⟨⟨(h 0 (by simp)).1, (h 1 (by simp)).2 0 rfl⟩, fun i hi => ?_⟩
        have h4 := h (i + 1) (by simp at hi ⊢; omega)
        exact ⟨h4.1, fun j hj => h4.2 (j + 1) (by omega)⟩
theorem apF_no (l : List Sp) (i : Nat) (h : i < l.length) (hn : ¬ (l[i].1 ≤ l[i].2 ∧ ∀ j (hj : i = j + 1), R (l[j]'(by omega)) l[i])) : apF l = false := by
  cases ha : apF l
  · rfl
  · exact absurd ((apF_at l).1 ha i h) hn
set_option maxRecDepth 100000 in
set_option maxHeartbeats 4000000 in
theorem apart_any (v : Value) (l : List Sp) (w : World) (h : SpAt w v l) (hl : l.length ≤ 1000) :
    Calls Try.prog 65 #[v] w fun e w' => e = .returned (.bool (apF (sortS l))) ∧ Below w.heap.size w w' := by
  have H := hide h
  clear h
  obtain ⟨res, hres⟩ : ∃ res, apF (sortS l) = res := ⟨_, rfl⟩
  rw [hres]
  have HRES := hide hres
  clear hres
  go_enter Try.func65, Try.ntmps65
  go_wp2_with fail
  refine (asc_any v l _ H.out hl).mono ?_
  rintro e w1 ⟨vA, rfl, hb1, ho1⟩
  have hS := sortS_len l
  obtain ⟨S, hSS⟩ : ∃ S, sortS l = S := ⟨_, rfl⟩
  have hres := HRES.out
  rw [hSS] at hS ho1 hres
  have HR2 := hide hres.symm
  clear hSS hres HRES
  have hSl : S.length ≤ 1000 := by omega
  have hsp := own_spat ho1
  have HSP := hide hsp
  obtain ⟨aA, cA, rfl⟩ := spat_len hsp
  clear hsp ho1 hS H
  go_wp2
  go_loopw [10] (fun i wr => ∃ k : Nat, i = .int .i64 k ∧ k ≤ S.length ∧ Hid (∀ i (h : i < S.length), i < k → S[i].1 ≤ S[i].2 ∧ ∀ j (hj : i = j + 1), R (S[j]'(by omega)) S[i]) ∧ Below w1.heap.size w1 wr) (fun i _ => S.length - (intOf i).toNat)
  case atStart => exact ⟨0, rfl, Nat.zero_le _, hide (fun i h1 h2 => by omega), bl_refl w1⟩
  case round =>
    obtain ⟨k, rfl, hk, HT, hbl⟩ := hrel
    by_cases hlt : k < S.length
    · obtain ⟨b1, o1, c1, hv1, hc1, hm1, hlb1, hcell1⟩ := spat_some (spat_below HSP.out hbl) (by omega)
      injection hv1 with hv1 _ hv1c
      subst hv1 hv1c
      unfold maxLen at hm1
      obtain ⟨x1, x2⟩ := hcell1 k hlt
      by_cases hbad : S[k].2 < S[k].1
      · have hno := apF_no S k hlt (fun h => by omega)
        have HNO := hide (HR2.out.trans hno)
        clear hcell1 hno HT HR2
        generalize S[k] = s at *
        go_wp2
        go_ret
        exact ⟨ret_bool HNO.out.symm, bl_trans hb1 (bl_alloc hbl _)⟩
      · rcases Nat.eq_zero_or_pos k with hk0 | hk0
        · subst hk0
          have HT2 : Hid (∀ i (h : i < S.length), i < 0 + 1 → S[i].1 ≤ S[i].2 ∧ ∀ j (hj : i = j + 1), R (S[j]'(by omega)) S[i]) := hide (fun i h1 h2 => by
            obtain rfl : i = 0 := by omega
            exact ⟨by omega, fun j hj => by omega⟩)
          clear HT HR2 hcell1
          rw [Nat.zero_mul, Nat.add_zero] at x1 x2
          generalize S[0] = s at *
          go_wp2
          go_quiet (fail)
          go_wp2
          refine ⟨?_, by first | (simp [intOf]; done) | (simp [intOf]; omega)⟩
          have hbl4 : ∀ nq, Below w1.heap.size w1 ((wr.alloc (.cells #[.int .i64 s.1, .int .i64 s.2] 41)).drewN nq) := fun nq => bl_drewN (bl_alloc hbl _) nq
          first
            | exact ⟨0 + 1, by go_num, by omega, HT2, hbl4 _⟩
            | ((repeat apply Exists.intro); exact ⟨⟨0 + 1, by go_num, by omega, HT2, hbl4 _⟩, rfl⟩)
        · obtain ⟨j, rfl⟩ : ∃ j, k = j + 1 := ⟨k - 1, by omega⟩
          obtain ⟨y1, y2⟩ := hcell1 j (by omega)
          have hnx : ¬ R S[j] S[j + 1] → apF S = false := fun hn => apF_no S (j + 1) hlt (fun h => hn (h.2 j rfl))
          have hyes : R S[j] S[j + 1] → Hid (∀ i (h : i < S.length), i < j + 1 + 1 → S[i].1 ≤ S[i].2 ∧ ∀ j (hj : i = j + 1), R (S[j]'(by omega)) S[i]) := fun hr => hide (fun i h1 h2 => by
            by_cases hi : i = j + 1
            · subst hi
              refine ⟨by omega, fun j' hj' => ?_⟩
              obtain rfl : j' = j := by omega
              exact hr
            · exact HT.out i h1 (by omega))
          have HNX := hide hnx
          have HYES := hide hyes
          have HR3 := HR2
          clear hnx hyes HT hcell1 HR2
          have hRd : R S[j] S[j + 1] ↔ S[j].1 < S[j + 1].1 ∧ S[j].2 ≤ S[j + 1].1 := Iff.rfl
          have HRD := hide hRd
          clear hRd
          have hj0 : decide ((0 : Int) < (j : Int) + 1) = true := by first | (simp; done) | (simp; omega)
          generalize S[j + 1] = s at *
          generalize S[j] = t at *
          by_cases h1 : s.1 ≤ t.1
          · have g1 : decide (s.1 ≤ t.1) = true := by simp [h1]
            have HNO := hide (HR3.out.trans (HNX.out (fun h => by have := HRD.out.1 h; omega)))
            clear HNX HYES HR3 HRD h1
            go_wp2
            go_quiet (fail)
            go_wp2
            go_ret
            exact ⟨ret_bool HNO.out.symm, bl_trans hb1 (bl_drewN (bl_alloc hbl _) _)⟩
          · have g1 : decide (s.1 ≤ t.1) = false := by simp; omega
            by_cases h2 : s.1 < t.2
            · have g2 : decide (s.1 < t.2) = true := by simp [h2]
              have HNO := hide (HR3.out.trans (HNX.out (fun h => by have := HRD.out.1 h; omega)))
              clear HNX HYES HR3 HRD h1 h2
              go_wp2
              go_quiet (fail)
              go_wp2
              go_ret
              exact ⟨ret_bool HNO.out.symm, bl_trans hb1 (bl_drewN (bl_alloc hbl _) _)⟩
            · have g2 : decide (s.1 < t.2) = false := by simp; omega
              have HT2 := HYES.out (HRD.out.2 (by omega))
              clear HNX HYES HR3 HRD h1 h2
              go_wp2
              go_quiet (fail)
              go_wp2
              refine ⟨?_, by first | (simp [intOf]; done) | (simp [intOf]; omega)⟩
              have hbl4 : ∀ nq, Below w1.heap.size w1 ((wr.alloc (.cells #[.int .i64 s.1, .int .i64 s.2] 41)).drewN nq) := fun nq => bl_drewN (bl_alloc hbl _) nq
              first
                | exact ⟨j + 1 + 1, by go_num, by omega, HT2, hbl4 _⟩
                | ((repeat apply Exists.intro); exact ⟨⟨j + 1 + 1, by go_num, by omega, HT2, hbl4 _⟩, rfl⟩)
    · obtain rfl : k = S.length := by omega
      have hyes : apF S = true := (apF_at S).2 (fun i h => HT.out i h h)
      have HNO := hide (HR2.out.trans hyes)
      clear HT hyes HR2 hlt
      go_wp2
      go_ret
      exact ⟨ret_bool HNO.out.symm, bl_trans hb1 hbl⟩
theorem aparte_any (v : Value) (l : List Sp) (r : Bool) (w : World) (h : SpAt w v l) (hl : l.length ≤ 1000) (hr : apF (sortS l) = r) :
    Calls Try.prog 65 #[v] w fun e w' => e = .returned (.bool r) ∧ Below w.heap.size w w' := by
  subst hr; exact apart_any v l w h hl
theorem maye_any (a : Sp) (n : Int) (r : Bool) (w : World) (hr : mayB a n = r) : Calls Try.prog 47 #[.agg #[.int .i64 a.1, .int .i64 a.2], .int .i64 n] w fun e w' => e = .returned (.bool r) ∧ Below w.heap.size w w' := by
  subst hr; exact may_any a n w
theorem hase_any (a : Sp) (n : Int) (r : Bool) (w : World) (hr : hasB a n = r) : Calls Try.prog 45 #[.agg #[.int .i64 a.1, .int .i64 a.2], .int .i64 n] w fun e w' => e = .returned (.bool r) ∧ Below w.heap.size w w' := by
  subst hr; exact has_any a n w
theorem lit_spat (w : World) (b : Nat) (l : List Sp) (hm : l.length ≤ 1000) (h : ∀ i (h : i < l.length), w.cell? ⟨b, i * 2, none⟩ = some (.int .i64 l[i].1) ∧ w.cell? ⟨b, i * 2 + 1, none⟩ = some (.int .i64 l[i].2)) :
    SpAt w (.slice (some ⟨b, 0, none⟩) l.length l.length) l :=
  .inr ⟨_, _, rfl, Nat.le_refl _, by unfold maxLen; omega, fun i hi => by rw [addr_add, addr_add, Nat.zero_add, Nat.zero_add]; exact h i hi⟩
theorem alloc_spat (w : World) (l : List Sp) (hm : l.length ≤ 1000) : SpAt (w.alloc (.cells (flat l).toArray 41)) (.slice (some ⟨w.heap.size, 0, none⟩) l.length l.length) l :=
  lit_spat _ _ l hm fun i hi => by
    have h1 := World.cell?_alloc_mark w (flat l).toArray 41 (0, 0) (i * 2)
    have h2 := World.cell?_alloc_mark w (flat l).toArray 41 (0, 0) (i * 2 + 1)
    have hf := flat_at l i hi
    exact ⟨by rw [h1, ← hf.1]; simp, by rw [h2, ← hf.2]; simp⟩
theorem sort_lit (l k : List Sp) (hp : k.Perm l) (hs : Sorted k) : sortS l = k := sortS_eq hp hs
theorem u_lit : uniF (sortS [(1, 2), (4, 4), (2, 3)]) = [(1, 3), (4, 4)] := by
  rw [sort_lit _ [(1, 2), (2, 3), (4, 4)] (by decide) (by unfold Sorted le; decide)]
  decide +kernel
theorem a_lit : apF (sortS [(1, 1), (1, 2)]) = false := by
  rw [sort_lit _ [(1, 1), (1, 2)] (by decide) (by unfold Sorted le; decide)]
  decide +kernel
end Go.Proofs.Ytjmoeahlbgdkbaa
