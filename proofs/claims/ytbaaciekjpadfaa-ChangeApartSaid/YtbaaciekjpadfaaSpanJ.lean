/- Contracts of the reference's Union and Apart: stretches put together; are they apart. No condition but short slices. -/
import Derived.Test.YtbaaciekjpadfaaSpanI
import Derived.RegionTactic
namespace Go.Proofs.Ytbaaciekjpadfaa
open Go.ChangeShapes Go.WideShapes Go.ChangeAt Go.RowKit
open SpanM
attribute [local go_sem ↓] Go.wp_at_zero Go.wp_at_succ
attribute [local go_sem] later_cell later_frozen
def MInv (S : List Sp) (w1 : World) (v i : Value) (wr : World) : Prop :=
  ∃ (k m : Nat) (acc : List Sp), i = .int .i64 k ∧ k ≤ S.length ∧ Hid (uniF (S.take k) = acc) ∧ m ≤ k ∧ Hid (acc.length = m) ∧ wr.ownsRow w1.heap.size 43 2 v m (flat acc) ∧ Below w1.heap.size w1 wr
set_option maxRecDepth 100000 in
set_option maxHeartbeats 4000000 in
theorem rapart_any (v : Value) (l : List Sp) (w : World) (h : SpAt w v l) (hl : l.length ≤ 1000) :
    Calls Try.prog 29 #[v] w fun e w' => e = .returned (.bool (apF (sortS l))) ∧ Below w.heap.size w w' := by
  have H := hide h
  clear h
  obtain ⟨res, hres⟩ : ∃ res, apF (sortS l) = res := ⟨_, rfl⟩
  rw [hres]
  have HRES := hide hres
  clear hres
  go_enter Try.func29, Try.ntmps29
  go_wp2_with fail
  refine (rsort_any v l _ H.out hl).mono ?_
  rintro e w1 ⟨vA, rfl, hb1, ho1⟩
  have hS := sortS_len l
  obtain ⟨S, hSS⟩ : ∃ S, sortS l = S := ⟨_, rfl⟩
  have hres := HRES.out
  rw [hSS] at hS ho1 hres
  rw [← hS] at ho1
  have HR2 := hide hres.symm
  clear hSS hres HRES
  have hSl : S.length ≤ 1000 := by omega
  have hsp := own_spat ho1
  have HSP := hide hsp
  obtain ⟨aA, cA, rfl⟩ := spat_len hsp
  clear hsp ho1 hS H
  go_wp2
  go_loopw [4] (fun i wr => ∃ k : Nat, i = .int .i64 k ∧ k ≤ S.length ∧ Hid (∀ i (h : i < S.length), i < k → S[i].1 ≤ S[i].2 ∧ ∀ j (hj : i = j + 1), R (S[j]'(by omega)) S[i]) ∧ Below w1.heap.size w1 wr) (fun i _ => S.length - (intOf i).toNat)
  case atStart => exact ⟨0, rfl, Nat.zero_le _, hide (fun i h1 h2 => by omega), bl_refl w1⟩
  case round =>
    obtain ⟨k, rfl, hk, HT, hbl⟩ := hrel
    by_cases hlt : k < S.length
    · obtain ⟨b1, o1, c1, hv1, hc1, hm1, hlb1, hcell1⟩ := spat_some (spat_below HSP.out hbl) (by omega)
      injection hv1 with hv1 _ hv1c
      subst hv1 hv1c
      unfold maxLen at hm1
      obtain ⟨x1, x2⟩ := hcell1 k hlt
      by_cases hbad : S[k].2 < S[k].1
      · have hd1 : decide (S[k].2 < S[k].1) = true := by simp [hbad]
        have hno := apF_no S k hlt (fun h => by omega)
        have HNO := hide (HR2.out.trans hno)
        clear hcell1 hno HT HR2
        generalize S[k] = s at *
        go_wp2
        go_quiet (fail)
        go_wp2
        go_ret
        exact ⟨ret_bool HNO.out.symm, bl_trans hb1 (by first | exact bl_drewN hbl _ | exact bl_drewN (bl_drewN hbl _) _)⟩
      · have hd1 : decide (S[k].2 < S[k].1) = false := by simp; omega
        rcases Nat.eq_zero_or_pos k with hk0 | hk0
        · subst hk0
          have HT2 : Hid (∀ i (h : i < S.length), i < 0 + 1 → S[i].1 ≤ S[i].2 ∧ ∀ j (hj : i = j + 1), R (S[j]'(by omega)) S[i]) := hide (fun i h1 h2 => by
            obtain rfl : i = 0 := by omega
            exact ⟨by omega, fun j hj => by omega⟩)
          clear HT HR2 hcell1
          rw [Nat.zero_mul, Nat.add_zero] at x1 x2
          generalize S[0] = s at *
          go_wp2
          go_quiet (fail)
          go_wp2
          go_quiet (fail)
          go_wp2
          refine ⟨?_, by first | (simp [intOf]; done) | (simp [intOf]; omega)⟩
          have hbl4 : ∀ p q, Below w1.heap.size w1 ((wr.drewN p).drewN q) := fun p q => bl_drewN (bl_drewN hbl p) q
          first
            | exact ⟨0 + 1, by go_num, by omega, HT2, hbl4 _ _⟩
            | exact ⟨0 + 1, by go_num, by omega, HT2, bl_drewN hbl _⟩
            | ((repeat apply Exists.intro); exact ⟨⟨0 + 1, by go_num, by omega, HT2, hbl4 _ _⟩, rfl⟩)
            | ((repeat apply Exists.intro); exact ⟨⟨0 + 1, by go_num, by omega, HT2, bl_drewN hbl _⟩, rfl⟩)
        · obtain ⟨j, rfl⟩ : ∃ j, k = j + 1 := ⟨k - 1, by omega⟩
          obtain ⟨y1, y2⟩ := hcell1 j (by omega)
          have hnx : ¬ R S[j] S[j + 1] → apF S = false := fun hn => apF_no S (j + 1) hlt (fun h => hn (h.2 j rfl))
          have hyes : R S[j] S[j + 1] → Hid (∀ i (h : i < S.length), i < j + 1 + 1 → S[i].1 ≤ S[i].2 ∧ ∀ j (hj : i = j + 1), R (S[j]'(by omega)) S[i]) := fun hr => hide (fun i h1 h2 => by
            by_cases hi : i = j + 1
            · subst hi
              refine ⟨by omega, fun j' hj' => ?_⟩
              obtain rfl : j' = j := by omega
              exact hr
            · exact HT.out i h1 (by omega))
          have HNX := hide hnx
          have HYES := hide hyes
          have HR3 := HR2
          clear hnx hyes HT hcell1 HR2
          have hRd : R S[j] S[j + 1] ↔ S[j].1 < S[j + 1].1 ∧ S[j].2 ≤ S[j + 1].1 := Iff.rfl
          have HRD := hide hRd
          clear hRd
          have hj0 : decide ((0 : Int) < (j : Int) + 1) = true := by first | (simp; done) | (simp; omega)
          generalize S[j + 1] = s at *
          generalize S[j] = t at *
          by_cases h1 : s.1 ≤ t.1
          · have g1 : decide (s.1 ≤ t.1) = true := by simp [h1]
            have HNO := hide (HR3.out.trans (HNX.out (fun h => by have := HRD.out.1 h; omega)))
            clear HNX HYES HR3 HRD h1
            go_wp2
            go_quiet (fail)
            go_wp2
            go_quiet (fail)
            go_wp2
            go_ret
            exact ⟨ret_bool HNO.out.symm, bl_trans hb1 (by first | exact bl_drewN hbl _ | exact bl_drewN (bl_drewN hbl _) _)⟩
          · have g1 : decide (s.1 ≤ t.1) = false := by simp; omega
            by_cases h2 : s.1 < t.2
            · have g2 : decide (s.1 < t.2) = true := by simp [h2]
              have HNO := hide (HR3.out.trans (HNX.out (fun h => by have := HRD.out.1 h; omega)))
              clear HNX HYES HR3 HRD h1 h2
              go_wp2
              go_quiet (fail)
              go_wp2
              go_quiet (fail)
              go_wp2
              go_ret
              exact ⟨ret_bool HNO.out.symm, bl_trans hb1 (by first | exact bl_drewN hbl _ | exact bl_drewN (bl_drewN hbl _) _)⟩
            · have g2 : decide (s.1 < t.2) = false := by simp; omega
              have HT2 := HYES.out (HRD.out.2 (by omega))
              clear HNX HYES HR3 HRD h1 h2
              go_wp2
              go_quiet (fail)
              go_wp2
              go_quiet (fail)
              go_wp2
              refine ⟨?_, by first | (simp [intOf]; done) | (simp [intOf]; omega)⟩
              have hbl4 : ∀ p q, Below w1.heap.size w1 ((wr.drewN p).drewN q) := fun p q => bl_drewN (bl_drewN hbl p) q
              first
                | exact ⟨j + 1 + 1, by go_num, by omega, HT2, hbl4 _ _⟩
                | exact ⟨j + 1 + 1, by go_num, by omega, HT2, bl_drewN hbl _⟩
                | ((repeat apply Exists.intro); exact ⟨⟨j + 1 + 1, by go_num, by omega, HT2, hbl4 _ _⟩, rfl⟩)
                | ((repeat apply Exists.intro); exact ⟨⟨j + 1 + 1, by go_num, by omega, HT2, bl_drewN hbl _⟩, rfl⟩)
    · obtain rfl : k = S.length := by omega
      have hyes : apF S = true := (apF_at S).2 (fun i h => HT.out i h h)
      have HNO := hide (HR2.out.trans hyes)
      clear HT hyes HR2 hlt
      go_wp2
      go_ret
      exact ⟨ret_bool HNO.out.symm, bl_trans hb1 hbl⟩
end Go.Proofs.Ytbaaciekjpadfaa
