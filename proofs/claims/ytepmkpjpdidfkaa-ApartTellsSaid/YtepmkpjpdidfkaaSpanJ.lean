/- Contracts of the reference's Union and Apart: stretches put together; are they apart. No condition but short slices. -/
import Derived.Test.YtepmkpjpdidfkaaSpanI
import Derived.RegionTactic
namespace Go.Proofs.Ytepmkpjpdidfkaa
open Go.ChangeShapes Go.WideShapes Go.ChangeAt Go.RowKit
open SpanM
attribute [local go_sem ↓] Go.wp_at_zero Go.wp_at_succ
attribute [local go_sem] later_cell later_frozen
theorem rtouche_any (a b : Sp) (r : Bool) (w : World) (h : touch a b = r) : Calls Try.prog 20 #[.agg #[.int .i64 a.1, .int .i64 a.2], .agg #[.int .i64 b.1, .int .i64 b.2]] w fun e w' => e = .returned (.bool r) ∧ Below w.heap.size w w' := by
  rw [← h]; exact rtouch_any a b w
def MInv (S : List Sp) (w1 : World) (v i : Value) (wr : World) : Prop :=
  ∃ (k m : Nat) (acc : List Sp), i = .int .i64 k ∧ k ≤ S.length ∧ Hid (uniF (S.take k) = acc) ∧ m ≤ k ∧ Hid (acc.length = m) ∧ wr.ownsRow w1.heap.size 23 2 v m (flat acc) ∧ Below w1.heap.size w1 wr
set_option maxRecDepth 100000 in
set_option maxHeartbeats 8000000 in
theorem runion_any (v : Value) (l : List Sp) (w : World) (h : SpAt w v l) (hl : l.length ≤ 1000) :
    Calls Try.prog 24 #[v] w fun e w' => ∃ v', e = .returned v' ∧ Below w.heap.size w w' ∧ w'.ownsRow w.heap.size 23 2 v' (uniF (sortS l)).length (flat (uniF (sortS l))) := by
  obtain ⟨i0, hi0, hz0', hz1, hz2⟩ := info_parts info_sp
  have H := hide h
  clear h
  obtain ⟨U, hU⟩ : ∃ U, uniF (sortS l) = U := ⟨_, rfl⟩
  rw [hU]
  go_enter Try.func24, Try.ntmps24
  go_wp2_with fail
  refine (rsort_any v l _ H.out hl).mono ?_
  rintro e w1 ⟨vA, rfl, hb1, ho1⟩
  have hS := sortS_len l
  obtain ⟨S, hSS⟩ : ∃ S, sortS l = S := ⟨_, rfl⟩
  rw [hSS] at hS ho1 hU
  rw [← hS] at ho1
  have HU2 := hide hU
  have hSl : S.length ≤ 1000 := by omega
  have hsp := own_spat ho1
  have HSP := hide hsp
  obtain ⟨aA, cA, rfl⟩ := spat_len hsp
  clear hsp ho1 hS H hSS hU
  go_wp2
  go_loopw [4, 5] (fun v i wr => MInv S w1 v i wr) (fun _ i _ => S.length - (intOf i).toNat)
  case atStart => exact ⟨0, 0, [], rfl, Nat.zero_le _, hide rfl, Nat.le_refl _, hide rfl, ⟨rfl, .inl ⟨rfl, rfl⟩⟩, bl_refl w1⟩
  case round =>
    obtain ⟨k, m, acc, rfl, hk, HU, hmk, HM, hv, hbk⟩ := hrel
    by_cases hlt : k < S.length
    · obtain ⟨b1, o1, c1, hv1, hc1, hm1, hlb1, hcell1⟩ := spat_some (spat_below HSP.out hbk) (by omega)
      injection hv1 with hv1 _ hv1c
      subst hv1 hv1c
      unfold maxLen at hm1
      obtain ⟨x1, x2⟩ := hcell1 k hlt
      have hus := uniF_snoc S k hlt
      rw [HU.out] at hus
      clear hcell1
      obtain ⟨s, hs⟩ : ∃ s, S[k] = s := ⟨_, rfl⟩
      rw [hs] at hus x1 x2
      have fin : ∀ (v' : Value) (W : World) (acc' : List Sp) (m' : Nat), m' ≤ k + 1 → acc'.length = m' → stepU acc s = acc' → W.ownsRow w1.heap.size 23 2 v' m' (flat acc') → Below w1.heap.size w1 W → MInv S w1 v' (.int .i64 ((k : Int) + 1)) W :=
        fun v' W acc' m' h0 h4 h1 h2 h3 => ⟨k + 1, m', acc', by go_num, by omega, hide (by rw [hus, h1]), h0, hide h4, h2, h3⟩
      have FIN := hide fin
      clear fin hus hs HU
      have hbw : w1.heap.size ≤ wr.heap.size := hbk.size
      obtain ⟨aV, cV, rfl⟩ := own_slice hv
      have HV := hide hv
      clear hv
      by_cases hsk : s.2 < s.1
      · have hst := hide (step_skip acc s hsk)
        go_wp2
        go_quiet (fail)
        go_wp2
        refine ⟨?_, by first | (simp [intOf]; done) | (simp [intOf]; omega)⟩
        exact FIN.out _ _ acc m (by omega) HM.out hst.out (own_below HV.out (bl_drewN (bl_refl _) _)) (bl_drewN hbk _)
      · have hskd : decide (s.2 < s.1) = false := by simp; omega
        have HSK0 := hide hsk
        clear hsk
        go_wp2
        go_quiet (fail)
        have y1 : (wr.drewN nq).cell? ⟨b1, o1 + k * 2, none⟩ = some (.int .i64 s.1) := by go_simp
        have y2 : (wr.drewN nq).cell? ⟨b1, o1 + k * 2 + 1, none⟩ = some (.int .i64 s.2) := by go_simp
        have HVq := hide (own_below HV.out (bl_drewN (bl_refl _) nq))
        have hbq : Below w1.heap.size w1 (wr.drewN nq) := bl_drewN hbk nq
        clear x1 x2 HV
        generalize wr.drewN nq = wq at *
        clear hbk hlb1 hbw
        have hlb1 : b1 < wq.heap.size := World.block_lt_of_cell? wq _ y1
        have hbw : w1.heap.size ≤ wq.heap.size := hbq.size
        rcases List.eq_nil_or_concat acc with rfl | ⟨a0, t, rfl⟩
        · obtain rfl : m = 0 := by have := HM.out; simpa using this.symm
          have HST := hide (step_nil s (by have := HSK0.out; omega))
          clear HM
          go_wp2
          go_quiet (fail)
          go_wp2_with (at_builtin; (refine wpList_push (wq.drewN nq) rfl _ _ 29 rfl w1.heap.size 23 i0 (.agg #[.int .i64 0, .int .i64 0]) 2 16 Try.underlying29 hi0 hz0' hz1 hz2 rfl (by decide) (.slice aV 0 cV) 0 (flat []) rfl (own_below HVq.out (bl_drewN (bl_refl _) nq)) 1 #[.int .i64 s.1, .int .i64 s.2] (by show Value.slice (some ⟨wq.heap.size, 0, none⟩) 1 1 = _; simp) rfl (by simp [Value.oneCell']) (by omega) (by decide) (by simp; omega) ?_); intro v' w4 hv4 hg4 hat)
          have hbl4 : Below w1.heap.size w1 w4 := bl_own (bl_drewN hbq nq) (own_below HVq.out (bl_drewN (bl_refl _) nq)) hg4 (Nat.le_refl _)
          refine ⟨?_, by first | (simp [intOf]; done) | (simp [intOf]; omega)⟩
          exact FIN.out _ _ [s] 1 (by omega) rfl HST.out hv4 hbl4
        · rw [List.concat_eq_append] at *
          obtain rfl : m = a0.length + 1 := by have := HM.out; simp at this; omega
          have hget : (a0 ++ [t])[a0.length]'(by simp) = t := by simp
          have hat2 := flat_at (a0 ++ [t]) a0.length (by simp)
          rw [hget] at hat2
          rcases own_form HVq.out with ⟨_, h1, _⟩ | ⟨g, cg, hvv, hg1, hg2, hg3, hg4, hg5⟩
          · omega
          injection hvv with hq1 _ hq2
          subst hq1 hq2
          have z1 := hg5 _ _ hat2.1
          have z2 := hg5 _ _ hat2.2
          unfold maxLen at hg4
          have hd : decide ((0 : Int) < (a0.length : Int) + 1) = true := by first | (simp; done) | (simp; omega)
          have hset : (flat (a0 ++ [t])).set (a0.length * 2 + 1) (.int .i64 (max t.2 s.2)) = flat (a0 ++ [(t.1, max t.2 s.2)]) := by
            rw [flat_set1 _ a0.length (by simp), hget]
            simp
          have HSET := hide hset
          clear hg5 hat2 hget hset HM
          obtain ⟨r, hr⟩ : ∃ r, touch t s = r := ⟨_, rfl⟩
          have HR := hide hr
          have HSK := HSK0
          clear hr
          go_wp2
          refine wp_region_later (by kernel_rfl) (by kernel_rfl) ?_
          repeat (go_big_quiet_step (first | (go_at_call 20; exact later_call (rtouche_any t s r _ HR.out)) | exact rfl))
          refine wpQuiet_nil ?_
          rintro w9 ⟨⟨_, hb9⟩, rfl⟩
          have HV9 := hide (own_below HVq.out hb9)
          have hbl9 := bl_trans hbq hb9
          have e1 := cell_later hb9 y1
          have e2 := cell_later hb9 y2
          have e4 := cell_later hb9 z2
          have e5 : w9.frozen? ⟨g, a0.length * 2 + 1, none⟩ = false := World.ownsRow.frozenAt HV9.out _
          have hbs9 := hb9.size
          clear y1 y2 z1 z2 HVq
          cases r
          · have HST := hide (step_new a0 t s (by have := HSK.out; omega) HR.out)
            clear e4 e5
            go_wp2_with (at_builtin; (refine wpList_push w9 rfl _ _ 29 rfl w1.heap.size 23 i0 (.agg #[.int .i64 0, .int .i64 0]) 2 16 Try.underlying29 hi0 hz0' hz1 hz2 rfl (by decide) (.slice (some ⟨g, 0, none⟩) (a0.length + 1) cV) (a0.length + 1) (flat (a0 ++ [t])) rfl HV9.out 1 #[.int .i64 s.1, .int .i64 s.2] rfl rfl (by simp [Value.oneCell']) (by omega) (by decide) (by omega) ?_); intro v' w4 hv4 hg4 hat)
            have hbl4 : Below w1.heap.size w1 w4 := bl_own hbl9 HV9.out hg4 (Nat.le_refl _)
            have hv5 : w4.ownsRow w1.heap.size 23 2 v' (a0.length + 1 + 1) (flat (a0 ++ [t] ++ [s])) := by
              rw [flat_app (a0 ++ [t])]; exact hv4
            refine ⟨?_, by first | (simp [intOf]; done) | (simp [intOf]; omega)⟩
            exact FIN.out _ _ _ _ (by omega) (by simp) HST.out hv5 hbl4
          · have HST := hide (step_on a0 t s (by have := HSK.out; omega) HR.out)
            have fin2 : ∀ x, max t.2 s.2 = x → MInv S w1 (.slice (some ⟨g, 0, none⟩) (a0.length + 1) cV) (.int .i64 ((k : Int) + 1)) (w9.drew.setCell ⟨g, a0.length * 2 + 1, none⟩ (.int .i64 x)) := by
              rintro x rfl
              have h9 := (World.ownsRow.stored (World.ownsRow.drew HV9.out) (a0.length * 2 + 1) (.int .i64 (max t.2 s.2))).1
              rw [HSET.out] at h9
              exact FIN.out _ _ _ _ (by omega) (by simp) HST.out h9 (bl_set (bl_drew hbl9) hg1 _)
            have FIN2 := hide fin2
            clear fin2 FIN e1
            go_wp2
            go_region
            all_goals
              go_wp2
              refine ⟨?_, by first | (simp [intOf]; done) | (simp [intOf]; omega)⟩
              exact FIN2.out _ (by omega)
    · obtain rfl : k = S.length := by omega
      have hU4 := HU.out
      rw [List.take_length, HU2.out] at hU4
      subst hU4
      obtain rfl : m = U.length := HM.out.symm
      have HO := hide (own_base hv hb1.size)
      clear hv HU HM hlt
      go_wp2
      go_ret
      exact ⟨_, rfl, bl_trans hb1 hbk, HO.out⟩
set_option maxRecDepth 100000 in
set_option maxHeartbeats 4000000 in
theorem rapart_any (v : Value) (l : List Sp) (w : World) (h : SpAt w v l) (hl : l.length ≤ 1000) :
    Calls Try.prog 27 #[v] w fun e w' => e = .returned (.bool (apF (sortS l))) ∧ Below w.heap.size w w' := by
  have H := hide h
  clear h
  obtain ⟨res, hres⟩ : ∃ res, apF (sortS l) = res := ⟨_, rfl⟩
  rw [hres]
  have HRES := hide hres
  clear hres
  go_enter Try.func27, Try.ntmps27
  go_wp2_with fail
  refine (rsort_any v l _ H.out hl).mono ?_
  rintro e w1 ⟨vA, rfl, hb1, ho1⟩
  have hS := sortS_len l
  obtain ⟨S, hSS⟩ : ∃ S, sortS l = S := ⟨_, rfl⟩
  have hres := HRES.out
  rw [hSS] at hS ho1 hres
  rw [← hS] at ho1
  have HR2 := hide hres.symm
  clear hSS hres HRES
  have hSl : S.length ≤ 1000 := by omega
  have hsp := own_spat ho1
  have HSP := hide hsp
  obtain ⟨aA, cA, rfl⟩ := spat_len hsp
  clear hsp ho1 hS H
  go_wp2
  go_loopw [4] (fun i wr => ∃ k : Nat, i = .int .i64 k ∧ k ≤ S.length ∧ Hid (∀ i (h : i < S.length), i < k → S[i].1 ≤ S[i].2 ∧ ∀ j (hj : i = j + 1), R (S[j]'(by omega)) S[i]) ∧ Below w1.heap.size w1 wr) (fun i _ => S.length - (intOf i).toNat)
  case atStart => exact ⟨0, rfl, Nat.zero_le _, hide (fun i h1 h2 => by omega), bl_refl w1⟩
  case round =>
    obtain ⟨k, rfl, hk, HT, hbl⟩ := hrel
    by_cases hlt : k < S.length
    · obtain ⟨b1, o1, c1, hv1, hc1, hm1, hlb1, hcell1⟩ := spat_some (spat_below HSP.out hbl) (by omega)
      injection hv1 with hv1 _ hv1c
      subst hv1 hv1c
      unfold maxLen at hm1
      obtain ⟨x1, x2⟩ := hcell1 k hlt
      by_cases hbad : S[k].2 < S[k].1
      · have hd1 : decide (S[k].2 < S[k].1) = true := by simp [hbad]
        have hno := apF_no S k hlt (fun h => by omega)
        have HNO := hide (HR2.out.trans hno)
        clear hcell1 hno HT HR2
        generalize S[k] = s at *
        go_wp2
        go_quiet (fail)
        go_wp2
        go_ret
        exact ⟨ret_bool HNO.out.symm, bl_trans hb1 (by first | exact bl_drewN hbl _ | exact bl_drewN (bl_drewN hbl _) _)⟩
      · have hd1 : decide (S[k].2 < S[k].1) = false := by simp; omega
        rcases Nat.eq_zero_or_pos k with hk0 | hk0
        · subst hk0
          have HT2 : Hid (∀ i (h : i < S.length), i < 0 + 1 → S[i].1 ≤ S[i].2 ∧ ∀ j (hj : i = j + 1), R (S[j]'(by omega)) S[i]) := hide (fun i h1 h2 => by
            obtain rfl : i = 0 := by omega
            exact ⟨by omega, fun j hj => by omega⟩)
          clear HT HR2 hcell1
          rw [Nat.zero_mul, Nat.add_zero] at x1 x2
          generalize S[0] = s at *
          go_wp2
          go_quiet (fail)
          go_wp2
          go_quiet (fail)
          go_wp2
          refine ⟨?_, by first | (simp [intOf]; done) | (simp [intOf]; omega)⟩
          have hbl4 : ∀ p q, Below w1.heap.size w1 ((wr.drewN p).drewN q) := fun p q => bl_drewN (bl_drewN hbl p) q
          first
            | exact ⟨0 + 1, by go_num, by omega, HT2, hbl4 _ _⟩
            | exact ⟨0 + 1, by go_num, by omega, HT2, bl_drewN hbl _⟩
            | ((repeat apply Exists.intro); exact ⟨⟨0 + 1, by go_num, by omega, HT2, hbl4 _ _⟩, rfl⟩)
            | ((repeat apply Exists.intro); exact ⟨⟨0 + 1, by go_num, by omega, HT2, bl_drewN hbl _⟩, rfl⟩)
        · obtain ⟨j, rfl⟩ : ∃ j, k = j + 1 := ⟨k - 1, by omega⟩
          obtain ⟨y1, y2⟩ := hcell1 j (by omega)
          have hnx : ¬ R S[j] S[j + 1] → apF S = false := fun hn => apF_no S (j + 1) hlt (fun h => hn (h.2 j rfl))
          have hyes : R S[j] S[j + 1] → Hid (∀ i (h : i < S.length), i < j + 1 + 1 → S[i].1 ≤ S[i].2 ∧ ∀ j (hj : i = j + 1), R (S[j]'(by omega)) S[i]) := fun hr => hide (fun i h1 h2 => by
            by_cases hi : i = j + 1
            · subst hi
              refine ⟨by omega, fun j' hj' => ?_⟩
              obtain rfl : j' = j := by omega
              exact hr
            · exact HT.out i h1 (by omega))
          have HNX := hide hnx
          have HYES := hide hyes
          have HR3 := HR2
          clear hnx hyes HT hcell1 HR2
          have hRd : R S[j] S[j + 1] ↔ S[j].1 < S[j + 1].1 ∧ S[j].2 ≤ S[j + 1].1 := Iff.rfl
          have HRD := hide hRd
          clear hRd
          have hj0 : decide ((0 : Int) < (j : Int) + 1) = true := by first | (simp; done) | (simp; omega)
          generalize S[j + 1] = s at *
          generalize S[j] = t at *
          by_cases h1 : s.1 ≤ t.1
          · have g1 : decide (s.1 ≤ t.1) = true := by simp [h1]
            have HNO := hide (HR3.out.trans (HNX.out (fun h => by have := HRD.out.1 h; omega)))
            clear HNX HYES HR3 HRD h1
            go_wp2
            go_quiet (fail)
            go_wp2
            go_quiet (fail)
            go_wp2
            go_ret
            exact ⟨ret_bool HNO.out.symm, bl_trans hb1 (by first | exact bl_drewN hbl _ | exact bl_drewN (bl_drewN hbl _) _)⟩
          · have g1 : decide (s.1 ≤ t.1) = false := by simp; omega
            by_cases h2 : s.1 < t.2
            · have g2 : decide (s.1 < t.2) = true := by simp [h2]
              have HNO := hide (HR3.out.trans (HNX.out (fun h => by have := HRD.out.1 h; omega)))
              clear HNX HYES HR3 HRD h1 h2
              go_wp2
              go_quiet (fail)
              go_wp2
              go_quiet (fail)
              go_wp2
              go_ret
              exact ⟨ret_bool HNO.out.symm, bl_trans hb1 (by first | exact bl_drewN hbl _ | exact bl_drewN (bl_drewN hbl _) _)⟩
            · have g2 : decide (s.1 < t.2) = false := by simp; omega
              have HT2 := HYES.out (HRD.out.2 (by omega))
              clear HNX HYES HR3 HRD h1 h2
              go_wp2
              go_quiet (fail)
              go_wp2
              go_quiet (fail)
              go_wp2
              refine ⟨?_, by first | (simp [intOf]; done) | (simp [intOf]; omega)⟩
              have hbl4 : ∀ p q, Below w1.heap.size w1 ((wr.drewN p).drewN q) := fun p q => bl_drewN (bl_drewN hbl p) q
              first
                | exact ⟨j + 1 + 1, by go_num, by omega, HT2, hbl4 _ _⟩
                | exact ⟨j + 1 + 1, by go_num, by omega, HT2, bl_drewN hbl _⟩
                | ((repeat apply Exists.intro); exact ⟨⟨j + 1 + 1, by go_num, by omega, HT2, hbl4 _ _⟩, rfl⟩)
                | ((repeat apply Exists.intro); exact ⟨⟨j + 1 + 1, by go_num, by omega, HT2, bl_drewN hbl _⟩, rfl⟩)
    · obtain rfl : k = S.length := by omega
      have hyes : apF S = true := (apF_at S).2 (fun i h => HT.out i h h)
      have HNO := hide (HR2.out.trans hyes)
      clear HT hyes HR2 hlt
      go_wp2
      go_ret
      exact ⟨ret_bool HNO.out.symm, bl_trans hb1 hbl⟩
end Go.Proofs.Ytepmkpjpdidfkaa
