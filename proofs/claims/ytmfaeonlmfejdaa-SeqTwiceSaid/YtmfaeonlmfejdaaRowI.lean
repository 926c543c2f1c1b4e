/- Contracts: the reference's May and Has; Has; the named classes. No condition but short texts and slices. -/
import Derived.Test.YtmfaeonlmfejdaaRowH
namespace Go.Proofs.Ytmfaeonlmfejdaa
open Go.ChangeShapes Go.WideShapes Go.ChangeAt Go.RowKit
open SetM
attribute [local go_sem ↓] Go.wp_at_zero Go.wp_at_succ
attribute [local go_sem] later_cell later_frozen lt_bl le_bl
theorem rfolde_any (s X : ByteArray) (w : World) (hs : s.size ≤ 1000000) (hX : mapS downB s = X) :
    Calls Try.prog 71 #[.string s] w fun e w' => e = .returned (.string X) ∧ Below w.heap.size w w' := by
  subst hX; exact rfold_any s w hs
set_option maxRecDepth 100000 in
set_option maxHeartbeats 8000000 in
theorem rmays_any (v : Value) (l : List Rw) (r : Bool) (w : World) (h : RwAt w v l) (hl : l.length ≤ 100000) (hsh : ∀ s ∈ l, Short s) (hr : mayF l = r) :
    Calls Try.prog 40 #[v] w fun e w' => e = .returned (.bool r) ∧ Below w.heap.size w w' := by
  have HW := hide h
  have HSH := hide hsh
  have HR := hide hr
  obtain ⟨aA, cA, rfl⟩ := rwat_len h
  clear h hsh hr
  go_enter Try.func40, Try.ntmps40
  go_wp2
  go_loopw [3] (fun i wr => ∃ k : Nat, i = .int .i64 k ∧ k ≤ l.length ∧ Hid (upto l k) ∧ Below w.heap.size w wr) (fun i _ => l.length - (intOf i).toNat)
  case atStart => exact ⟨0, rfl, Nat.zero_le _, hide (fun i h1 h2 => by omega), bl_refl w⟩
  case round =>
    obtain ⟨k, rfl, hk, HT, hbl⟩ := hrel
    by_cases hlt : k < l.length
    · obtain ⟨b1, o1, c1, hv1, hc1, hm1, hlb1, hcell1⟩ := rwat_some (rwat_below HW.out hbl) (by omega)
      injection hv1 with hv1 _ hv1c
      subst hv1 hv1c
      unfold maxLen at hm1
      obtain ⟨x1, x2⟩ := hcell1 k hlt
      have hss := HSH.out l[k] (List.getElem_mem hlt)
      have hs1 : l[k].1.size ≤ 100000 := hss.1
      have hs2 : l[k].2.size ≤ 100000 := hss.2
      obtain ⟨p1, hp1⟩ : ∃ p, properB l[k].1.data.toList = p := ⟨_, rfl⟩
      obtain ⟨p2, hp2⟩ : ∃ p, properB l[k].2.data.toList = p := ⟨_, rfl⟩
      obtain ⟨p3, hp3⟩ : ∃ p, bl l[k].2 l[k].1 = p := ⟨_, rfl⟩
      have hrow : rowB l[k] = (p1 && p2 && !p3) := by rw [← hp1, ← hp2, ← hp3]; rfl
      have HROW := hide hrow
      have hbl2 := bl_alloc hbl (.cells #[.string l[k].1, .string l[k].2] 43)
      have HP1 := hide hp1
      have HP2 := hide hp2
      clear hp1 hp2 hrow hss
      by_cases hbad : (p1 && p2 && !p3) = false
      · have HF := hide (HR.out.symm.trans (mayF_no1 l k hlt (HROW.out.trans hbad)))
        clear hcell1 HT HR HROW
        generalize l[k] = s at *
        cases p1
        · clear hbad hp3
          go_wp2
          refine wp_region_later (by kernel_rfl) (by kernel_rfl) ?_
          repeat (go_big_quiet_step (first | (go_at_call 39; exact later_call (rproper_any _ _ _ (by first | exact hs1 | exact hs2) (by first | exact HP1.out | exact HP2.out))) | exact rfl))
          refine wpQuiet_nil ?_
          rintro w9 ⟨⟨_, hb9⟩, rfl⟩
          go_wp2
          go_ret
          exact ⟨ret_bool HF.out.symm, bl_trans hbl2 hb9⟩
        · cases p2
          · clear hbad hp3
            go_wp2
            refine wp_region_later (by kernel_rfl) (by kernel_rfl) ?_
            repeat (go_big_quiet_step (first | (go_at_call 39; exact later_call (rproper_any _ _ _ (by first | exact hs1 | exact hs2) (by first | exact HP1.out | exact HP2.out))) | exact rfl))
            refine wpQuiet_nil ?_
            rintro w9 ⟨⟨_, hb9⟩, rfl⟩
            go_wp2
            go_ret
            exact ⟨ret_bool HF.out.symm, bl_trans hbl2 hb9⟩
          · cases p3
            · cases hbad
            · clear hbad
              go_wp2
              refine wp_region_later (by kernel_rfl) (by kernel_rfl) ?_
              repeat (go_big_quiet_step (first | (go_at_call 39; exact later_call (rproper_any _ _ _ (by first | exact hs1 | exact hs2) (by first | exact HP1.out | exact HP2.out))) | exact rfl))
              refine wpQuiet_nil ?_
              rintro w9 ⟨⟨_, hb9⟩, rfl⟩
              go_wp2
              go_ret
              exact ⟨ret_bool HF.out.symm, bl_trans hbl2 hb9⟩
      · obtain ⟨rfl, rfl, rfl⟩ : p1 = true ∧ p2 = true ∧ p3 = false := by
          cases p1 <;> cases p2 <;> cases p3 <;> simp at hbad ⊢
        clear hbad
        rcases Nat.eq_zero_or_pos k with hk0 | hk0
        · subst hk0
          have HT2 := hide (upto_next l 0 HT.out hlt (HROW.out.trans rfl) (fun j hj => by omega))
          clear hcell1 HT HR HROW
          rw [Nat.zero_mul, Nat.add_zero] at x1 x2
          generalize l[0] = s at *
          go_wp2
          refine wp_region_later (by kernel_rfl) (by kernel_rfl) ?_
          repeat (go_big_quiet_step (first | (go_at_call 39; exact later_call (rproper_any _ _ _ (by first | exact hs1 | exact hs2) (by first | exact HP1.out | exact HP2.out))) | exact rfl))
          refine wpQuiet_nil ?_
          rintro w9 ⟨⟨_, hb9⟩, rfl⟩
          have hb10 := bl_trans hbl2 hb9
          go_wp2
          refine ⟨?_, by first | (simp [intOf]; done) | (simp [intOf]; omega)⟩
          first
            | exact ⟨0 + 1, by go_num, by omega, HT2, hb10⟩
            | ((repeat apply Exists.intro); exact ⟨⟨0 + 1, by go_num, by omega, HT2, hb10⟩, rfl⟩)
        · obtain ⟨j, rfl⟩ : ∃ j, k = j + 1 := ⟨k - 1, by omega⟩
          obtain ⟨y1, y2⟩ := hcell1 j (by omega)
          have hj0 : decide ((0 : Int) < (j : Int) + 1) = true := by first | (simp; done) | (simp; omega)
          obtain ⟨q, hq⟩ : ∃ q, bl l[j].2 l[j + 1].1 = q := ⟨_, rfl⟩
          have HNX := hide (show q = false → r = false from fun e => HR.out.symm.trans (mayF_no2 l j hlt (hq.trans e)))
          have HYES := hide (show q = true → upto l (j + 1 + 1) from fun e => upto_next l (j + 1) HT.out hlt (HROW.out.trans rfl) (fun j' hj' => by
            obtain rfl : j' = j := by omega
            exact hq.trans e))
          clear hcell1 HT HR HROW
          generalize l[j + 1] = s at *
          generalize l[j] = t at *
          cases q
          · have HF := hide (HNX.out rfl)
            clear HNX HYES
            go_wp2
            refine wp_region_later (by kernel_rfl) (by kernel_rfl) ?_
            repeat (go_big_quiet_step (first | (go_at_call 39; exact later_call (rproper_any _ _ _ (by first | exact hs1 | exact hs2) (by first | exact HP1.out | exact HP2.out))) | exact rfl))
            refine wpQuiet_nil ?_
            rintro w9 ⟨⟨_, hb9⟩, rfl⟩
            go_wp2
            go_ret
            exact ⟨ret_bool HF.out.symm, bl_trans hbl2 hb9⟩
          · have HT2 := hide (HYES.out rfl)
            clear HNX HYES
            go_wp2
            refine wp_region_later (by kernel_rfl) (by kernel_rfl) ?_
            repeat (go_big_quiet_step (first | (go_at_call 39; exact later_call (rproper_any _ _ _ (by first | exact hs1 | exact hs2) (by first | exact HP1.out | exact HP2.out))) | exact rfl))
            refine wpQuiet_nil ?_
            rintro w9 ⟨⟨_, hb9⟩, rfl⟩
            have hb10 := bl_trans hbl2 hb9
            go_wp2
            refine ⟨?_, by first | (simp [intOf]; done) | (simp [intOf]; omega)⟩
            first
              | exact ⟨j + 1 + 1, by go_num, by omega, HT2, hb10⟩
              | ((repeat apply Exists.intro); exact ⟨⟨j + 1 + 1, by go_num, by omega, HT2, hb10⟩, rfl⟩)
    · obtain rfl : k = l.length := by omega
      have HF := hide (HR.out.symm.trans (upto_all l HT.out))
      clear HT HR hlt
      go_wp2
      go_ret
      exact ⟨ret_bool HF.out.symm, hbl⟩
def hasF (l : List Rw) (no fold : Bool) (c : ByteArray) : Bool := (inB l c || (fold && (inB l (mapS downB c) || inB l (mapS upB c)))) != no
end Go.Proofs.Ytmfaeonlmfejdaa
