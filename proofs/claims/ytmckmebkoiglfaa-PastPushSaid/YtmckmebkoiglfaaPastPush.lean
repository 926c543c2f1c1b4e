/- A push behind some steps back forgets what was ahead, and nothing that is behind. Conditions: none beyond the form's own. -/
import Derived.Test.YtmckmebkoiglfaaRows
import Derived.Test.YtmckmebkoiglfaaArgs
import Derived.Test.YtmckmebkoiglfaaPastB
import Derived.Test.YtmckmebkoiglfaaLow
namespace Go.Proofs.Ytmckmebkoiglfaa.pastPush
open Go.Proofs.Ytmckmebkoiglfaa
open Go.ChangeShapes Go.WideShapes Go.ChangeAt Go.RowKit Go.Deep
open Go.ChangeMaps (open_string shut_string)
set_option linter.unusedVariables false

theorem own : ownKnob Try.prog.godebug = none := by kernel_rfl
theorem laidOut : laidOutB Try.prog = true := by kernel_rfl
-- opt:6000000
theorem take_next (zs : List Int) (k : Nat) (h : k < zs.length) : zs.take (k + 1) = zs.take k ++ [zs.getD k 0] := by
  rw [List.take_succ_eq_append_getElem h]
  simp [List.getD, h]
set_option maxRecDepth 100000 in
set_option maxHeartbeats 6000000 in
theorem walk (a0 : Option Addr) (len0 cap0 : Nat) (z0 : List Int) (a1 : Int) (a2 : Int) (w : World) (w0 : IsInts .i64 w a0 len0 cap0 z0) (w1 : (Lit.int .i64 a1).wf = true) (w2 : (Lit.int .i64 a2).wf = true) :
    Calls Try.prog 5 #[.slice a0 len0 cap0, .int .i64 a1, .int .i64 a2] w fun e w' => e = .returned (.bool true) ∧ Below w.heap.size w w' := by
  by_cases hs : 0 < len0 ∧ len0 ≤ 60
  · obtain ⟨hs1, hs2⟩ := hs
    obtain ⟨bx, off, rfl, hz1, hz2, hz3, hcs⟩ := ints_cell w0 hs1
    obtain ⟨zs, hzs⟩ : ∃ zs, z0.take len0 = zs := ⟨_, rfl⟩
    have hzl : zs.length = len0 := by rw [← hzs]; simp; omega
    have hcz : ∀ i, i < len0 → w.cell? ⟨bx, off + i, none⟩ = some (.int .i64 (zs.getD i 0)) := fun i hi => by
      rw [hcs i (by omega), ← hzs, getD_take z0 len0 i 0 hi]
    have HCZ := hide hcz
    have HZL := hide hzl
    have hnx := hide (take_next zs)
    unfold maxLen at hz3
    have e0 : ((len0 : Int) == 0) = false := by simp; omega
    have e1 : decide ((60 : Int) < (len0 : Int)) = false := by simp; omega
    have hkl := lowN_lt a1 (len0 + 1) (by omega)
    clear hcs hcz hzs hzl w0
    go_enter Try.func5, Try.ntmps5
    go_wp2_with fail
    refine (newI_any 100 _ (by omega) (by omega)).mono ?_
    rintro e w1 ⟨rfl, hb1, hs1', hp1⟩
    go_wp2
    go_loopw [9] (fun i wr => ∃ k : Nat, i = .int .i64 k ∧ k ≤ len0 ∧ PastI wr w.heap.size w.heap.size 100 (zs.take k) [] ∧ Below w.heap.size w wr)
      (fun i _ => len0 - (intOf i).toNat)
    case atStart => exact ⟨0, rfl, Nat.zero_le _, hp1, hb1⟩
    case round =>
      obtain ⟨k, rfl, hk, hp, hbl⟩ := hrel
      have hsz : w.heap.size ≤ wr.heap.size := hbl.size
      by_cases hlt : k < len0
      · have hc := cell_later hbl (HCZ.out k hlt)
        have HNX := hide (hnx.out k (by rw [HZL.out]; exact hlt))
        have HP := hide hp
        have hle : (zs.take k).length ≤ k := List.length_take_le _ _
        clear hp hp1
        go_wp2_with fail
        refine (pushI_any _ w.heap.size 100 (zs.take k) [] (zs.getD k 0) _ HP.out hsz (by omega)).mono ?_
        rintro e w2 ⟨rfl, hb2, hp2⟩
        rw [if_neg (by omega), ← HNX.out] at hp2
        have B2 := bl_low hbl hb2
        go_wp2
        refine ⟨?_, by first | (simp [intOf]; done) | (simp [intOf]; omega)⟩
        first
          | exact ⟨k + 1, by go_num, by omega, hp2, B2⟩
          | ((repeat apply Exists.intro); exact ⟨⟨k + 1, by go_num, by omega, hp2, B2⟩, rfl⟩)
      · obtain rfl : k = len0 := by omega
        have HP := hide hp
        clear hp hp1 hlt
        go_wp2_with fail
        refine (low_any a1 (k + 1) _ (by omega) (by omega)).mono ?_
        rintro e w2 ⟨rfl, rfl⟩
        generalize lowN a1 (k + 1) = n at *
        go_wp2
        go_loopw [11] (fun i wr => ∃ (j : Nat) (L : List Int), i = .int .i64 j ∧ j ≤ n ∧ L.length = j ∧ PastI wr w.heap.size w.heap.size 100 (zs.take (k - j)) L ∧ Below w.heap.size w wr)
          (fun i _ => n - (intOf i).toNat)
        case atStart => exact ⟨0, [], rfl, Nat.zero_le _, rfl, HP.out, hbl⟩
        case round =>
          obtain ⟨j, L, rfl, hj, hL, hp, hbl⟩ := hrel
          have hsz : w.heap.size ≤ wr.heap.size := hbl.size
          by_cases hjn : j < n
          · obtain ⟨m, hm⟩ : ∃ m, k - j = m + 1 := ⟨k - j - 1, by omega⟩
            rw [hm, hnx.out m (by rw [HZL.out]; omega)] at hp
            have hml : (zs.take m).length = m := by rw [List.length_take, HZL.out]; omega
            have hkj : k - (j + 1) = m := by omega
            have HP := hide hp
            have HML := hide hml
            have HKJ := hide hkj
            have HLL := hide hL
            clear hp hml hkj hL
            go_wp2_with fail
            refine (backI_any _ w.heap.size 100 m (zs.take m) L (zs.getD m 0) j _ HP.out HML.out hsz (by omega) (by have := HLL.out; omega)).mono ?_
            rintro e w2 ⟨rfl, hb2, hp2⟩
            have B2 := bl_low hbl hb2
            have hl2 : (L ++ [(j : Int)]).length = j + 1 := by have := HLL.out; simp; omega
            rw [← HKJ.out] at hp2
            go_wp2
            refine ⟨?_, by first | (simp [intOf]; done) | (simp [intOf]; omega)⟩
            first
              | exact ⟨j + 1, L ++ [(j : Int)], by go_num, by omega, hl2, hp2, B2⟩
              | ((repeat apply Exists.intro); exact ⟨⟨j + 1, L ++ [(j : Int)], by go_num, by omega, hl2, hp2, B2⟩, rfl⟩)
          · obtain rfl : j = n := by omega
            have HP := hide hp
            have HLL := hide hL
            have hle : (zs.take (k - j)).length ≤ k := by rw [List.length_take]; omega
            have hle2 : (zs.take (k - j)).length = k - j := by rw [List.length_take, HZL.out]; omega
            have HLE := hide hle2
            clear hp hL hjn hle2
            go_wp2_with fail
            refine (manyI_any _ w.heap.size 100 (zs.take (k - j)) L _ HP.out).mono ?_
            rintro e w2 ⟨rfl, hb2, hp2⟩
            rw [HLL.out]
            have B2 := bl_low hbl hb2
            have s2 : w.heap.size ≤ w2.heap.size := B2.size
            have HP2 := hide hp2
            clear hp2 hb2
            go_wp2_with fail
            refine (pushI_any _ w.heap.size 100 (zs.take (k - j)) L a2 _ HP2.out s2 (by omega)).mono ?_
            rintro e w3 ⟨rfl, hb3, hp3⟩
            rw [if_neg (by omega)] at hp3
            have B3 := bl_low B2 hb3
            have s3 : w.heap.size ≤ w3.heap.size := B3.size
            have HP3 := hide hp3
            clear hp3 hb3
            go_wp2_with fail
            refine (forthI_none _ w.heap.size 100 (zs.take (k - j) ++ [a2]) 7 _ HP3.out).mono ?_
            rintro e w4 ⟨rfl, hb4, hp4⟩
            have B4 := bl_low B3 hb4
            have s4 : w.heap.size ≤ w4.heap.size := B4.size
            have HP4 := hide hp4
            clear hp4 hb4
            go_wp2_with fail
            refine (backI_any _ w.heap.size 100 (k - j) (zs.take (k - j)) [] a2 8 _ HP4.out HLE.out s4 (by omega) (by simp)).mono ?_
            rintro e w5 ⟨rfl, hb5, hp5⟩
            have B5 := bl_low B4 hb5
            clear hb5
            have hnum : ((k : Int) - (j : Int)) = ((k - j : Nat) : Int) := by omega
            have HN := hide hnum
            clear hnum
            go_wp2
            go_loopw [18] (fun i wr => ∃ (m : Nat) (L : List Int), i = .int .i64 ((m : Int) - 1) ∧ m ≤ k - j ∧ L.length + m ≤ 100 ∧ PastI wr w.heap.size w.heap.size 100 (zs.take m) L ∧ Below w.heap.size w wr)
              (fun i _ => (intOf i + 1).toNat)
            case atStart => exact ⟨k - j, _, by rw [← HN.out], Nat.le_refl _, by simp; omega, hp5, B5⟩
            case round =>
              obtain ⟨m, L2, rfl, hm, hL2, hp, hbl⟩ := hrel
              have hsz : w.heap.size ≤ wr.heap.size := hbl.size
              clear hp5 B5
              rcases Nat.eq_zero_or_pos m with rfl | hmp
              · have HP5 := hide hp
                clear hp
                go_wp2_with fail
                refine (backI_none _ w.heap.size 100 L2 0 _ HP5.out).mono ?_
                rintro e w6 ⟨rfl, hb6, hp6⟩
                have B6 := bl_low hbl hb6
                clear hp6 hb6
                go_wp2_with fail
                refine (awake29_any _).mono ?_
                rintro e w7 ⟨rfl, hb7⟩
                go_wp2
                go_ret
                exact ⟨rfl, bl_trans B6 hb7⟩
              · obtain ⟨q, rfl⟩ : ∃ q, m = q + 1 := ⟨m - 1, by omega⟩
                rw [hnx.out q (by rw [HZL.out]; omega)] at hp
                have hml : (zs.take q).length = q := by rw [List.length_take, HZL.out]; omega
                have hc := HCZ.out q (by omega)
                have HP5 := hide hp
                have HML := hide hml
                have hqk : (q : Int) < (k : Int) := by omega
                generalize zs.getD q 0 = y at *
                have hyy : (y != y) = false := by simp
                clear hp hml
                go_wp2_with fail
                refine (backI_any _ w.heap.size 100 q (zs.take q) L2 y 0 _ HP5.out HML.out hsz (by omega) (by omega)).mono ?_
                rintro e w6 ⟨rfl, hb6, hp6⟩
                have B6 := bl_low hbl hb6
                have hc6 := cell_later B6 hc
                have hl6 : (L2 ++ [(0 : Int)]).length + q ≤ 100 := by simp; omega
                clear hb6 hc
                go_wp2
                refine ⟨?_, by first | (simp [intOf]; done) | (simp [intOf]; omega)⟩
                first
                  | exact ⟨q, L2 ++ [(0 : Int)], rfl, by omega, hl6, hp6, B6⟩
                  | ((repeat apply Exists.intro); exact ⟨⟨q, L2 ++ [(0 : Int)], rfl, by omega, hl6, hp6, B6⟩, rfl⟩)
  · have hc : len0 = 0 ∨ 60 < len0 := by omega
    rcases hc with rfl | hc
    · go_enter Try.func5, Try.ntmps5
      go_wp2_with (go_at_call 7; refine (awake29_any _).mono ?_; rintro e w1 ⟨rfl, hb1⟩)
      go_ret
      exact ⟨rfl, hb1⟩
    · have e0 : ((len0 : Int) == 0) = false := by simp; omega
      have e1 : decide ((60 : Int) < (len0 : Int)) = true := by simp; omega
      go_enter Try.func5, Try.ntmps5
      go_wp2_with (go_at_call 7; refine (awake29_any _).mono ?_; rintro e w1 ⟨rfl, hb1⟩)
      go_ret
      exact ⟨rfl, hb1⟩

set_option maxRecDepth 100000 in
theorem lifted (os : Os) (started : os.Started) (H : Type) (enc : TypeId × Value → H) :
    ReturnsInHanded {} Try.checked os 5 .any (Rows.pastPushSpec.pre6 enc Try.prog Try.f5 Rows.pastPushRow.domain false) (Rows.pastPushSpec.post enc Try.prog Try.f5 false true false false) := by
  refine returnsInHanded_of_change (C := Try.checked) own started (by kernel_rfl) Try.func5
    (ChangeSpec.witness6 (enc := enc) (C := Try.checked) false ⟨#[], #[.slice none 0 0, .int .i64 0, .int .i64 0], []⟩ 8 (by kernel_rfl) (by kernel_rfl) (by kernel_rfl) (by kernel_rfl)) ?_
  intro W base args ds gs before hval0 hW hcnd _
  have hval : ∀ (j : Nat) t v, Try.f5.params[j]? = some t → args[j]? = some v → Value.okWide Try.prog W .any base t v := hval0
  have hW' := hW
  obtain ⟨p, q, hA0, hV, rfl, hfz, hnd⟩ := hW
  have hA : DataW.TrodAll enc Try.prog W 0 (fun _ => true) true Try.f5.params.toList args.toList ds p := hA0
  rw [Try.params5] at hA hval
  obtain ⟨v0, vs0, d0, ds0, p0, q0, hargs, rfl, rfl, h0, r0⟩ := trodAll_cons hA
  obtain ⟨v1, vs1, d1, ds1, p1, q1, rfl, rfl, rfl, h1, r1⟩ := trodAll_cons r0
  obtain ⟨v2, vs2, d2, ds2, p2, q2, rfl, rfl, rfl, h2, r2⟩ := trodAll_cons r1
  obtain ⟨rfl, rfl, rfl⟩ := trodAll_nil r2
  obtain rfl : args = #[v0, v1, v2] := by cases args; simp_all
  obtain ⟨rfl, rfl⟩ := trodVars_none hV
  have k0 := h0
  have lt0 : ∀ x ∈ p0, x.block < W.heap.size := by obtain ⟨m, hm⟩ := k0; exact DataW.trod_lt m _ _ _ hm
  obtain ⟨a0, len0, cap0, rfl⟩ := okWide_slice Try.underlying22 (hval 0 22 v0 rfl rfl)
  obtain ⟨z0, w0⟩ : ∃ zs, IsInts .i64 W a0 len0 cap0 zs := by
    obtain ⟨fuel, hf⟩ := h0
    rcases open_ints Try.underlying22 Try.underlying3 (by kernel_rfl) hf with ⟨hcs, _⟩ | ⟨x, l, c, zs, hcs, _, hl, hm, hz, _, hcell, hwz⟩
    · simp [Value.cells] at hcs
      obtain ⟨rfl, rfl, rfl⟩ := hcs
      exact ⟨[], .inl ⟨rfl, rfl, rfl, rfl⟩⟩
    · simp [Value.cells] at hcs
      obtain ⟨rfl, rfl, rfl⟩ := hcs
      exact ⟨zs, .inr ⟨_, rfl, hl, hm, by simpa using hz, hcell, hwz⟩⟩
  have k1 := h1
  have lt1 : ∀ x ∈ p1, x.block < W.heap.size := by obtain ⟨m, hm⟩ := k1; exact DataW.trod_lt m _ _ _ hm
  obtain ⟨a1, rfl, hd1, hp1, w1⟩ := open_int Try.underlying3 (hval 1 3 v1 rfl rfl) h1
  have k2 := h2
  have lt2 : ∀ x ∈ p2, x.block < W.heap.size := by obtain ⟨m, hm⟩ := k2; exact DataW.trod_lt m _ _ _ hm
  obtain ⟨a2, rfl, hd2, hp2, w2⟩ := open_int Try.underlying3 (hval 2 3 v2 rfl rfl) h2
  clear hA0 hval0
  refine (walk a0 len0 cap0 z0 a1 a2 W w0 w1 w2).mono fun e W' ⟨he, bel⟩ => ?_
  subst he
  exact ⟨_, rfl, _, _, _, [], _, [], hW', trodAll_mk1 (shut_bool Try.underlying4 _), (trodAll_cons_mk (Below.trod laidOut (by kernel_rfl) (of_decide_eq_true (by kernel_rfl)) k0 bel lt0) (trodAll_cons_mk (Below.trod laidOut (by kernel_rfl) (of_decide_eq_true (by kernel_rfl)) k1 bel lt1) (trodAll_cons_mk (Below.trod laidOut (by kernel_rfl) (of_decide_eq_true (by kernel_rfl)) k2 bel lt2) trodAll_mk0))), rfl, bel.frame _, fun h => by cases h⟩

theorem over : Rows.pastPushRow.holds Try.pinned (OpenSpec.ofChange Rows.pastPushSpec) :=
  OpenClaim.holds_of_wide 5 Try.f5 rfl rfl rfl rfl rfl rfl rfl ⟨rfl, rfl, rfl, rfl, rfl⟩ rfl rfl rfl rfl rfl (by kernel_rfl) Try.func5 (by kernel_rfl)
    (of_decide_eq_true (by kernel_rfl)) (by unfold Func.isWrapper; first | (rw [if_pos (by decide +kernel)]; kernel_rfl) | (rw [if_neg (by decide +kernel)]; exact ⟨rfl, rfl⟩))
    (fun os started H enc _ => lifted os started H enc)

theorem proved : Rows.PastPushSaid := over
end Go.Proofs.Ytmckmebkoiglfaa.pastPush
