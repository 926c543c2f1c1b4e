/- A lead put ahead of another one, neither with breaks, is as if both were one lead. Conditions: none beyond the form's own. -/
import Derived.Test.YtdlagabepilcfaaRows
import Derived.Test.YtdlagabepilcfaaArgs
import Derived.Test.YtdlagabepilcfaaLeadB
namespace Go.Proofs.Ytdlagabepilcfaa.leadTwice
open Go.Proofs.Ytdlagabepilcfaa
open Go.ChangeShapes Go.WideShapes Go.ChangeAt Go.RowKit Go.Deep
open Go.ChangeMaps (open_string shut_string)
set_option linter.unusedVariables false

theorem own : ownKnob Try.prog.godebug = none := by kernel_rfl
theorem laidOut : laidOutB Try.prog = true := by kernel_rfl
theorem ad_flat (L l : List UInt8) (b : Bool) : adL L [9] l b = l.flatMap (fun c => if c.toNat = 10 then c :: L else [c]) := by
  induction l generalizing b with
  | nil => rfl
  | cons c r ih =>
    rw [adL, List.flatMap_cons]
    by_cases h9 : c.toNat = 9 ∧ b = true
    · rw [if_pos h9, if_neg (by omega), ih]
      have : c = 9 := by apply UInt8.toNat_inj.1; exact h9.1
      rw [this]
    · rw [if_neg h9]
      by_cases h10 : c.toNat = 10
      · rw [if_pos h10, if_pos h10, ih]; rfl
      · rw [if_neg h10, if_neg h10, ih]; rfl
theorem flat_self (A b : List UInt8) (h : ∀ c ∈ b, ¬ c.toNat = 10) : b.flatMap (fun c => if c.toNat = 10 then c :: A else [c]) = b := by
  induction b with
  | nil => rfl
  | cons c r ih =>
    rw [List.flatMap_cons, if_neg (h c (by simp)), ih (fun d hd => h d (by simp [hd]))]; rfl
theorem ad_twice (A B l : List UInt8) (hB : ∀ c ∈ B, ¬ c.toNat = 10) : adL A [9] (adL B [9] l false) false = adL (A ++ B) [9] l false := by
  rw [ad_flat, ad_flat, ad_flat]
  induction l with
  | nil => rfl
  | cons c r ih =>
    rw [List.flatMap_cons, List.flatMap_append, ih, List.flatMap_cons]
    by_cases h10 : c.toNat = 10
    · rw [if_pos h10, if_pos h10, List.flatMap_cons, if_pos h10, flat_self A B hB]; simp
    · rw [if_neg h10, if_neg h10, List.flatMap_cons, if_neg h10]; rfl
theorem ad_len (B l : List UInt8) (b : Bool) (h : B.length ≤ 20) : (adL B [9] l b).length ≤ 21 * l.length := by
  rw [ad_flat]
  induction l with
  | nil => simp
  | cons c r ih =>
    rw [List.flatMap_cons, List.length_append, List.length_cons]
    have h1 : (if c.toNat = 10 then c :: B else [c]).length ≤ 21 := by split <;> simp; omega
    omega
set_option maxRecDepth 100000 in
set_option maxHeartbeats 1000000 in
theorem walk (a0 : ByteArray) (a1 : ByteArray) (a2 : ByteArray) (w : World) (w0 : a0.size ≤ maxLen) (w1 : a1.size ≤ maxLen) (w2 : a2.size ≤ maxLen) :
    Calls Try.prog 6 #[.string a0, .string a1, .string a2] w fun e w' => e = .returned (.bool true) ∧ Below w.heap.size w w' := by
  by_cases hs : a0.size ≤ 80 ∧ a1.size ≤ 20 ∧ a2.size ≤ 20
  · obtain ⟨hs0, hs1, hs2⟩ := hs
    go_enter Try.func6, Try.ntmps6
    go_wp2_with fail
    go_loopw [7] (fun i wr => ∃ (k : Nat), k ≤ a1.size ∧ i = .int .i64 k ∧ w = wr)
      (fun i _ => a1.size - (intOf i).toNat)
    case atStart => exact ⟨0, Nat.zero_le _, rfl, rfl⟩
    case round =>
      obtain ⟨k, hk, rfl, rfl⟩ := hrel
      by_cases hlt : k < a1.size
      · by_cases hc : a1[k].toNat = 10
        · have h10 : ((a1[k].toNat : Int) == 10) = true := by simp; omega
          go_wp2_with fail
          refine (awake24_any _).mono ?_
          rintro e w5 ⟨rfl, hb5⟩
          go_wp2
          go_ret
          exact ⟨rfl, (by repeat (first | exact bl_refl _ | assumption | refine bl_alloc ?_ _ | refine bl_drewN ?_ _ | refine bl_drew ?_ | refine bl_trans ?_ (by assumption)))⟩
        · have h10 : ((a1[k].toNat : Int) == 10) = false := by simp; omega
          go_wp2
          refine ⟨?_, by simp [intOf]; omega⟩
          first
            | exact ⟨k + 1, by omega, by go_num, trivial⟩
            | ((repeat apply Exists.intro); exact ⟨⟨k + 1, by omega, by go_num, trivial⟩, rfl⟩)
      · go_wp2_with fail
        clear hlt hk
        go_loopw [8] (fun i wr => ∃ (j : Nat), j ≤ a2.size ∧ i = .int .i64 j ∧ w = wr ∧ Hid (∀ c ∈ a2.data.toList.take j, ¬ c.toNat = 10))
          (fun i _ => a2.size - (intOf i).toNat)
        case atStart => exact ⟨0, Nat.zero_le _, rfl, rfl, hide (by simp)⟩
        case round =>
          obtain ⟨j, hj, rfl, rfl, HN⟩ := hrel
          by_cases hlt : j < a2.size
          · by_cases hc : a2[j].toNat = 10
            · have h10 : ((a2[j].toNat : Int) == 10) = true := by simp; omega
              go_wp2_with fail
              refine (awake24_any _).mono ?_
              rintro e w5 ⟨rfl, hb5⟩
              go_wp2
              go_ret
              exact ⟨rfl, (by repeat (first | exact bl_refl _ | assumption | refine bl_alloc ?_ _ | refine bl_drewN ?_ _ | refine bl_drew ?_ | refine bl_trans ?_ (by assumption)))⟩
            · have h10 : ((a2[j].toNat : Int) == 10) = false := by simp; omega
              have HN2 : Hid (∀ c ∈ a2.data.toList.take (j + 1), ¬ c.toNat = 10) := hide (by
                have hjl : j < a2.data.toList.length := by simpa using hlt
                rw [List.take_succ_eq_append_getElem hjl]
                intro c hcm
                rcases List.mem_append.1 hcm with h | h
                · exact HN.out c h
                · rw [List.mem_singleton] at h; subst h; exact hc)
              clear HN
              go_wp2
              refine ⟨?_, by simp [intOf]; omega⟩
              first
                | exact ⟨j + 1, by omega, by go_num, by first | rfl | trivial, HN2⟩
                | ((repeat apply Exists.intro); exact ⟨⟨j + 1, by omega, by go_num, by first | rfl | trivial, HN2⟩, rfl⟩)
          · have HB : Hid (∀ c ∈ a2.data.toList, ¬ c.toNat = 10) := hide (by
              have h := HN.out
              rwa [List.take_of_length_le (by rw [len_data]; omega)] at h)
            clear HN hj
            obtain ⟨X, hX⟩ : ∃ X : ByteArray, (⟨(adL a2.data.toList [9] a0.data.toList false).toArray⟩ : ByteArray) = X := ⟨_, rfl⟩
            obtain ⟨Y, hY⟩ : ∃ Y : ByteArray, (⟨(adL (a1 ++ a2).data.toList [9] a0.data.toList false).toArray⟩ : ByteArray) = Y := ⟨_, rfl⟩
            have hXs : X.size ≤ 1680 := by
              rw [← hX]
              show (adL a2.data.toList [9] a0.data.toList false).toArray.size ≤ 1680
              rw [List.size_toArray]
              have := ad_len a2.data.toList a0.data.toList false (by rw [len_data]; omega)
              rw [len_data] at this
              omega
            have hXY : (⟨(adL a1.data.toList [9] X.data.toList false).toArray⟩ : ByteArray) = Y := by
              rw [← hX, ← hY]
              show (⟨(adL a1.data.toList [9] (adL a2.data.toList [9] a0.data.toList false) false).toArray⟩ : ByteArray) = _
              rw [ad_twice _ _ _ HB.out]
              first
                | (congr 2; done)
                | (congr 2; rw [ByteArray.toList_data_append])
            have HX := hide hX
            have HY := hide hY
            have HXY := hide hXY
            clear hX hY hXY HB
            go_wp2_with fail
            refine (adaptx_any a0 a2 ⟨#[]⟩ X _ (by omega) (by omega) (by decide) HX.out).mono ?_
            rintro e w3 ⟨rfl, hb3⟩
            go_wp2_with fail
            refine (adaptx_any X a1 ⟨#[]⟩ Y _ (by omega) (by omega) (by decide) HXY.out).mono ?_
            rintro e w4 ⟨rfl, hb4⟩
            go_wp2_with fail
            refine (adaptx_any a0 (a1 ++ a2) ⟨#[]⟩ Y _ (by omega) (by rw [ByteArray.size_append]; omega) (by decide) HY.out).mono ?_
            rintro e w6 ⟨rfl, hb6⟩
            go_wp2_with fail
            refine (awake24_any _).mono ?_
            rintro e w5 ⟨rfl, hb5⟩
            go_wp2
            go_ret
            exact ⟨rfl, (by repeat (first | exact bl_refl _ | assumption | refine bl_alloc ?_ _ | refine bl_drewN ?_ _ | refine bl_drew ?_ | refine bl_trans ?_ (by assumption)))⟩
  · have hs1 : 80 < a0.size ∨ 20 < a1.size ∨ 20 < a2.size := by omega
    go_enter Try.func6, Try.ntmps6
    go_wp2_with fail
    all_goals
      refine (awake24_any _).mono ?_
      rintro e w1 ⟨rfl, hb1⟩
      go_wp2
      go_ret
      exact ⟨rfl, hb1⟩

set_option maxRecDepth 100000 in
theorem lifted (os : Os) (started : os.Started) (H : Type) (enc : TypeId × Value → H) :
    ReturnsInHanded {} Try.checked os 6 .any (Rows.leadTwiceSpec.pre6 enc Try.prog Try.f6 Rows.leadTwiceRow.domain false) (Rows.leadTwiceSpec.post enc Try.prog Try.f6 false true false false) := by
  refine returnsInHanded_of_change (C := Try.checked) own started (by kernel_rfl) Try.func6
    (ChangeSpec.witness6 (enc := enc) (C := Try.checked) false ⟨#[], #[.string ByteArray.empty, .string ByteArray.empty, .string ByteArray.empty], []⟩ 8 (by kernel_rfl) (by kernel_rfl) (by kernel_rfl) (by kernel_rfl)) ?_
  intro W base args ds gs before hval0 hW hcnd _
  have hval : ∀ (j : Nat) t v, Try.f6.params[j]? = some t → args[j]? = some v → Value.okWide Try.prog W .any base t v := hval0
  have hW' := hW
  obtain ⟨p, q, hA0, hV, rfl, hfz, hnd⟩ := hW
  have hA : DataW.TrodAll enc Try.prog W 0 (fun _ => true) true Try.f6.params.toList args.toList ds p := hA0
  rw [Try.params6] at hA hval
  obtain ⟨v0, vs0, d0, ds0, p0, q0, hargs, rfl, rfl, h0, r0⟩ := trodAll_cons hA
  obtain ⟨v1, vs1, d1, ds1, p1, q1, rfl, rfl, rfl, h1, r1⟩ := trodAll_cons r0
  obtain ⟨v2, vs2, d2, ds2, p2, q2, rfl, rfl, rfl, h2, r2⟩ := trodAll_cons r1
  obtain ⟨rfl, rfl, rfl⟩ := trodAll_nil r2
  obtain rfl : args = #[v0, v1, v2] := by cases args; simp_all
  obtain ⟨rfl, rfl⟩ := trodVars_none hV
  have k0 := h0
  have lt0 : ∀ x ∈ p0, x.block < W.heap.size := by obtain ⟨m, hm⟩ := k0; exact DataW.trod_lt m _ _ _ hm
  obtain ⟨a0, rfl, hd0, hp0, w0⟩ := open_string Try.underlying9 (hval 0 9 v0 rfl rfl) h0
  have k1 := h1
  have lt1 : ∀ x ∈ p1, x.block < W.heap.size := by obtain ⟨m, hm⟩ := k1; exact DataW.trod_lt m _ _ _ hm
  obtain ⟨a1, rfl, hd1, hp1, w1⟩ := open_string Try.underlying9 (hval 1 9 v1 rfl rfl) h1
  have k2 := h2
  have lt2 : ∀ x ∈ p2, x.block < W.heap.size := by obtain ⟨m, hm⟩ := k2; exact DataW.trod_lt m _ _ _ hm
  obtain ⟨a2, rfl, hd2, hp2, w2⟩ := open_string Try.underlying9 (hval 2 9 v2 rfl rfl) h2
  clear hA0 hval0
  refine (walk a0 a1 a2 W w0 w1 w2).mono fun e W' ⟨he, bel⟩ => ?_
  subst he
  exact ⟨_, rfl, _, _, _, [], _, [], hW', trodAll_mk1 (shut_bool Try.underlying4 _), (trodAll_cons_mk (Below.trod laidOut (by kernel_rfl) (of_decide_eq_true (by kernel_rfl)) k0 bel lt0) (trodAll_cons_mk (Below.trod laidOut (by kernel_rfl) (of_decide_eq_true (by kernel_rfl)) k1 bel lt1) (trodAll_cons_mk (Below.trod laidOut (by kernel_rfl) (of_decide_eq_true (by kernel_rfl)) k2 bel lt2) trodAll_mk0))), rfl, bel.frame _, fun h => by cases h⟩

theorem over : Rows.leadTwiceRow.holds Try.pinned (OpenSpec.ofChange Rows.leadTwiceSpec) :=
  OpenClaim.holds_of_wide 6 Try.f6 rfl rfl rfl rfl rfl rfl rfl ⟨rfl, rfl, rfl, rfl, rfl⟩ rfl rfl rfl rfl rfl (by kernel_rfl) Try.func6 (by kernel_rfl)
    (of_decide_eq_true (by kernel_rfl)) (by unfold Func.isWrapper; first | (rw [if_pos (by decide +kernel)]; kernel_rfl) | (rw [if_neg (by decide +kernel)]; exact ⟨rfl, rfl⟩))
    (fun os started H enc _ => lifted os started H enc)

theorem proved : Rows.LeadTwiceSaid := over
end Go.Proofs.Ytdlagabepilcfaa.leadTwice
