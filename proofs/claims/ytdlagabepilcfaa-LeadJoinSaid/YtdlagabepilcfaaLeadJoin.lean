/- Two texts, the first of which ends with no break nor with tabs behind one, are adapted side by side as each by itself. Conditions: none beyond the form's own. -/
import Derived.Test.YtdlagabepilcfaaRows
import Derived.Test.YtdlagabepilcfaaArgs
import Derived.Test.YtdlagabepilcfaaLeadB
namespace Go.Proofs.Ytdlagabepilcfaa.leadJoin
open Go.Proofs.Ytdlagabepilcfaa
open Go.ChangeShapes Go.WideShapes Go.ChangeAt Go.RowKit Go.Deep
open Go.ChangeMaps (open_string shut_string)
set_option linter.unusedVariables false

theorem own : ownKnob Try.prog.godebug = none := by kernel_rfl
theorem laidOut : laidOutB Try.prog = true := by kernel_rfl
def stB (b : Bool) (c : UInt8) : Bool := if c.toNat = 9 ∧ b = true then true else decide (c.toNat = 10)
def adS (l : List UInt8) (b : Bool) : Bool := l.foldl stB b
theorem ad_app (L U S T : List UInt8) (b : Bool) : adL L U (S ++ T) b = adL L U S b ++ adL L U T (adS S b) := by
  induction S generalizing b with
  | nil => rfl
  | cons c r ih =>
    have h1 : adS (c :: r) b = adS r (stB b c) := rfl
    rw [List.cons_append, adL, adL, h1]
    by_cases h9 : c.toNat = 9 ∧ b = true
    · rw [if_pos h9, if_pos h9, ih, stB, if_pos h9, List.append_assoc]
    · rw [if_neg h9, if_neg h9, stB, if_neg h9]
      by_cases h10 : c.toNat = 10
      · rw [if_pos h10, if_pos h10, ih, decide_eq_true h10]; simp
      · rw [if_neg h10, if_neg h10, ih, decide_eq_false h10]; simp
theorem ads_tab (l : List UInt8) (k : Nat) (h : k < l.length) (h9 : l[k].toNat = 9) : adS (l.take (k + 1)) false = adS (l.take k) false := by
  rw [List.take_succ_eq_append_getElem h, adS, List.foldl_append]
  show stB (adS (l.take k) false) l[k] = _
  unfold stB
  cases adS (l.take k) false
  · rw [if_neg (by simp), decide_eq_false (by omega)]
  · rw [if_pos ⟨h9, rfl⟩]
theorem ads_else (l : List UInt8) (k : Nat) (h : k < l.length) (h9 : ¬ l[k].toNat = 9) (h10 : ¬ l[k].toNat = 10) : adS (l.take (k + 1)) false = false := by
  rw [List.take_succ_eq_append_getElem h, adS, List.foldl_append]
  show stB (adS (l.take k) false) l[k] = _
  unfold stB
  rw [if_neg (by omega), decide_eq_false h10]
theorem ad_size (L U l : List UInt8) (b : Bool) (hL : L.length ≤ 20) (hU : U.length ≤ 20) : (adL L U l b).length ≤ 21 * l.length := by
  induction l generalizing b with
  | nil => simp [adL]
  | cons c r ih =>
    rw [adL, List.length_cons]
    have h1 := ih true
    have h2 := ih false
    split
    · rw [List.length_append]; omega
    · split
      · rw [List.length_cons, List.length_append]; omega
      · rw [List.length_cons]; omega
theorem un_size (U : List UInt8) (h : U.length ≤ 20) : (unL U).length ≤ 20 := by
  unfold unL; split <;> simp_all
set_option maxRecDepth 100000 in
set_option maxHeartbeats 1000000 in
theorem walk (a0 : ByteArray) (a1 : ByteArray) (a2 : ByteArray) (a3 : ByteArray) (w : World) (w0 : a0.size ≤ maxLen) (w1 : a1.size ≤ maxLen) (w2 : a2.size ≤ maxLen) (w3 : a3.size ≤ maxLen) :
    Calls Try.prog 7 #[.string a0, .string a1, .string a2, .string a3] w fun e w' => e = .returned (.bool true) ∧ Below w.heap.size w w' := by
  by_cases hs : a0.size ≤ 60 ∧ a1.size ≤ 60 ∧ a2.size ≤ 20 ∧ a3.size ≤ 20
  · obtain ⟨hs0, hs1, hs2, hs3⟩ := hs
    go_enter Try.func7, Try.ntmps7
    go_wp2_with fail
    go_loopw [9] (fun i wr => ∃ (k : Nat), k ≤ a0.size ∧ i = .int .i64 k ∧ w = wr ∧ Hid (adS a0.data.toList false = adS (a0.data.toList.take k) false))
      (fun i _ => (intOf i).toNat)
    case atStart => exact ⟨a0.size, Nat.le_refl _, rfl, rfl, hide (by rw [List.take_of_length_le (by rw [len_data]; omega)])⟩
    case round =>
      obtain ⟨k, hk, rfl, rfl, HS⟩ := hrel
      rcases Nat.eq_zero_or_pos k with rfl | hpos
      · have e0 : decide ((0 : Int) < ((0 : Nat) : Int)) = false := rfl
        have HST : Hid (adS a0.data.toList false = false) := hide (by rw [HS.out]; rfl)
        obtain ⟨X, hX⟩ : ∃ X : ByteArray, (⟨(adL a2.data.toList (unL a3.data.toList) a0.data.toList false).toArray⟩ : ByteArray) = X := ⟨_, rfl⟩
        obtain ⟨Y, hY⟩ : ∃ Y : ByteArray, (⟨(adL a2.data.toList (unL a3.data.toList) a1.data.toList false).toArray⟩ : ByteArray) = Y := ⟨_, rfl⟩
        have hL2 : a2.data.toList.length ≤ 20 := by rw [len_data]; omega
        have hU2 : (unL a3.data.toList).length ≤ 20 := un_size _ (by rw [len_data]; omega)
        have hXs : X.size ≤ 1260 := by
          rw [← hX]
          show (adL a2.data.toList (unL a3.data.toList) a0.data.toList false).toArray.size ≤ 1260
          rw [List.size_toArray]
          have := ad_size a2.data.toList (unL a3.data.toList) a0.data.toList false hL2 hU2
          rw [len_data] at this
          omega
        have hYs : Y.size ≤ 1260 := by
          rw [← hY]
          show (adL a2.data.toList (unL a3.data.toList) a1.data.toList false).toArray.size ≤ 1260
          rw [List.size_toArray]
          have := ad_size a2.data.toList (unL a3.data.toList) a1.data.toList false hL2 hU2
          rw [len_data] at this
          omega
        have hXY : (⟨(adL a2.data.toList (unL a3.data.toList) (a0 ++ a1).data.toList false).toArray⟩ : ByteArray) = X ++ Y := by
          rw [← hX, ← hY, ByteArray.toList_data_append, ad_app, HST.out]
          apply ByteArray.ext
          apply Array.ext'
          rw [ByteArray.toList_data_append]
        have HX := hide hX
        have HY := hide hY
        have HXY := hide hXY
        clear hX hY hXY HS HST hL2 hU2
        go_wp2_with fail
        refine (adaptx_any (a0 ++ a1) a2 a3 (X ++ Y) _ (by rw [ByteArray.size_append]; omega) (by omega) (by omega) HXY.out).mono ?_
        rintro e w3 ⟨rfl, hb3⟩
        go_wp2_with fail
        refine (adaptx_any a0 a2 a3 X _ (by omega) (by omega) (by omega) HX.out).mono ?_
        rintro e w4 ⟨rfl, hb4⟩
        go_wp2_with fail
        refine (adaptx_any a1 a2 a3 Y _ (by omega) (by omega) (by omega) HY.out).mono ?_
        rintro e w6 ⟨rfl, hb6⟩
        go_wp2_with fail
        refine (awake24_any _).mono ?_
        rintro e w5 ⟨rfl, hb5⟩
        go_wp2
        go_ret
        exact ⟨rfl, (by repeat (first | exact bl_refl _ | assumption | refine bl_alloc ?_ _ | refine bl_drewN ?_ _ | refine bl_drew ?_ | refine bl_trans ?_ (by assumption)))⟩
      · obtain ⟨p, rfl⟩ : ∃ p, k = p + 1 := ⟨k - 1, by omega⟩
        have hp : p < a0.size := by omega
        have hpl : p < a0.data.toList.length := by simpa using hp
        have hsk : a0.data.toList[p] = a0[p] := rfl
        have HT := hide (ads_tab a0.data.toList p hpl)
        have HN := hide (ads_else a0.data.toList p hpl)
        rw [hsk] at HT HN
        clear hsk hpos
        by_cases h9 : a0[p].toNat = 9
        · have e9 : ((a0[p].toNat : Int) == 9) = true := by simp; omega
          have HS2 : Hid (adS a0.data.toList false = adS (a0.data.toList.take p) false) := hide (by rw [HS.out, HT.out h9])
          clear HS HT HN h9
          go_wp2
          refine ⟨?_, by simp [intOf]; try omega⟩
          first
            | exact ⟨p, by omega, by go_num, by first | rfl | trivial, HS2⟩
            | ((repeat apply Exists.intro); exact ⟨⟨p, by omega, by go_num, by first | rfl | trivial, HS2⟩, rfl⟩)
        · have e9 : ((a0[p].toNat : Int) == 9) = false := by simp; omega
          by_cases h10 : a0[p].toNat = 10
          · have e10 : ((a0[p].toNat : Int) == 10) = true := by simp; omega
            clear HS HT HN h9 h10
            go_wp2_with fail
            refine (awake24_any _).mono ?_
            rintro e w5 ⟨rfl, hb5⟩
            go_wp2
            go_ret
            exact ⟨rfl, (by repeat (first | exact bl_refl _ | assumption | refine bl_alloc ?_ _ | refine bl_drewN ?_ _ | refine bl_drew ?_ | refine bl_trans ?_ (by assumption)))⟩
          · have e10 : ((a0[p].toNat : Int) == 10) = false := by simp; omega
            have HNO := hide (HN.out h9 h10)
            clear HT HN h9 h10
            have HST : Hid (adS a0.data.toList false = false) := hide (by rw [HS.out]; exact HNO.out)
            obtain ⟨X, hX⟩ : ∃ X : ByteArray, (⟨(adL a2.data.toList (unL a3.data.toList) a0.data.toList false).toArray⟩ : ByteArray) = X := ⟨_, rfl⟩
            obtain ⟨Y, hY⟩ : ∃ Y : ByteArray, (⟨(adL a2.data.toList (unL a3.data.toList) a1.data.toList false).toArray⟩ : ByteArray) = Y := ⟨_, rfl⟩
            have hL2 : a2.data.toList.length ≤ 20 := by rw [len_data]; omega
            have hU2 : (unL a3.data.toList).length ≤ 20 := un_size _ (by rw [len_data]; omega)
            have hXs : X.size ≤ 1260 := by
              rw [← hX]
              show (adL a2.data.toList (unL a3.data.toList) a0.data.toList false).toArray.size ≤ 1260
              rw [List.size_toArray]
              have := ad_size a2.data.toList (unL a3.data.toList) a0.data.toList false hL2 hU2
              rw [len_data] at this
              omega
            have hYs : Y.size ≤ 1260 := by
              rw [← hY]
              show (adL a2.data.toList (unL a3.data.toList) a1.data.toList false).toArray.size ≤ 1260
              rw [List.size_toArray]
              have := ad_size a2.data.toList (unL a3.data.toList) a1.data.toList false hL2 hU2
              rw [len_data] at this
              omega
            have hXY : (⟨(adL a2.data.toList (unL a3.data.toList) (a0 ++ a1).data.toList false).toArray⟩ : ByteArray) = X ++ Y := by
              rw [← hX, ← hY, ByteArray.toList_data_append, ad_app, HST.out]
              apply ByteArray.ext
              apply Array.ext'
              rw [ByteArray.toList_data_append]
            have HX := hide hX
            have HY := hide hY
            have HXY := hide hXY
            clear hX hY hXY HS HST HNO hL2 hU2
            go_wp2_with fail
            refine (adaptx_any (a0 ++ a1) a2 a3 (X ++ Y) _ (by rw [ByteArray.size_append]; omega) (by omega) (by omega) HXY.out).mono ?_
            rintro e w3 ⟨rfl, hb3⟩
            go_wp2_with fail
            refine (adaptx_any a0 a2 a3 X _ (by omega) (by omega) (by omega) HX.out).mono ?_
            rintro e w4 ⟨rfl, hb4⟩
            go_wp2_with fail
            refine (adaptx_any a1 a2 a3 Y _ (by omega) (by omega) (by omega) HY.out).mono ?_
            rintro e w6 ⟨rfl, hb6⟩
            go_wp2_with fail
            refine (awake24_any _).mono ?_
            rintro e w5 ⟨rfl, hb5⟩
            go_wp2
            go_ret
            exact ⟨rfl, (by repeat (first | exact bl_refl _ | assumption | refine bl_alloc ?_ _ | refine bl_drewN ?_ _ | refine bl_drew ?_ | refine bl_trans ?_ (by assumption)))⟩
  · have hs1 : 60 < a0.size ∨ 60 < a1.size ∨ 20 < a2.size ∨ 20 < a3.size := by omega
    go_enter Try.func7, Try.ntmps7
    go_wp2_with fail
    all_goals
      refine (awake24_any _).mono ?_
      rintro e w1 ⟨rfl, hb1⟩
      go_wp2
      go_ret
      exact ⟨rfl, hb1⟩

set_option maxRecDepth 100000 in
theorem lifted (os : Os) (started : os.Started) (H : Type) (enc : TypeId × Value → H) :
    ReturnsInHanded {} Try.checked os 7 .any (Rows.leadJoinSpec.pre6 enc Try.prog Try.f7 Rows.leadJoinRow.domain false) (Rows.leadJoinSpec.post enc Try.prog Try.f7 false true false false) := by
  refine returnsInHanded_of_change (C := Try.checked) own started (by kernel_rfl) Try.func7
    (ChangeSpec.witness6 (enc := enc) (C := Try.checked) false ⟨#[], #[.string ByteArray.empty, .string ByteArray.empty, .string ByteArray.empty, .string ByteArray.empty], []⟩ 8 (by kernel_rfl) (by kernel_rfl) (by kernel_rfl) (by kernel_rfl)) ?_
  intro W base args ds gs before hval0 hW hcnd _
  have hval : ∀ (j : Nat) t v, Try.f7.params[j]? = some t → args[j]? = some v → Value.okWide Try.prog W .any base t v := hval0
  have hW' := hW
  obtain ⟨p, q, hA0, hV, rfl, hfz, hnd⟩ := hW
  have hA : DataW.TrodAll enc Try.prog W 0 (fun _ => true) true Try.f7.params.toList args.toList ds p := hA0
  rw [Try.params7] at hA hval
  obtain ⟨v0, vs0, d0, ds0, p0, q0, hargs, rfl, rfl, h0, r0⟩ := trodAll_cons hA
  obtain ⟨v1, vs1, d1, ds1, p1, q1, rfl, rfl, rfl, h1, r1⟩ := trodAll_cons r0
  obtain ⟨v2, vs2, d2, ds2, p2, q2, rfl, rfl, rfl, h2, r2⟩ := trodAll_cons r1
  obtain ⟨v3, vs3, d3, ds3, p3, q3, rfl, rfl, rfl, h3, r3⟩ := trodAll_cons r2
  obtain ⟨rfl, rfl, rfl⟩ := trodAll_nil r3
  obtain rfl : args = #[v0, v1, v2, v3] := by cases args; simp_all
  obtain ⟨rfl, rfl⟩ := trodVars_none hV
  have k0 := h0
  have lt0 : ∀ x ∈ p0, x.block < W.heap.size := by obtain ⟨m, hm⟩ := k0; exact DataW.trod_lt m _ _ _ hm
  obtain ⟨a0, rfl, hd0, hp0, w0⟩ := open_string Try.underlying9 (hval 0 9 v0 rfl rfl) h0
  have k1 := h1
  have lt1 : ∀ x ∈ p1, x.block < W.heap.size := by obtain ⟨m, hm⟩ := k1; exact DataW.trod_lt m _ _ _ hm
  obtain ⟨a1, rfl, hd1, hp1, w1⟩ := open_string Try.underlying9 (hval 1 9 v1 rfl rfl) h1
  have k2 := h2
  have lt2 : ∀ x ∈ p2, x.block < W.heap.size := by obtain ⟨m, hm⟩ := k2; exact DataW.trod_lt m _ _ _ hm
  obtain ⟨a2, rfl, hd2, hp2, w2⟩ := open_string Try.underlying9 (hval 2 9 v2 rfl rfl) h2
  have k3 := h3
  have lt3 : ∀ x ∈ p3, x.block < W.heap.size := by obtain ⟨m, hm⟩ := k3; exact DataW.trod_lt m _ _ _ hm
  obtain ⟨a3, rfl, hd3, hp3, w3⟩ := open_string Try.underlying9 (hval 3 9 v3 rfl rfl) h3
  clear hA0 hval0
  refine (walk a0 a1 a2 a3 W w0 w1 w2 w3).mono fun e W' ⟨he, bel⟩ => ?_
  subst he
  exact ⟨_, rfl, _, _, _, [], _, [], hW', trodAll_mk1 (shut_bool Try.underlying4 _), (trodAll_cons_mk (Below.trod laidOut (by kernel_rfl) (of_decide_eq_true (by kernel_rfl)) k0 bel lt0) (trodAll_cons_mk (Below.trod laidOut (by kernel_rfl) (of_decide_eq_true (by kernel_rfl)) k1 bel lt1) (trodAll_cons_mk (Below.trod laidOut (by kernel_rfl) (of_decide_eq_true (by kernel_rfl)) k2 bel lt2) (trodAll_cons_mk (Below.trod laidOut (by kernel_rfl) (of_decide_eq_true (by kernel_rfl)) k3 bel lt3) trodAll_mk0)))), rfl, bel.frame _, fun h => by cases h⟩

theorem over : Rows.leadJoinRow.holds Try.pinned (OpenSpec.ofChange Rows.leadJoinSpec) :=
  OpenClaim.holds_of_wide 7 Try.f7 rfl rfl rfl rfl rfl rfl rfl ⟨rfl, rfl, rfl, rfl, rfl⟩ rfl rfl rfl rfl rfl (by kernel_rfl) Try.func7 (by kernel_rfl)
    (of_decide_eq_true (by kernel_rfl)) (by unfold Func.isWrapper; first | (rw [if_pos (by decide +kernel)]; kernel_rfl) | (rw [if_neg (by decide +kernel)]; exact ⟨rfl, rfl⟩))
    (fun os started H enc _ => lifted os started H enc)

theorem proved : Rows.LeadJoinSaid := over
end Go.Proofs.Ytdlagabepilcfaa.leadJoin
