/- Two texts with a sign between that is in no word, turned by Pascal, are both turned, one behind the other. Conditions: none beyond the form's own. -/
import Derived.Test.YtipbfldiacbfaaaRows
import Derived.Test.YtipbfldiacbfaaaArgs
import Derived.Test.YtipbfldiacbfaaaCasingB
import Derived.Test.YtipbfldiacbfaaaLow
namespace Go.Proofs.Ytipbfldiacbfaaa.casingJoin
open Go.Proofs.Ytipbfldiacbfaaa
open Go.ChangeShapes Go.WideShapes Go.ChangeAt Go.RowKit Go.Deep
open Go.ChangeMaps (open_string shut_string)
set_option linter.unusedVariables false

theorem own : ownKnob Try.prog.godebug = none := by kernel_rfl
theorem laidOut : laidOutB Try.prog = true := by kernel_rfl
theorem jn_em (l : List UInt8) (em : Bool) : jn upB l true em = jn upB l true true := by
  induction l with
  | nil => rfl
  | cons c r ih =>
    rw [jn, jn]
    cases hw : wordB c
    · simpa using ih
    · cases em <;> rfl
theorem jn_app (c : UInt8) (t : List UInt8) (hc : wordB c = false) : ∀ (l : List UInt8) (st em : Bool), jn upB (l ++ c :: t) st em = jn upB l st em ++ jn upB t true true
  | [], st, em => by
    have h1 : jn upB (c :: t) st em = jn upB t true em := by rw [jn, hc]; rfl
    rw [List.nil_append, h1, jn_em]
    rfl
  | d :: r, st, em => by
    rw [List.cons_append, jn, jn]
    cases hw : wordB d
    · exact jn_app c t hc r true em
    · rw [if_pos rfl, if_pos rfl, jn_app c t hc r false false]; rfl
theorem jn_len (f : UInt8 → UInt8) : ∀ (l : List UInt8) (st em : Bool), (jn f l st em).length ≤ l.length
  | [], _, _ => by simp [jn]
  | c :: r, st, em => by
    rw [jn]
    cases wordB c
    · have := jn_len f r true em; simp; omega
    · have := jn_len f r false false; simp; omega
theorem turn5_size (s X : ByteArray) (h : (⟨(turnL 5 s.data.toList).toArray⟩ : ByteArray) = X) : X.size ≤ s.size := by
  rw [← h]
  have h1 := jn_len upB s.data.toList true true
  rw [len_data] at h1
  show (jn upB s.data.toList true true).toArray.size ≤ s.size
  simpa using h1
theorem turnx_any (s : ByteArray) (way : Int) (X : ByteArray) (e0 : Int) (w : World) (hs : s.size ≤ 1000000) (hl : (⟨(turnL way s.data.toList).toArray⟩ : ByteArray) = X) (he : turnE way = e0) :
    Calls Try.prog 9 #[.string s, .int .i64 way] w fun e w' => e = .returned (.tuple #[.string X, .int .i64 e0]) ∧ Below w.heap.size w w' := by
  rw [← hl, ← he]; exact turn_any s way w hs
theorem join_eq (s c t : ByteArray) (k : UInt8) (hk : c.data.toList = [k]) (hw : wordB k = false) :
    (⟨(turnL 5 (s ++ c ++ t).data.toList).toArray⟩ : ByteArray) = (⟨(turnL 5 s.data.toList).toArray⟩ : ByteArray) ++ ⟨(turnL 5 t.data.toList).toArray⟩ := by
  apply ByteArray.ext
  apply Array.ext'
  rw [ByteArray.toList_data_append, ByteArray.toList_data_append, ByteArray.toList_data_append, hk]
  have h5 : ∀ l, turnL 5 l = jn upB l true true := fun l => rfl
  rw [h5, h5, h5, List.append_assoc, List.singleton_append, jn_app k _ hw]
set_option maxRecDepth 100000 in
set_option maxHeartbeats 1000000 in
theorem walk (a0 : ByteArray) (a1 : ByteArray) (a2 : Int) (w : World) (w0 : a0.size ≤ maxLen) (w1 : a1.size ≤ maxLen) (w2 : (Lit.int .i64 a2).wf = true) :
    Calls Try.prog 7 #[.string a0, .string a1, .int .i64 a2] w fun e w' => e = .returned (.bool true) ∧ Below w.heap.size w w' := by
  by_cases hs : a0.size ≤ 100
  · by_cases ht : a1.size ≤ 100
    · have hlow := lowN_lt a2 5 (by omega)
      have hcase : lowN a2 5 = 0 ∨ lowN a2 5 = 1 ∨ lowN a2 5 = 2 ∨ lowN a2 5 = 3 ∨ lowN a2 5 = 4 := by omega
      rcases hcase with hq | hq | hq | hq | hq
      · have HQ := hide hq
        clear hq hlow
        have hsz : (a0 ++ ⟨#[45]⟩ ++ a1 : ByteArray).size ≤ 1000000 := by
          rw [ByteArray.size_append, ByteArray.size_append]
          have : (⟨#[45]⟩ : ByteArray).size = 1 := rfl
          omega
        have HSZ := hide hsz
        clear hsz
        have HJ := hide (join_eq a0 ⟨#[45]⟩ a1 45 rfl (by decide +kernel))
        obtain ⟨X, hX⟩ : ∃ X : ByteArray, (⟨(turnL 5 a0.data.toList).toArray⟩ : ByteArray) = X := ⟨_, rfl⟩
        obtain ⟨Y, hY⟩ : ∃ Y : ByteArray, (⟨(turnL 5 a1.data.toList).toArray⟩ : ByteArray) = Y := ⟨_, rfl⟩
        rw [hX, hY] at HJ
        have hXs := turn5_size a0 X hX
        have hYs := turn5_size a1 Y hY
        have HX := hide hX
        have HY := hide hY
        clear hX hY
        go_enter Try.func7, Try.ntmps7
        go_wp2_with fail
        refine (low_any a2 5 _ (by omega) (by omega)).mono ?_
        rintro e w1 ⟨rfl, rfl⟩
        rw [HQ.out]
        go_wp2_with fail
        refine (turnx_any a0 5 X 0 _ (by omega) HX.out rfl).mono ?_
        rintro e w1 ⟨rfl, hb1⟩
        go_wp2_with fail
        refine (turnx_any a1 5 Y 0 _ (by omega) HY.out rfl).mono ?_
        rintro e w2 ⟨rfl, hb2⟩
        go_wp2_with fail
        refine (turnx_any _ 5 (X ++ Y) 0 _ HSZ.out HJ.out rfl).mono ?_
        rintro e w3 ⟨rfl, hb3⟩
        go_wp2_with fail
        refine (awake17_any _).mono ?_
        rintro e w4 ⟨rfl, hb4⟩
        go_wp2
        go_ret
        exact ⟨rfl, bl_trans (bl_trans (bl_trans hb1 hb2) hb3) hb4⟩
      · have HQ := hide hq
        clear hq hlow
        have hsz : (a0 ++ ⟨#[95]⟩ ++ a1 : ByteArray).size ≤ 1000000 := by
          rw [ByteArray.size_append, ByteArray.size_append]
          have : (⟨#[95]⟩ : ByteArray).size = 1 := rfl
          omega
        have HSZ := hide hsz
        clear hsz
        have HJ := hide (join_eq a0 ⟨#[95]⟩ a1 95 rfl (by decide +kernel))
        obtain ⟨X, hX⟩ : ∃ X : ByteArray, (⟨(turnL 5 a0.data.toList).toArray⟩ : ByteArray) = X := ⟨_, rfl⟩
        obtain ⟨Y, hY⟩ : ∃ Y : ByteArray, (⟨(turnL 5 a1.data.toList).toArray⟩ : ByteArray) = Y := ⟨_, rfl⟩
        rw [hX, hY] at HJ
        have hXs := turn5_size a0 X hX
        have hYs := turn5_size a1 Y hY
        have HX := hide hX
        have HY := hide hY
        clear hX hY
        go_enter Try.func7, Try.ntmps7
        go_wp2_with fail
        refine (low_any a2 5 _ (by omega) (by omega)).mono ?_
        rintro e w1 ⟨rfl, rfl⟩
        rw [HQ.out]
        go_wp2_with fail
        refine (turnx_any a0 5 X 0 _ (by omega) HX.out rfl).mono ?_
        rintro e w1 ⟨rfl, hb1⟩
        go_wp2_with fail
        refine (turnx_any a1 5 Y 0 _ (by omega) HY.out rfl).mono ?_
        rintro e w2 ⟨rfl, hb2⟩
        go_wp2_with fail
        refine (turnx_any _ 5 (X ++ Y) 0 _ HSZ.out HJ.out rfl).mono ?_
        rintro e w3 ⟨rfl, hb3⟩
        go_wp2_with fail
        refine (awake17_any _).mono ?_
        rintro e w4 ⟨rfl, hb4⟩
        go_wp2
        go_ret
        exact ⟨rfl, bl_trans (bl_trans (bl_trans hb1 hb2) hb3) hb4⟩
      · have HQ := hide hq
        clear hq hlow
        have hsz : (a0 ++ ⟨#[32]⟩ ++ a1 : ByteArray).size ≤ 1000000 := by
          rw [ByteArray.size_append, ByteArray.size_append]
          have : (⟨#[32]⟩ : ByteArray).size = 1 := rfl
          omega
        have HSZ := hide hsz
        clear hsz
        have HJ := hide (join_eq a0 ⟨#[32]⟩ a1 32 rfl (by decide +kernel))
        obtain ⟨X, hX⟩ : ∃ X : ByteArray, (⟨(turnL 5 a0.data.toList).toArray⟩ : ByteArray) = X := ⟨_, rfl⟩
        obtain ⟨Y, hY⟩ : ∃ Y : ByteArray, (⟨(turnL 5 a1.data.toList).toArray⟩ : ByteArray) = Y := ⟨_, rfl⟩
        rw [hX, hY] at HJ
        have hXs := turn5_size a0 X hX
        have hYs := turn5_size a1 Y hY
        have HX := hide hX
        have HY := hide hY
        clear hX hY
        go_enter Try.func7, Try.ntmps7
        go_wp2_with fail
        refine (low_any a2 5 _ (by omega) (by omega)).mono ?_
        rintro e w1 ⟨rfl, rfl⟩
        rw [HQ.out]
        go_wp2_with fail
        refine (turnx_any a0 5 X 0 _ (by omega) HX.out rfl).mono ?_
        rintro e w1 ⟨rfl, hb1⟩
        go_wp2_with fail
        refine (turnx_any a1 5 Y 0 _ (by omega) HY.out rfl).mono ?_
        rintro e w2 ⟨rfl, hb2⟩
        go_wp2_with fail
        refine (turnx_any _ 5 (X ++ Y) 0 _ HSZ.out HJ.out rfl).mono ?_
        rintro e w3 ⟨rfl, hb3⟩
        go_wp2_with fail
        refine (awake17_any _).mono ?_
        rintro e w4 ⟨rfl, hb4⟩
        go_wp2
        go_ret
        exact ⟨rfl, bl_trans (bl_trans (bl_trans hb1 hb2) hb3) hb4⟩
      · have HQ := hide hq
        clear hq hlow
        have hsz : (a0 ++ ⟨#[46]⟩ ++ a1 : ByteArray).size ≤ 1000000 := by
          rw [ByteArray.size_append, ByteArray.size_append]
          have : (⟨#[46]⟩ : ByteArray).size = 1 := rfl
          omega
        have HSZ := hide hsz
        clear hsz
        have HJ := hide (join_eq a0 ⟨#[46]⟩ a1 46 rfl (by decide +kernel))
        obtain ⟨X, hX⟩ : ∃ X : ByteArray, (⟨(turnL 5 a0.data.toList).toArray⟩ : ByteArray) = X := ⟨_, rfl⟩
        obtain ⟨Y, hY⟩ : ∃ Y : ByteArray, (⟨(turnL 5 a1.data.toList).toArray⟩ : ByteArray) = Y := ⟨_, rfl⟩
        rw [hX, hY] at HJ
        have hXs := turn5_size a0 X hX
        have hYs := turn5_size a1 Y hY
        have HX := hide hX
        have HY := hide hY
        clear hX hY
        go_enter Try.func7, Try.ntmps7
        go_wp2_with fail
        refine (low_any a2 5 _ (by omega) (by omega)).mono ?_
        rintro e w1 ⟨rfl, rfl⟩
        rw [HQ.out]
        go_wp2_with fail
        refine (turnx_any a0 5 X 0 _ (by omega) HX.out rfl).mono ?_
        rintro e w1 ⟨rfl, hb1⟩
        go_wp2_with fail
        refine (turnx_any a1 5 Y 0 _ (by omega) HY.out rfl).mono ?_
        rintro e w2 ⟨rfl, hb2⟩
        go_wp2_with fail
        refine (turnx_any _ 5 (X ++ Y) 0 _ HSZ.out HJ.out rfl).mono ?_
        rintro e w3 ⟨rfl, hb3⟩
        go_wp2_with fail
        refine (awake17_any _).mono ?_
        rintro e w4 ⟨rfl, hb4⟩
        go_wp2
        go_ret
        exact ⟨rfl, bl_trans (bl_trans (bl_trans hb1 hb2) hb3) hb4⟩
      · have HQ := hide hq
        clear hq hlow
        have hsz : (a0 ++ ⟨#[47]⟩ ++ a1 : ByteArray).size ≤ 1000000 := by
          rw [ByteArray.size_append, ByteArray.size_append]
          have : (⟨#[47]⟩ : ByteArray).size = 1 := rfl
          omega
        have HSZ := hide hsz
        clear hsz
        have HJ := hide (join_eq a0 ⟨#[47]⟩ a1 47 rfl (by decide +kernel))
        obtain ⟨X, hX⟩ : ∃ X : ByteArray, (⟨(turnL 5 a0.data.toList).toArray⟩ : ByteArray) = X := ⟨_, rfl⟩
        obtain ⟨Y, hY⟩ : ∃ Y : ByteArray, (⟨(turnL 5 a1.data.toList).toArray⟩ : ByteArray) = Y := ⟨_, rfl⟩
        rw [hX, hY] at HJ
        have hXs := turn5_size a0 X hX
        have hYs := turn5_size a1 Y hY
        have HX := hide hX
        have HY := hide hY
        clear hX hY
        go_enter Try.func7, Try.ntmps7
        go_wp2_with fail
        refine (low_any a2 5 _ (by omega) (by omega)).mono ?_
        rintro e w1 ⟨rfl, rfl⟩
        rw [HQ.out]
        go_wp2_with fail
        refine (turnx_any a0 5 X 0 _ (by omega) HX.out rfl).mono ?_
        rintro e w1 ⟨rfl, hb1⟩
        go_wp2_with fail
        refine (turnx_any a1 5 Y 0 _ (by omega) HY.out rfl).mono ?_
        rintro e w2 ⟨rfl, hb2⟩
        go_wp2_with fail
        refine (turnx_any _ 5 (X ++ Y) 0 _ HSZ.out HJ.out rfl).mono ?_
        rintro e w3 ⟨rfl, hb3⟩
        go_wp2_with fail
        refine (awake17_any _).mono ?_
        rintro e w4 ⟨rfl, hb4⟩
        go_wp2
        go_ret
        exact ⟨rfl, bl_trans (bl_trans (bl_trans hb1 hb2) hb3) hb4⟩
    · go_enter Try.func7, Try.ntmps7
      go_wp2_with fail
      refine (awake17_any _).mono ?_
      rintro e w1 ⟨rfl, hb1⟩
      go_wp2
      go_ret
      exact ⟨rfl, hb1⟩
  · go_enter Try.func7, Try.ntmps7
    go_wp2_with fail
    refine (awake17_any _).mono ?_
    rintro e w1 ⟨rfl, hb1⟩
    go_wp2
    go_ret
    exact ⟨rfl, hb1⟩

set_option maxRecDepth 100000 in
theorem lifted (os : Os) (started : os.Started) (H : Type) (enc : TypeId × Value → H) :
    ReturnsInHanded {} Try.checked os 7 .any (Rows.casingJoinSpec.pre6 enc Try.prog Try.f7 Rows.casingJoinRow.domain false) (Rows.casingJoinSpec.post enc Try.prog Try.f7 false true false false) := by
  refine returnsInHanded_of_change (C := Try.checked) own started (by kernel_rfl) Try.func7
    (ChangeSpec.witness6 (enc := enc) (C := Try.checked) false ⟨#[], #[.string ByteArray.empty, .string ByteArray.empty, .int .i64 0], []⟩ 8 (by kernel_rfl) (by kernel_rfl) (by kernel_rfl) (by kernel_rfl)) ?_
  intro W base args ds gs before hval0 hW hcnd _
  have hval : ∀ (j : Nat) t v, Try.f7.params[j]? = some t → args[j]? = some v → Value.okWide Try.prog W .any base t v := hval0
  have hW' := hW
  obtain ⟨p, q, hA0, hV, rfl, hfz, hnd⟩ := hW
  have hA : DataW.TrodAll enc Try.prog W 0 (fun _ => true) true Try.f7.params.toList args.toList ds p := hA0
  rw [Try.params7] at hA hval
  obtain ⟨v0, vs0, d0, ds0, p0, q0, hargs, rfl, rfl, h0, r0⟩ := trodAll_cons hA
  obtain ⟨v1, vs1, d1, ds1, p1, q1, rfl, rfl, rfl, h1, r1⟩ := trodAll_cons r0
  obtain ⟨v2, vs2, d2, ds2, p2, q2, rfl, rfl, rfl, h2, r2⟩ := trodAll_cons r1
  obtain ⟨rfl, rfl, rfl⟩ := trodAll_nil r2
  obtain rfl : args = #[v0, v1, v2] := by cases args; simp_all
  obtain ⟨rfl, rfl⟩ := trodVars_none hV
  have k0 := h0
  have lt0 : ∀ x ∈ p0, x.block < W.heap.size := by obtain ⟨m, hm⟩ := k0; exact DataW.trod_lt m _ _ _ hm
  obtain ⟨a0, rfl, hd0, hp0, w0⟩ := open_string Try.underlying9 (hval 0 9 v0 rfl rfl) h0
  have k1 := h1
  have lt1 : ∀ x ∈ p1, x.block < W.heap.size := by obtain ⟨m, hm⟩ := k1; exact DataW.trod_lt m _ _ _ hm
  obtain ⟨a1, rfl, hd1, hp1, w1⟩ := open_string Try.underlying9 (hval 1 9 v1 rfl rfl) h1
  have k2 := h2
  have lt2 : ∀ x ∈ p2, x.block < W.heap.size := by obtain ⟨m, hm⟩ := k2; exact DataW.trod_lt m _ _ _ hm
  obtain ⟨a2, rfl, hd2, hp2, w2⟩ := open_int Try.underlying3 (hval 2 3 v2 rfl rfl) h2
  clear hA0 hval0
  refine (walk a0 a1 a2 W w0 w1 w2).mono fun e W' ⟨he, bel⟩ => ?_
  subst he
  exact ⟨_, rfl, _, _, _, [], _, [], hW', trodAll_mk1 (shut_bool Try.underlying4 _), (trodAll_cons_mk (Below.trod laidOut (by kernel_rfl) (of_decide_eq_true (by kernel_rfl)) k0 bel lt0) (trodAll_cons_mk (Below.trod laidOut (by kernel_rfl) (of_decide_eq_true (by kernel_rfl)) k1 bel lt1) (trodAll_cons_mk (Below.trod laidOut (by kernel_rfl) (of_decide_eq_true (by kernel_rfl)) k2 bel lt2) trodAll_mk0))), rfl, bel.frame _, fun h => by cases h⟩

theorem over : Rows.casingJoinRow.holds Try.pinned (OpenSpec.ofChange Rows.casingJoinSpec) :=
  OpenClaim.holds_of_wide 7 Try.f7 rfl rfl rfl rfl rfl rfl rfl ⟨rfl, rfl, rfl, rfl, rfl⟩ rfl rfl rfl rfl rfl (by kernel_rfl) Try.func7 (by kernel_rfl)
    (of_decide_eq_true (by kernel_rfl)) (by unfold Func.isWrapper; first | (rw [if_pos (by decide +kernel)]; kernel_rfl) | (rw [if_neg (by decide +kernel)]; exact ⟨rfl, rfl⟩))
    (fun os started H enc _ => lifted os started H enc)

theorem proved : Rows.CasingJoinSaid := over
end Go.Proofs.Ytipbfldiacbfaaa.casingJoin
