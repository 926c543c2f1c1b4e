/- Wherever a text is cut, what it has is Plus of what both parts have. Conditions: none beyond the form's own. -/
import Derived.Test.YtdknaahkjhplgaaRows
import Derived.Test.YtdknaahkjhplgaaArgs
import Derived.Test.YtdknaahkjhplgaaTalC
import Derived.Test.YtdknaahkjhplgaaLater
namespace Go.Proofs.Ytdknaahkjhplgaa.tallyCut
open Go.Proofs.Ytdknaahkjhplgaa
open Go.ChangeShapes Go.WideShapes Go.ChangeAt Go.RowKit Go.Deep
open Go.ChangeMaps (open_string shut_string)
set_option linter.unusedVariables false

theorem own : ownKnob Try.prog.godebug = none := by kernel_rfl
theorem laidOut : laidOutB Try.prog = true := by kernel_rfl
attribute [local go_sem] later_cell later_frozen
theorem ext_front (s : ByteArray) (k : Nat) : (s.extract 0 k).data.toList = s.data.toList.take k := by
  rw [ByteArray.data_extract]; simp [List.extract_eq_take_drop]
theorem ext_back (s : ByteArray) (k : Nat) : (s.extract k s.size).data.toList = s.data.toList.drop k := by
  rw [ByteArray.data_extract]
  simp only [Array.toList_extract, List.extract_eq_take_drop]
  exact List.take_of_length_le (by simp)
theorem w64 (n : Int) (h : -9223372036854775808 ≤ n ∧ n ≤ 9223372036854775807) : wrap64 n = n := by unfold wrap64; omega
theorem plus_tal (l m : List UInt8) (h : (l ++ m).length ≤ 1000) : (Value.agg #[.int .i64 (wrap64 (l.length + m.length)), .int .i64 (wrap64 (nBrk l + nBrk m)), .int .i64 (wrap64 (nRun l + nRun m)), .int .i64 (wrap64 (nBig l + nRun l + (nBig m + nRun m)))]) = talOf (l ++ m) := by
  have b1 := nBrk_le l
  have b2 := nRun_le l
  have b3 := nBig_le l
  have c1 := nBrk_le m
  have c2 := nRun_le m
  have c3 := nBig_le m
  rw [List.length_append] at h
  rw [w64 _ (by omega), w64 _ (by omega), w64 _ (by omega), w64 _ (by omega)]
  unfold talOf
  rw [nBrk_app, nRun_app, nBig_app, List.length_append, show nBig l + nRun l + (nBig m + nRun m) = nBig l + nBig m + (nRun l + nRun m) by omega]
  simp
theorem plustal_any (l m : List UInt8) (h : (l ++ m).length ≤ 1000) (w : World) :
    Calls Try.prog 23 #[talOf l, talOf m] w fun e w' => e = .returned (talOf (l ++ m)) ∧ Below w.heap.size w w' := by
  rw [← plus_tal l m h]; exact plus_any _ _ _ _ _ _ _ _ w
theorem plustale_any (l m n : List UInt8) (h : n.length ≤ 1000) (he : l ++ m = n) (w : World) :
    Calls Try.prog 23 #[talOf l, talOf m] w fun e w' => e = .returned (talOf n) ∧ Below w.heap.size w w' := by
  subst he; exact plustal_any l m h w
theorem eql_tal (l : List UInt8) (w : World) : (binOp .eql 35 (talOf l) (talOf l)).run Try.prog w = .ok (.bool true) w := by
  unfold talOf
  go_simp
theorem eqg_tal (x y : Operand) (l m : List UInt8) (w : World) : (eqGuard .eql 35 x y (talOf l) (talOf m)).run Try.prog w = .ok () w := by
  unfold talOf
  exact run_eqGuard_agg _ _ _ _ _ _ _ (by kernel_rfl)
attribute [local go_sem] eqg_tal
attribute [local go_sem ↓] eql_tal
theorem tal_nil : talOf [] = .agg #[.int .i64 0, .int .i64 0, .int .i64 0, .int .i64 0] := by kernel_rfl
theorem ofe_any (s : ByteArray) (l : List UInt8) (he : s.data.toList = l) (w : World) (hs : s.size ≤ 100000000) :
    Calls Try.prog 21 #[.string s] w fun e w' => e = .returned (talOf l) ∧ Below w.heap.size w w' := by
  rw [← he]; exact of_any s w hs
theorem plus0_any (l : List UInt8) (h : l.length ≤ 1000) (w : World) :
    Calls Try.prog 23 #[talOf l, .agg #[.int .i64 0, .int .i64 0, .int .i64 0, .int .i64 0]] w fun e w' => e = .returned (talOf l) ∧ Below w.heap.size w w' := by
  have := plustal_any l [] (by simpa using h) w
  rw [List.append_nil, tal_nil] at this
  exact this
set_option maxRecDepth 100000 in
set_option maxHeartbeats 1000000 in
theorem walk (a0 : ByteArray) (a1 : Int) (w : World) (w0 : a0.size ≤ maxLen) (w1 : (Lit.int .i64 a1).wf = true) :
    Calls Try.prog 8 #[.string a0, .int .i64 a1] w fun e w' => e = .returned (.bool true) ∧ Below w.heap.size w w' := by
  by_cases hs : a0.size ≤ 200
  · have hlt := lowN_lt a1 (a0.size + 1) (by omega)
    go_enter Try.func8, Try.ntmps8
    go_wp2_with fail
    refine (low_any a1 (a0.size + 1) _ (by omega) (by omega)).mono ?_
    rintro e w1 ⟨rfl, rfl⟩
    generalize lowN a1 (a0.size + 1) = k at *
    go_wp2_with fail
    have e1 := hide (ext_front a0 k)
    have e2 := hide (ext_back a0 k)
    refine wp_region_later (by kernel_rfl) (by kernel_rfl) ?_
    repeat (go_big_quiet_step (first
      | (go_at_call_of 21 (Value.string a0); exact later_call (of_any a0 _ (by omega)))
      | (go_at_call_of 21 (Value.string (a0.extract 0 k)); exact later_call (ofe_any _ _ e1.out _ (by simp; omega)))
      | (go_at_call 21; exact later_call (ofe_any _ _ e2.out _ (by simp; omega)))
      | (go_at_call_of 23 (talOf (a0.data.toList.take k)); exact later_call (plustale_any (a0.data.toList.take k) (a0.data.toList.drop k) a0.data.toList (by simp; omega) (List.take_append_drop k _) _))
      | (go_at_call 23; exact later_call (plus0_any _ (by simp; omega) _))
      | (go_at_call 20; exact later_call (awake2_any _))
      | exact rfl))
    refine wpQuiet_nil ?_
    rintro _ ⟨⟨w9, hb9⟩, rfl⟩
    go_wp2
    go_ret
    exact ⟨rfl, (by repeat (first | exact bl_refl _ | assumption | refine bl_alloc ?_ _ | refine bl_drewN ?_ _ | refine bl_drew ?_ | refine bl_trans ?_ (by assumption)))⟩
  · go_enter Try.func8, Try.ntmps8
    go_wp2_with fail
    refine (awake2_any _).mono ?_
    rintro e w1 ⟨rfl, hb1⟩
    go_wp2
    go_ret
    exact ⟨rfl, hb1⟩

set_option maxRecDepth 100000 in
theorem lifted (os : Os) (started : os.Started) (H : Type) (enc : TypeId × Value → H) :
    ReturnsInHanded {} Try.checked os 8 .any (Rows.tallyCutSpec.pre6 enc Try.prog Try.f8 Rows.tallyCutRow.domain false) (Rows.tallyCutSpec.post enc Try.prog Try.f8 false true false false) := by
  refine returnsInHanded_of_change (C := Try.checked) own started (by kernel_rfl) Try.func8
    (ChangeSpec.witness6 (enc := enc) (C := Try.checked) false ⟨#[], #[.string ByteArray.empty, .int .i64 0], []⟩ 8 (by kernel_rfl) (by kernel_rfl) (by kernel_rfl) (by kernel_rfl)) ?_
  intro W base args ds gs before hval0 hW hcnd _
  have hval : ∀ (j : Nat) t v, Try.f8.params[j]? = some t → args[j]? = some v → Value.okWide Try.prog W .any base t v := hval0
  have hW' := hW
  obtain ⟨p, q, hA0, hV, rfl, hfz, hnd⟩ := hW
  have hA : DataW.TrodAll enc Try.prog W 0 (fun _ => true) true Try.f8.params.toList args.toList ds p := hA0
  rw [Try.params8] at hA hval
  obtain ⟨v0, vs0, d0, ds0, p0, q0, hargs, rfl, rfl, h0, r0⟩ := trodAll_cons hA
  obtain ⟨v1, vs1, d1, ds1, p1, q1, rfl, rfl, rfl, h1, r1⟩ := trodAll_cons r0
  obtain ⟨rfl, rfl, rfl⟩ := trodAll_nil r1
  obtain rfl : args = #[v0, v1] := by cases args; simp_all
  obtain ⟨rfl, rfl⟩ := trodVars_none hV
  have k0 := h0
  have lt0 : ∀ x ∈ p0, x.block < W.heap.size := by obtain ⟨m, hm⟩ := k0; exact DataW.trod_lt m _ _ _ hm
  obtain ⟨a0, rfl, hd0, hp0, w0⟩ := open_string Try.underlying9 (hval 0 9 v0 rfl rfl) h0
  have k1 := h1
  have lt1 : ∀ x ∈ p1, x.block < W.heap.size := by obtain ⟨m, hm⟩ := k1; exact DataW.trod_lt m _ _ _ hm
  obtain ⟨a1, rfl, hd1, hp1, w1⟩ := open_int Try.underlying3 (hval 1 3 v1 rfl rfl) h1
  clear hA0 hval0
  refine (walk a0 a1 W w0 w1).mono fun e W' ⟨he, bel⟩ => ?_
  subst he
  exact ⟨_, rfl, _, _, _, [], _, [], hW', trodAll_mk1 (shut_bool Try.underlying4 _), (trodAll_cons_mk (Below.trod laidOut (by kernel_rfl) (of_decide_eq_true (by kernel_rfl)) k0 bel lt0) (trodAll_cons_mk (Below.trod laidOut (by kernel_rfl) (of_decide_eq_true (by kernel_rfl)) k1 bel lt1) trodAll_mk0)), rfl, bel.frame _, fun h => by cases h⟩

theorem over : Rows.tallyCutRow.holds Try.pinned (OpenSpec.ofChange Rows.tallyCutSpec) :=
  OpenClaim.holds_of_wide 8 Try.f8 rfl rfl rfl rfl rfl rfl rfl ⟨rfl, rfl, rfl, rfl, rfl⟩ rfl rfl rfl rfl rfl (by kernel_rfl) Try.func8 (by kernel_rfl)
    (of_decide_eq_true (by kernel_rfl)) (by unfold Func.isWrapper; first | (rw [if_pos (by decide +kernel)]; kernel_rfl) | (rw [if_neg (by decide +kernel)]; exact ⟨rfl, rfl⟩))
    (fun os started H enc _ => lifted os started H enc)

theorem proved : Rows.TallyCutSaid := over
end Go.Proofs.Ytdknaahkjhplgaa.tallyCut
