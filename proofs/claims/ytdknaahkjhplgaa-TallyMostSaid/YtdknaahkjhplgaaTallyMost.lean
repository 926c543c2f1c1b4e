/- The greatest front with at most n has at most n, and one byte more has more. Conditions: none beyond the form's own. -/
import Derived.Test.YtdknaahkjhplgaaRows
import Derived.Test.YtdknaahkjhplgaaArgs
import Derived.Test.YtdknaahkjhplgaaTalC
namespace Go.Proofs.Ytdknaahkjhplgaa.tallyMost
open Go.Proofs.Ytdknaahkjhplgaa
open Go.ChangeShapes Go.WideShapes Go.ChangeAt Go.RowKit Go.Deep
open Go.ChangeMaps (open_string shut_string)
set_option linter.unusedVariables false

theorem own : ownKnob Try.prog.godebug = none := by kernel_rfl
theorem laidOut : laidOutB Try.prog = true := by kernel_rfl
theorem upL_spec (way : Int) : ∀ (l : List UInt8) (m : Int), 0 ≤ m → cnt way (l.take (upL way l m)) ≤ m ∧ (upL way l m < l.length → m < cnt way (l.take (upL way l m + 1)))
  | [], m, hm => by simp [upL, cnt_nil]; exact hm
  | c :: r, m, hm => by
    unfold upL
    by_cases h : m - cnt way [c] < 0
    · rw [if_pos h]
      constructor
      · simp [cnt_nil]; exact hm
      · intro _; simp; omega
    · rw [if_neg h]
      have ih := upL_spec way r (m - cnt way [c]) (by omega)
      have e1 : ∀ k, cnt way ((c :: r).take (1 + k)) = cnt way [c] + cnt way (r.take k) := fun k => by
        rw [Nat.add_comm, List.take_succ_cons, ← cnt_app]; rfl
      rw [show 1 + upL way r (m - cnt way [c]) + 1 = 1 + (upL way r (m - cnt way [c]) + 1) by omega, e1, e1]
      constructor
      · omega
      · intro h2
        have := ih.2 (by simp at h2; omega)
        omega
theorem ext_front (s : ByteArray) (k : Nat) (h : k ≤ s.size) : (s.extract 0 k).data.toList = s.data.toList.take k := by
  rw [ByteArray.data_extract]; simp [List.extract_eq_take_drop]
set_option maxRecDepth 100000 in
set_option maxHeartbeats 1000000 in
theorem walk (a0 : ByteArray) (a1 : Int) (a2 : Int) (w : World) (w0 : a0.size ≤ maxLen) (w1 : (Lit.int .i64 a1).wf = true) (w2 : (Lit.int .i64 a2).wf = true) :
    Calls Try.prog 13 #[.string a0, .int .i64 a1, .int .i64 a2] w fun e w' => e = .returned (.bool true) ∧ Below w.heap.size w w' := by
  obtain ⟨g1, g2⟩ := bounds_i64 w2
  by_cases hs : a0.size ≤ 200
  · by_cases hn : a2 < 0
    · go_enter Try.func13, Try.ntmps13
      go_wp2_with fail
      refine (awake2_any _).mono ?_
      rintro e w1 ⟨rfl, hb1⟩
      go_wp2
      go_ret
      exact ⟨rfl, hb1⟩
    · have hw4 := lowN_lt a1 4 (by omega)
      have hu := hide (show upto (lowN a1 4) a2 a0.data.toList = (upL (lowN a1 4) a0.data.toList a2 : Nat) by unfold upto; rw [if_neg (by omega)])
      have hle : upL (lowN a1 4) a0.data.toList a2 ≤ a0.size := by have := upL_le (lowN a1 4) a0.data.toList a2; simpa using this
      obtain ⟨q1, q2⟩ := upL_spec (lowN a1 4) a0.data.toList a2 (by omega)
      rw [len_data] at q2
      have e1 := hide (ext_front a0 _ hle)
      generalize upL (lowN a1 4) a0.data.toList a2 = k at *
      go_enter Try.func13, Try.ntmps13
      go_wp2_with fail
      refine (low_any a1 4 _ (by omega) (by omega)).mono ?_
      rintro e w1 ⟨rfl, rfl⟩
      go_wp2_with fail
      refine (upto_any a0 _ a2 _ (by omega) g2).mono ?_
      rintro e w1 ⟨rfl, hb1⟩
      rw [hu.out]
      go_wp2_with fail
      refine (of_any (a0.extract 0 k) _ (by simp; omega)).mono ?_
      rintro e w2 ⟨rfl, hb2⟩
      rw [e1.out]
      go_wp2_with fail
      refine (bytal_any _ _ _).mono ?_
      rintro e w3 ⟨rfl, hb3⟩
      by_cases hk : k = a0.size
      · subst hk
        have hkk : ((a0.size : Int) == (a0.size : Int)) = true := by simp
        go_wp2_with fail
        refine (awake2_any _).mono ?_
        rintro e w4 ⟨rfl, hb4⟩
        go_wp2
        go_ret
        exact ⟨rfl, bl_trans (bl_trans (bl_trans hb1 hb2) hb3) hb4⟩
      · have hkk : ((k : Int) == (a0.size : Int)) = false := by simp; omega
        have q3 := q2 (by omega)
        have e2 := hide (ext_front a0 (k + 1) (by omega))
        go_wp2_with fail
        refine (of_any (a0.extract 0 (k + 1)) _ (by simp; omega)).mono ?_
        rintro e w4 ⟨rfl, hb4⟩
        rw [e2.out]
        go_wp2_with fail
        refine (bytal_any _ _ _).mono ?_
        rintro e w5 ⟨rfl, hb5⟩
        go_wp2_with fail
        refine (awake2_any _).mono ?_
        rintro e w6 ⟨rfl, hb6⟩
        go_wp2
        go_ret
        exact ⟨rfl, bl_trans (bl_trans (bl_trans (bl_trans (bl_trans hb1 hb2) hb3) hb4) hb5) hb6⟩
  · go_enter Try.func13, Try.ntmps13
    go_wp2_with fail
    refine (awake2_any _).mono ?_
    rintro e w1 ⟨rfl, hb1⟩
    go_wp2
    go_ret
    exact ⟨rfl, hb1⟩

set_option maxRecDepth 100000 in
theorem lifted (os : Os) (started : os.Started) (H : Type) (enc : TypeId × Value → H) :
    ReturnsInHanded {} Try.checked os 13 .any (Rows.tallyMostSpec.pre6 enc Try.prog Try.f13 Rows.tallyMostRow.domain false) (Rows.tallyMostSpec.post enc Try.prog Try.f13 false true false false) := by
  refine returnsInHanded_of_change (C := Try.checked) own started (by kernel_rfl) Try.func13
    (ChangeSpec.witness6 (enc := enc) (C := Try.checked) false ⟨#[], #[.string ByteArray.empty, .int .i64 0, .int .i64 0], []⟩ 8 (by kernel_rfl) (by kernel_rfl) (by kernel_rfl) (by kernel_rfl)) ?_
  intro W base args ds gs before hval0 hW hcnd _
  have hval : ∀ (j : Nat) t v, Try.f13.params[j]? = some t → args[j]? = some v → Value.okWide Try.prog W .any base t v := hval0
  have hW' := hW
  obtain ⟨p, q, hA0, hV, rfl, hfz, hnd⟩ := hW
  have hA : DataW.TrodAll enc Try.prog W 0 (fun _ => true) true Try.f13.params.toList args.toList ds p := hA0
  rw [Try.params13] at hA hval
  obtain ⟨v0, vs0, d0, ds0, p0, q0, hargs, rfl, rfl, h0, r0⟩ := trodAll_cons hA
  obtain ⟨v1, vs1, d1, ds1, p1, q1, rfl, rfl, rfl, h1, r1⟩ := trodAll_cons r0
  obtain ⟨v2, vs2, d2, ds2, p2, q2, rfl, rfl, rfl, h2, r2⟩ := trodAll_cons r1
  obtain ⟨rfl, rfl, rfl⟩ := trodAll_nil r2
  obtain rfl : args = #[v0, v1, v2] := by cases args; simp_all
  obtain ⟨rfl, rfl⟩ := trodVars_none hV
  have k0 := h0
  have lt0 : ∀ x ∈ p0, x.block < W.heap.size := by obtain ⟨m, hm⟩ := k0; exact DataW.trod_lt m _ _ _ hm
  obtain ⟨a0, rfl, hd0, hp0, w0⟩ := open_string Try.underlying9 (hval 0 9 v0 rfl rfl) h0
  have k1 := h1
  have lt1 : ∀ x ∈ p1, x.block < W.heap.size := by obtain ⟨m, hm⟩ := k1; exact DataW.trod_lt m _ _ _ hm
  obtain ⟨a1, rfl, hd1, hp1, w1⟩ := open_int Try.underlying3 (hval 1 3 v1 rfl rfl) h1
  have k2 := h2
  have lt2 : ∀ x ∈ p2, x.block < W.heap.size := by obtain ⟨m, hm⟩ := k2; exact DataW.trod_lt m _ _ _ hm
  obtain ⟨a2, rfl, hd2, hp2, w2⟩ := open_int Try.underlying3 (hval 2 3 v2 rfl rfl) h2
  clear hA0 hval0
  refine (walk a0 a1 a2 W w0 w1 w2).mono fun e W' ⟨he, bel⟩ => ?_
  subst he
  exact ⟨_, rfl, _, _, _, [], _, [], hW', trodAll_mk1 (shut_bool Try.underlying4 _), (trodAll_cons_mk (Below.trod laidOut (by kernel_rfl) (of_decide_eq_true (by kernel_rfl)) k0 bel lt0) (trodAll_cons_mk (Below.trod laidOut (by kernel_rfl) (of_decide_eq_true (by kernel_rfl)) k1 bel lt1) (trodAll_cons_mk (Below.trod laidOut (by kernel_rfl) (of_decide_eq_true (by kernel_rfl)) k2 bel lt2) trodAll_mk0))), rfl, bel.frame _, fun h => by cases h⟩

theorem over : Rows.tallyMostRow.holds Try.pinned (OpenSpec.ofChange Rows.tallyMostSpec) :=
  OpenClaim.holds_of_wide 13 Try.f13 rfl rfl rfl rfl rfl rfl rfl ⟨rfl, rfl, rfl, rfl, rfl⟩ rfl rfl rfl rfl rfl (by kernel_rfl) Try.func13 (by kernel_rfl)
    (of_decide_eq_true (by kernel_rfl)) (by unfold Func.isWrapper; first | (rw [if_pos (by decide +kernel)]; kernel_rfl) | (rw [if_neg (by decide +kernel)]; exact ⟨rfl, rfl⟩))
    (fun os started H enc _ => lifted os started H enc)

theorem proved : Rows.TallyMostSaid := over
end Go.Proofs.Ytdknaahkjhplgaa.tallyMost
