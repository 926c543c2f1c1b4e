/- A dice tells how many of its numbers are left, at each time. Conditions: none beyond the form's own. -/
import Derived.Test.YtdknaahkjhplgaaRows
import Derived.Test.YtdknaahkjhplgaaArgs
import Derived.Test.YtdknaahkjhplgaaDiceB
namespace Go.Proofs.Ytdknaahkjhplgaa.diceLeft
open Go.Proofs.Ytdknaahkjhplgaa
open Go.ChangeShapes Go.WideShapes Go.ChangeAt Go.RowKit Go.Deep
open Go.ChangeMaps (open_string shut_string)
set_option linter.unusedVariables false

theorem own : ownKnob Try.prog.godebug = none := by kernel_rfl
theorem laidOut : laidOutB Try.prog = true := by kernel_rfl
theorem next_drop (w : World) (b g : Nat) (zs : List Int) (k : Nat) (last : Int) (h : DiceAt w b g (zs.drop k) last) :
    Calls Try.prog 18 #[.pointer (some ⟨b, 0, none⟩)] w fun e w' => e = .returned (.int .u32 (nxt (zs.drop k) last)) ∧ DiceAt w' b g (zs.drop (k + 1)) (nxt (zs.drop k) last) ∧ w.grownBy w' (some b) := by
  have := next_any w b g _ last h
  rw [List.tail_drop] at this
  exact this
set_option maxRecDepth 100000 in
set_option maxHeartbeats 1000000 in
theorem walk (a0 : Option Addr) (len0 cap0 : Nat) (z0 : List Int) (a1 : Int) (w : World) (w0 : IsInts .u32 w a0 len0 cap0 z0) (w1 : (Lit.int .i64 a1).wf = true) :
    Calls Try.prog 4 #[.slice a0 len0 cap0, .int .i64 a1] w fun e w' => e = .returned (.bool true) ∧ Below w.heap.size w w' := by
  obtain ⟨g1, g2⟩ := bounds_i64 w1
  by_cases hs : len0 ≤ 100
  · have hlz : (z0.take len0).length = len0 := by have := ints_len w0; simp; omega
    have hlow := lowN_lt a1 201 (by omega)
    go_enter Try.func4, Try.ntmps4
    go_wp2_with fail
    refine (dnew_ints w a0 len0 cap0 z0 w0 (by omega)).mono ?_
    rintro e w1 ⟨b, g, rfl, hb1, hg1, hb2, hg2, hd1, hbl1⟩
    have HZ := hide hlz
    clear hlz
    go_wp2
    go_loopw [6] (fun i wr => ∃ (k : Nat) (lst : Int), k ≤ lowN a1 201 ∧ i = .int .i64 k ∧ DiceAt wr b g ((z0.take len0).drop k) lst ∧ Below w.heap.size w wr)
      (fun i _ => lowN a1 201 - (intOf i).toNat)
    case atStart => exact ⟨0, 0, Nat.zero_le _, rfl, hd1, hbl1⟩
    case round =>
      obtain ⟨k, lst, hk, rfl, hd, hbl⟩ := hrel
      go_wp2_with fail
      refine (low_any a1 201 _ (by omega) (by omega)).mono ?_
      rintro e w2 ⟨rfl, rfl⟩
      by_cases hlt : k < lowN a1 201
      · go_wp2_with fail
        refine (left_at wr b g (z0.take len0) k lst hd).mono ?_
        rintro e w2 ⟨rfl, rfl⟩
        rw [HZ.out]
        by_cases hin : k ≤ len0
        · have hm : max ((len0 : Int) - (k : Int)) 0 = ((len0 - k : Nat) : Int) := by omega
          have HM := hide hm
          clear hm
          rw [show ((len0 - k : Nat) : Int) = (len0 : Int) - (k : Int) by omega]
          go_wp2_with fail
          refine (next_drop wr b g (z0.take len0) k lst hd).mono ?_
          rintro e w3 ⟨rfl, hd3, hgr⟩
          have hbl3 := bl_next hbl hgr hb1
          go_wp2
          refine ⟨?_, by simp [intOf]; omega⟩
          first
            | exact ⟨k + 1, _, by omega, by go_num, hd3, hbl3⟩
            | ((repeat apply Exists.intro); exact ⟨⟨k + 1, _, by omega, by go_num, hd3, hbl3⟩, rfl⟩)
        · rw [show ((len0 - k : Nat) : Int) = 0 by omega]
          go_wp2_with fail
          refine (next_drop wr b g (z0.take len0) k lst hd).mono ?_
          rintro e w3 ⟨rfl, hd3, hgr⟩
          have hbl3 := bl_next hbl hgr hb1
          go_wp2
          refine ⟨?_, by simp [intOf]; omega⟩
          first
            | exact ⟨k + 1, _, by omega, by go_num, hd3, hbl3⟩
            | ((repeat apply Exists.intro); exact ⟨⟨k + 1, _, by omega, by go_num, hd3, hbl3⟩, rfl⟩)
      · obtain rfl : k = lowN a1 201 := by omega
        go_wp2_with fail
        refine (left_at wr b g (z0.take len0) _ lst hd).mono ?_
        rintro e w2 ⟨rfl, rfl⟩
        rw [HZ.out]
        go_wp2_with fail
        refine (low_any a1 201 _ (by omega) (by omega)).mono ?_
        rintro e w2 ⟨rfl, rfl⟩
        by_cases hin : lowN a1 201 ≤ len0
        · rw [show ((len0 - lowN a1 201 : Nat) : Int) = (len0 : Int) - (lowN a1 201 : Int) by omega]
          go_wp2_with fail
          refine (awake1_any _).mono ?_
          rintro e w3 ⟨rfl, hb3⟩
          go_wp2
          go_ret
          exact ⟨rfl, bl_trans hbl hb3⟩
        · rw [show ((len0 - lowN a1 201 : Nat) : Int) = 0 by omega]
          go_wp2_with fail
          refine (awake1_any _).mono ?_
          rintro e w3 ⟨rfl, hb3⟩
          go_wp2
          go_ret
          exact ⟨rfl, bl_trans hbl hb3⟩
  · go_enter Try.func4, Try.ntmps4
    go_wp2_with fail
    refine (awake1_any _).mono ?_
    rintro e w1 ⟨rfl, hb1⟩
    go_wp2
    go_ret
    exact ⟨rfl, hb1⟩

set_option maxRecDepth 100000 in
theorem lifted (os : Os) (started : os.Started) (H : Type) (enc : TypeId × Value → H) :
    ReturnsInHanded {} Try.checked os 4 .any (Rows.diceLeftSpec.pre6 enc Try.prog Try.f4 Rows.diceLeftRow.domain false) (Rows.diceLeftSpec.post enc Try.prog Try.f4 false true false false) := by
  refine returnsInHanded_of_change (C := Try.checked) own started (by kernel_rfl) Try.func4
    (ChangeSpec.witness6 (enc := enc) (C := Try.checked) false ⟨#[], #[.slice none 0 0, .int .i64 0], []⟩ 8 (by kernel_rfl) (by kernel_rfl) (by kernel_rfl) (by kernel_rfl)) ?_
  intro W base args ds gs before hval0 hW hcnd _
  have hval : ∀ (j : Nat) t v, Try.f4.params[j]? = some t → args[j]? = some v → Value.okWide Try.prog W .any base t v := hval0
  have hW' := hW
  obtain ⟨p, q, hA0, hV, rfl, hfz, hnd⟩ := hW
  have hA : DataW.TrodAll enc Try.prog W 0 (fun _ => true) true Try.f4.params.toList args.toList ds p := hA0
  rw [Try.params4] at hA hval
  obtain ⟨v0, vs0, d0, ds0, p0, q0, hargs, rfl, rfl, h0, r0⟩ := trodAll_cons hA
  obtain ⟨v1, vs1, d1, ds1, p1, q1, rfl, rfl, rfl, h1, r1⟩ := trodAll_cons r0
  obtain ⟨rfl, rfl, rfl⟩ := trodAll_nil r1
  obtain rfl : args = #[v0, v1] := by cases args; simp_all
  obtain ⟨rfl, rfl⟩ := trodVars_none hV
  have k0 := h0
  have lt0 : ∀ x ∈ p0, x.block < W.heap.size := by obtain ⟨m, hm⟩ := k0; exact DataW.trod_lt m _ _ _ hm
  obtain ⟨a0, len0, cap0, rfl⟩ := okWide_slice Try.underlying22 (hval 0 22 v0 rfl rfl)
  obtain ⟨z0, w0⟩ : ∃ zs, IsInts .u32 W a0 len0 cap0 zs := by
    obtain ⟨fuel, hf⟩ := h0
    rcases open_ints Try.underlying22 Try.underlying26 (by kernel_rfl) hf with ⟨hcs, _⟩ | ⟨x, l, c, zs, hcs, _, hl, hm, hz, _, hcell, hwz⟩
    · simp [Value.cells] at hcs
      obtain ⟨rfl, rfl, rfl⟩ := hcs
      exact ⟨[], .inl ⟨rfl, rfl, rfl, rfl⟩⟩
    · simp [Value.cells] at hcs
      obtain ⟨rfl, rfl, rfl⟩ := hcs
      exact ⟨zs, .inr ⟨_, rfl, hl, hm, by simpa using hz, hcell, hwz⟩⟩
  have k1 := h1
  have lt1 : ∀ x ∈ p1, x.block < W.heap.size := by obtain ⟨m, hm⟩ := k1; exact DataW.trod_lt m _ _ _ hm
  obtain ⟨a1, rfl, hd1, hp1, w1⟩ := open_int Try.underlying3 (hval 1 3 v1 rfl rfl) h1
  clear hA0 hval0
  refine (walk a0 len0 cap0 z0 a1 W w0 w1).mono fun e W' ⟨he, bel⟩ => ?_
  subst he
  exact ⟨_, rfl, _, _, _, [], _, [], hW', trodAll_mk1 (shut_bool Try.underlying4 _), (trodAll_cons_mk (Below.trod laidOut (by kernel_rfl) (of_decide_eq_true (by kernel_rfl)) k0 bel lt0) (trodAll_cons_mk (Below.trod laidOut (by kernel_rfl) (of_decide_eq_true (by kernel_rfl)) k1 bel lt1) trodAll_mk0)), rfl, bel.frame _, fun h => by cases h⟩

theorem over : Rows.diceLeftRow.holds Try.pinned (OpenSpec.ofChange Rows.diceLeftSpec) :=
  OpenClaim.holds_of_wide 4 Try.f4 rfl rfl rfl rfl rfl rfl rfl ⟨rfl, rfl, rfl, rfl, rfl⟩ rfl rfl rfl rfl rfl (by kernel_rfl) Try.func4 (by kernel_rfl)
    (of_decide_eq_true (by kernel_rfl)) (by unfold Func.isWrapper; first | (rw [if_pos (by decide +kernel)]; kernel_rfl) | (rw [if_neg (by decide +kernel)]; exact ⟨rfl, rfl⟩))
    (fun os started H enc _ => lifted os started H enc)

theorem proved : Rows.DiceLeftSaid := over
end Go.Proofs.Ytdknaahkjhplgaa.diceLeft
