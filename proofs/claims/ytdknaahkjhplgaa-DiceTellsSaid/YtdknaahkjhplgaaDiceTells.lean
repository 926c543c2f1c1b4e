/- A dice tells its numbers, one behind the other, and behind them each from the one ahead of it. Conditions: none beyond the form's own. -/
import Derived.Test.YtdknaahkjhplgaaRows
import Derived.Test.YtdknaahkjhplgaaArgs
import Derived.Test.YtdknaahkjhplgaaDiceB
namespace Go.Proofs.Ytdknaahkjhplgaa.diceTells
open Go.Proofs.Ytdknaahkjhplgaa
open Go.ChangeShapes Go.WideShapes Go.ChangeAt Go.RowKit Go.Deep
open Go.ChangeMaps (open_string shut_string)
set_option linter.unusedVariables false

theorem own : ownKnob Try.prog.godebug = none := by kernel_rfl
theorem laidOut : laidOutB Try.prog = true := by kernel_rfl

set_option maxRecDepth 100000 in
set_option maxHeartbeats 1000000 in
theorem walk (a0 : Option Addr) (len0 cap0 : Nat) (z0 : List Int) (a1 : Int) (w : World) (w0 : IsInts .u32 w a0 len0 cap0 z0) (w1 : (Lit.int .i64 a1).wf = true) :
    Calls Try.prog 3 #[.slice a0 len0 cap0, .int .i64 a1] w fun e w' => e = .returned (.bool true) ∧ Below w.heap.size w w' := by
  obtain ⟨g1, g2⟩ := bounds_i64 w1
  by_cases hs : len0 ≤ 100
  · have hlz : (z0.take len0).length = len0 := by
      rcases w0 with ⟨_, rfl, _, rfl⟩ | ⟨x, _, hl, hm, hz, _⟩
      · rfl
      · simp; omega
    have hlow := lowN_lt a1 201 (by omega)
    go_enter Try.func3, Try.ntmps3
    go_wp2_with fail
    refine (dnew_ints w a0 len0 cap0 z0 w0 (by omega)).mono ?_
    rintro e w1 ⟨b, g, rfl, hb1, hg1, hb2, hg2, hd1, hbl1⟩
    have HZ := hide hlz
    clear hlz
    go_wp2
    go_loopw [6, 7] (fun l i wr => ∃ (k : Nat) (lst : Int), k ≤ lowN a1 201 ∧ i = .int .i64 k ∧ l = .int .u32 lst ∧ (0 ≤ lst ∧ lst < 4294967296) ∧ DiceAt wr b g ((z0.take len0).drop k) lst ∧ Below w.heap.size w wr)
      (fun _ i _ => lowN a1 201 - (intOf i).toNat)
    case atStart => exact ⟨0, 0, Nat.zero_le _, rfl, rfl, by omega, hd1, hbl1⟩
    case round =>
      obtain ⟨k, lst, hk, rfl, rfl, hlst, hd, hbl⟩ := hrel
      go_wp2_with fail
      refine (low_any a1 201 _ (by omega) (by omega)).mono ?_
      rintro e w2 ⟨rfl, rfl⟩
      by_cases hlt : k < lowN a1 201
      · by_cases hin : k < len0
        · obtain ⟨bx, off, rfl, hz1, hz2, hz3, hcs⟩ := ints_cell w0 (by omega)
          have hc := cell_later hbl (hcs k (by omega))
          have hw : 0 ≤ z0.getD k 0 ∧ z0.getD k 0 < 4294967296 := by
            have := hd.2.1 (z0.getD k 0) (by
              have e1 : (z0.take len0).getD k 0 = z0.getD k 0 := getD_take z0 len0 k 0 hin
              rw [← e1, List.drop_eq_getElem_cons (by rw [HZ.out]; exact hin)]
              simp [List.getD, hin, show k < z0.length by omega])
            exact this
          unfold maxLen at hz3
          clear hcs w0
          go_wp2_with fail
          refine (next_at wr b g (z0.take len0) k lst hd (by rw [HZ.out]; exact hin)).mono ?_
          rintro e w3 ⟨rfl, hd3, hgr⟩
          rw [getD_take z0 len0 k 0 hin] at hd3 ⊢
          have hbl3 := bl_next hbl hgr hb1
          go_wp2
          refine ⟨?_, by simp [intOf]; omega⟩
          first
            | exact ⟨k + 1, z0.getD k 0, by omega, by go_num, rfl, hw, hd3, hbl3⟩
            | ((repeat apply Exists.intro); exact ⟨⟨k + 1, z0.getD k 0, by omega, by go_num, rfl, hw, hd3, hbl3⟩, rfl⟩)
        · go_wp2_with fail
          refine (next_end wr b g (z0.take len0) k lst hd (by rw [HZ.out]; omega)).mono ?_
          rintro e w3 ⟨rfl, hd3, hgr⟩
          have hbl3 := bl_next hbl hgr hb1
          go_wp2
          refine ⟨?_, by simp [intOf]; omega⟩
          first
            | exact ⟨k + 1, _, by omega, by go_num, rfl, by omega, hd3, hbl3⟩
            | ((repeat apply Exists.intro); exact ⟨⟨k + 1, _, by omega, by go_num, rfl, by omega, hd3, hbl3⟩, rfl⟩)
      · go_wp2_with fail
        refine (awake1_any _).mono ?_
        rintro e w3 ⟨rfl, hb3⟩
        go_wp2
        go_ret
        exact ⟨rfl, bl_trans hbl hb3⟩
  · go_enter Try.func3, Try.ntmps3
    go_wp2_with fail
    refine (awake1_any _).mono ?_
    rintro e w1 ⟨rfl, hb1⟩
    go_wp2
    go_ret
    exact ⟨rfl, hb1⟩

set_option maxRecDepth 100000 in
theorem lifted (os : Os) (started : os.Started) (H : Type) (enc : TypeId × Value → H) :
    ReturnsInHanded {} Try.checked os 3 .any (Rows.diceTellsSpec.pre6 enc Try.prog Try.f3 Rows.diceTellsRow.domain false) (Rows.diceTellsSpec.post enc Try.prog Try.f3 false true false false) := by
  refine returnsInHanded_of_change (C := Try.checked) own started (by kernel_rfl) Try.func3
    (ChangeSpec.witness6 (enc := enc) (C := Try.checked) false ⟨#[], #[.slice none 0 0, .int .i64 0], []⟩ 8 (by kernel_rfl) (by kernel_rfl) (by kernel_rfl) (by kernel_rfl)) ?_
  intro W base args ds gs before hval0 hW hcnd _
  have hval : ∀ (j : Nat) t v, Try.f3.params[j]? = some t → args[j]? = some v → Value.okWide Try.prog W .any base t v := hval0
  have hW' := hW
  obtain ⟨p, q, hA0, hV, rfl, hfz, hnd⟩ := hW
  have hA : DataW.TrodAll enc Try.prog W 0 (fun _ => true) true Try.f3.params.toList args.toList ds p := hA0
  rw [Try.params3] at hA hval
  obtain ⟨v0, vs0, d0, ds0, p0, q0, hargs, rfl, rfl, h0, r0⟩ := trodAll_cons hA
  obtain ⟨v1, vs1, d1, ds1, p1, q1, rfl, rfl, rfl, h1, r1⟩ := trodAll_cons r0
  obtain ⟨rfl, rfl, rfl⟩ := trodAll_nil r1
  obtain rfl : args = #[v0, v1] := by cases args; simp_all
  obtain ⟨rfl, rfl⟩ := trodVars_none hV
  have k0 := h0
  have lt0 : ∀ x ∈ p0, x.block < W.heap.size := by obtain ⟨m, hm⟩ := k0; exact DataW.trod_lt m _ _ _ hm
  obtain ⟨a0, len0, cap0, rfl⟩ := okWide_slice Try.underlying22 (hval 0 22 v0 rfl rfl)
  obtain ⟨z0, w0⟩ : ∃ zs, IsInts .u32 W a0 len0 cap0 zs := by
    obtain ⟨fuel, hf⟩ := h0
    rcases open_ints Try.underlying22 Try.underlying26 (by kernel_rfl) hf with ⟨hcs, _⟩ | ⟨x, l, c, zs, hcs, _, hl, hm, hz, _, hcell, hwz⟩
    · simp [Value.cells] at hcs
      obtain ⟨rfl, rfl, rfl⟩ := hcs
      exact ⟨[], .inl ⟨rfl, rfl, rfl, rfl⟩⟩
    · simp [Value.cells] at hcs
      obtain ⟨rfl, rfl, rfl⟩ := hcs
      exact ⟨zs, .inr ⟨_, rfl, hl, hm, by simpa using hz, hcell, hwz⟩⟩
  have k1 := h1
  have lt1 : ∀ x ∈ p1, x.block < W.heap.size := by obtain ⟨m, hm⟩ := k1; exact DataW.trod_lt m _ _ _ hm
  obtain ⟨a1, rfl, hd1, hp1, w1⟩ := open_int Try.underlying3 (hval 1 3 v1 rfl rfl) h1
  clear hA0 hval0
  refine (walk a0 len0 cap0 z0 a1 W w0 w1).mono fun e W' ⟨he, bel⟩ => ?_
  subst he
  exact ⟨_, rfl, _, _, _, [], _, [], hW', trodAll_mk1 (shut_bool Try.underlying4 _), (trodAll_cons_mk (Below.trod laidOut (by kernel_rfl) (of_decide_eq_true (by kernel_rfl)) k0 bel lt0) (trodAll_cons_mk (Below.trod laidOut (by kernel_rfl) (of_decide_eq_true (by kernel_rfl)) k1 bel lt1) trodAll_mk0)), rfl, bel.frame _, fun h => by cases h⟩

theorem over : Rows.diceTellsRow.holds Try.pinned (OpenSpec.ofChange Rows.diceTellsSpec) :=
  OpenClaim.holds_of_wide 3 Try.f3 rfl rfl rfl rfl rfl rfl rfl ⟨rfl, rfl, rfl, rfl, rfl⟩ rfl rfl rfl rfl rfl (by kernel_rfl) Try.func3 (by kernel_rfl)
    (of_decide_eq_true (by kernel_rfl)) (by unfold Func.isWrapper; first | (rw [if_pos (by decide +kernel)]; kernel_rfl) | (rw [if_neg (by decide +kernel)]; exact ⟨rfl, rfl⟩))
    (fun os started H enc _ => lifted os started H enc)

theorem proved : Rows.DiceTellsSaid := over
end Go.Proofs.Ytdknaahkjhplgaa.diceTells
