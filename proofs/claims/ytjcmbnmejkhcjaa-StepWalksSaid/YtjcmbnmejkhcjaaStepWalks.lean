/- GoRight from the top, again and again, comes to the end by as many steps as there are characters; GoWordR comes there, too. Conditions: none beyond the form's own. -/
import Derived.Test.YtjcmbnmejkhcjaaRows
import Derived.Test.YtjcmbnmejkhcjaaArgs
import Derived.Test.YtjcmbnmejkhcjaaMotEnd
namespace Go.Proofs.Ytjcmbnmejkhcjaa.stepWalks
open Go.Proofs.Ytjcmbnmejkhcjaa
open Go.ChangeShapes Go.WideShapes Go.ChangeAt Go.RowKit Go.Deep
open Go.ChangeMaps (open_string shut_string)
set_option linter.unusedVariables false

theorem own : ownKnob Try.prog.godebug = none := by kernel_rfl
theorem laidOut : laidOutB Try.prog = true := by kernel_rfl
-- opt:16000000
attribute [local go_sem ↓] Go.wp_at_zero Go.wp_at_succ
set_option maxRecDepth 100000 in
set_option maxHeartbeats 16000000 in
theorem walk (a0 : ByteArray) (w : World) (w0 : a0.size ≤ maxLen) :
    Calls Try.prog 6 #[.string a0] w fun e w' => e = .returned (.bool true) ∧ Below w.heap.size w w' := by
  by_cases h0 : a0.size ≤ 120
  · have g0 : decide (120 < (a0.size : Int)) = false := decide_eq_false (by omega)
    have hxl : a0.data.toList.length = a0.size := rfl
    have HM := hide (chN_bd a0.data.toList a0.size (by omega))
    obtain ⟨m, hm⟩ : ∃ m : Nat, chN a0.data.toList a0.size = m := ⟨(chN a0.data.toList a0.size).toNat, by have := HM.out; omega⟩
    have hms : m ≤ a0.size := by have := HM.out; omega
    have HMM := hide hm
    clear hm HM hxl
    go_enter Try.func6, Try.ntmps6
    go_wp2_with fail
    refine (of9_b a0 _ (by omega)).mono ?_
    rintro e w1 ⟨r, rfl, hL, hb1, _⟩
    have c0 := ln_c0 w1 r
    have HB := hide (bl_trans hb1 (ln_b0 w1 r))
    have HL := hide (hL.bl (ln_b0 w1 r))
    clear hL hb1
    have c09 := c0
    have HB9 := HB
    have HL9 := HL
    clear c0 HB HL
    go_wp2
    go_loop [5, 6] (fun b i => ∃ k n : Nat, i = .int .i64 k ∧ b = .int .i64 n ∧ k ≤ a0.size ∧ n ≤ k ∧ Hid ((n : Int) = chN a0.data.toList k)) (fun _ i => a0.size - (intOf i).toNat)
    case atStart => exact ⟨0, 0, rfl, rfl, Nat.zero_le _, Nat.le_refl _, hide (by rw [chN_zero]; rfl)⟩
    case round =>
      obtain ⟨k, n, rfl, rfl, hk, hnk, HN⟩ := hrel
      by_cases hlt : k < a0.size
      · have hs := chN_succ a0.data.toList k hlt
        have hc8 : (a0[k].toNat : Int) < 256 := by have := a0[k].toNat_lt; omega
        have hl := ld_s a0 k hlt
        rcases k with _ | j
        · have HN2 : Hid (((n + 1 : Nat) : Int) = chN a0.data.toList (0 + 1)) := hide (by have := HN.out; rw [if_pos (.inl rfl)] at hs; omega)
          clear hs hl HN
          rw [show ((0 : Nat) : Int) = 0 from rfl]
          go_wp2
          refine ⟨?_, by first | (simp [intOf]; done) | (simp [intOf]; omega)⟩
          first
            | exact ⟨0 + 1, n + 1, by go_num, by go_num, by omega, by omega, HN2⟩
            | ((repeat apply Exists.intro); exact ⟨⟨0 + 1, n + 1, by go_num, by go_num, by omega, by omega, HN2⟩, rfl⟩)
        · have gz : (((j + 1 : Nat) : Int) == 0) = false := by simp; omega
          have gz2 : ((j : Int) + 1 == 0) = false := by simp; omega
          by_cases h1 : a0[j + 1].toNat < 128
          · have hlt1 : ldP a0.data.toList (j + 1) = true := by rw [hl]; exact decide_eq_true (.inl h1)
            have g1 : decide ((a0[j + 1].toNat : Int) < 128) = true := decide_eq_true (by omega)
            have g2 : decide (a0[j + 1].toNat < 128) = true := decide_eq_true h1
            have HN2 : Hid (((n + 1 : Nat) : Int) = chN a0.data.toList (j + 1 + 1)) := hide (by have := HN.out; rw [if_pos (.inr hlt1)] at hs; omega)
            clear hs hl HN hlt1 h1
            go_wp2
            refine ⟨?_, by first | (simp [intOf]; done) | (simp [intOf]; omega)⟩
            first
              | exact ⟨j + 1 + 1, n + 1, by go_num, by go_num, by omega, by omega, HN2⟩
              | ((repeat apply Exists.intro); exact ⟨⟨j + 1 + 1, n + 1, by go_num, by go_num, by omega, by omega, HN2⟩, rfl⟩)
          · have g1 : decide ((a0[j + 1].toNat : Int) < 128) = false := decide_eq_false (by omega)
            have g2 : decide (a0[j + 1].toNat < 128) = false := decide_eq_false h1
            by_cases h2 : 191 < a0[j + 1].toNat
            · have hlt1 : ldP a0.data.toList (j + 1) = true := by rw [hl]; exact decide_eq_true (.inr h2)
              have g3 : decide ((191 : Int) < (a0[j + 1].toNat : Int)) = true := decide_eq_true (by omega)
              have g4 : decide (191 < a0[j + 1].toNat) = true := decide_eq_true h2
              have HN2 : Hid (((n + 1 : Nat) : Int) = chN a0.data.toList (j + 1 + 1)) := hide (by have := HN.out; rw [if_pos (.inr hlt1)] at hs; omega)
              clear hs hl HN hlt1 h1 h2
              go_wp2
              refine ⟨?_, by first | (simp [intOf]; done) | (simp [intOf]; omega)⟩
              first
                | exact ⟨j + 1 + 1, n + 1, by go_num, by go_num, by omega, by omega, HN2⟩
                | ((repeat apply Exists.intro); exact ⟨⟨j + 1 + 1, n + 1, by go_num, by go_num, by omega, by omega, HN2⟩, rfl⟩)
            · have hlt1 : ldP a0.data.toList (j + 1) = false := by rw [hl]; exact decide_eq_false (by omega)
              have g3 : decide ((191 : Int) < (a0[j + 1].toNat : Int)) = false := decide_eq_false (by omega)
              have g4 : decide (191 < a0[j + 1].toNat) = false := decide_eq_false h2
              have HN2 : Hid ((n : Int) = chN a0.data.toList (j + 1 + 1)) := hide (by have := HN.out; rw [if_neg (by rw [hlt1]; simp)] at hs; omega)
              clear hs hl HN hlt1 h1 h2
              go_wp2
              refine ⟨?_, by first | (simp [intOf]; done) | (simp [intOf]; omega)⟩
              first
                | exact ⟨j + 1 + 1, n, by go_num, rfl, by omega, by omega, HN2⟩
                | ((repeat apply Exists.intro); exact ⟨⟨j + 1 + 1, n, by go_num, rfl, by omega, by omega, HN2⟩, rfl⟩)
      · obtain rfl : k = a0.size := by omega
        have hnm : n = m := by have := HN.out; rw [HMM.out] at this; omega
        subst hnm
        clear HN hlt hnk hk
        go_wp2
        go_loopw [7, 8, 9] (fun va vf vi wr => ∃ A F j : Nat, va = .int .i64 A ∧ vf = .int .i64 F ∧ vi = .int .i64 j ∧ j ≤ n ∧ A ≤ F ∧ F ≤ a0.size ∧ Hid (ChAt a0.data.toList j A) ∧ wr.cell? ⟨w1.heap.size, 0, none⟩ = some (.pointer (some ⟨r, 0, none⟩)) ∧ Hid (LnAt wr r a0) ∧ Hid (Below w.heap.size w wr)) (fun _ _ i _ => n - (intOf i).toNat)
        case atStart => exact ⟨0, 0, 0, rfl, rfl, rfl, Nat.zero_le _, Nat.le_refl _, Nat.zero_le _, hide (ch_top _), c09, HL9, HB9⟩
        case round =>
          clear c09 HL9 HB9
          obtain ⟨A, F, j, rfl, rfl, rfl, hj, hAF, hF, HC, c0, HL, HB⟩ := hrel
          by_cases hlt : j < n
          · have hA := ch_lt a0.data.toList j A HC.out (by rw [show a0.data.toList.length = a0.size from rfl, HMM.out]; omega)
            have hA2 : A < a0.size := hA
            have HC2 := hide (ch_next a0.data.toList j A HC.out hA)
            have w2 := wr_at a0.data.toList F hF
            have w3 := wr_rt a0.data.toList A hA
            have w4 := wr_mono a0.data.toList A F hAF hF
            have w5 : wrM a0.data.toList F ≤ a0.size := w2.2.1
            have w6 := w2.1
            have HS1 := hide (fun (W : World) (r : Nat) (h : LnAt W r a0) => Step_k h (by omega) A (by omega) 2 (by decide) (by decide) (rtM a0.data.toList A) rfl)
            have HS2 := hide (fun (W : World) (r : Nat) (h : LnAt W r a0) => Step_k h (by omega) F hF 10 (by decide) (by decide) (wrM a0.data.toList F) rfl)
            have w7 : rtM a0.data.toList A ≤ wrM a0.data.toList F := by omega
            clear w2 w3 w4 hA HC
            generalize rtM a0.data.toList A = A2 at *
            generalize wrM a0.data.toList F = F2 at *
            have gji : decide ((j : Int) < (n : Int)) = true := decide_eq_true (by omega)
            have gjn : decide (j < n) = true := decide_eq_true (by omega)
            have gai : decide ((a0.size : Int) ≤ (A : Int)) = false := decide_eq_false (by omega)
            have gan : decide (a0.size ≤ A) = false := decide_eq_false (by omega)
            have gfi : decide ((F2 : Int) < (F : Int)) = false := decide_eq_false (by omega)
            have gfn : decide (F2 < F) = false := decide_eq_false (by omega)
            go_wp2_with fail
            (with_reducible refine (HS1.out _ _ HL.out).mono ?_)
            rintro e v58 ⟨rfl, hb⟩
            have c0 := cell_later hb c0
            have HB := hide (bl_trans HB.out hb)
            have HL := hide (HL.out.bl hb)
            clear hb
            go_wp2_with fail
            (with_reducible refine (HS2.out _ _ HL.out).mono ?_)
            rintro e v59 ⟨rfl, hb⟩
            have c0 := cell_later hb c0
            have HB := hide (bl_trans HB.out hb)
            have HL := hide (HL.out.bl hb)
            clear hb
            go_wp2
            refine ⟨?_, by first | (simp [intOf]; done) | (simp [intOf]; omega)⟩
            first
              | exact ⟨A2, F2, j + 1, rfl, rfl, by go_num, by omega, w7, w5, HC2, c0, HL, HB⟩
              | ((repeat apply Exists.intro); exact ⟨⟨A2, F2, j + 1, rfl, rfl, by go_num, by omega, w7, w5, HC2, c0, HL, HB⟩, rfl⟩)
          · have hA : A = a0.size := ch_end a0.data.toList j A HC.out (by rw [show a0.data.toList.length = a0.size from rfl, HMM.out]; omega)
            subst hA
            have hFe : F = a0.size := by omega
            subst hFe
            have gji : decide ((j : Int) < (n : Int)) = false := decide_eq_false (by omega)
            have gjn : decide (j < n) = false := decide_eq_false (by omega)
            clear HC hAF hF
            go_wp2_with fail
            refine (awake9_any _).mono ?_
            rintro e w9 ⟨rfl, hb⟩
            have HB := hide (bl_trans HB.out hb)
            go_wp2
            go_ret
            exact ⟨rfl, HB.out⟩
  · have g0 : decide (120 < (a0.size : Int)) = true := decide_eq_true (by omega)
    go_enter Try.func6, Try.ntmps6
    go_wp2_with fail
    refine (awake9_any _).mono ?_
    rintro e w9 ⟨rfl, hb⟩
    go_wp2
    go_ret
    exact ⟨rfl, hb⟩

set_option maxRecDepth 100000 in
theorem lifted (os : Os) (started : os.Started) (H : Type) (enc : TypeId × Value → H) :
    ReturnsInHanded {} Try.checked os 6 .any (Rows.stepWalksSpec.pre6 enc Try.prog Try.f6 Rows.stepWalksRow.domain false) (Rows.stepWalksSpec.post enc Try.prog Try.f6 false true false false) := by
  refine returnsInHanded_of_change (C := Try.checked) own started (by kernel_rfl) Try.func6
    (ChangeSpec.witness6 (enc := enc) (C := Try.checked) false ⟨#[], #[.string ByteArray.empty], []⟩ 8 (by kernel_rfl) (by kernel_rfl) (by kernel_rfl) (by kernel_rfl)) ?_
  intro W base args ds gs before hval0 hW hcnd _
  have hval : ∀ (j : Nat) t v, Try.f6.params[j]? = some t → args[j]? = some v → Value.okWide Try.prog W .any base t v := hval0
  have hW' := hW
  obtain ⟨p, q, hA0, hV, rfl, hfz, hnd⟩ := hW
  have hA : DataW.TrodAll enc Try.prog W 0 (fun _ => true) true Try.f6.params.toList args.toList ds p := hA0
  rw [Try.params6] at hA hval
  obtain ⟨v0, vs0, d0, ds0, p0, q0, hargs, rfl, rfl, h0, r0⟩ := trodAll_cons hA
  obtain ⟨rfl, rfl, rfl⟩ := trodAll_nil r0
  obtain rfl : args = #[v0] := by cases args; simp_all
  obtain ⟨rfl, rfl⟩ := trodVars_none hV
  have k0 := h0
  have lt0 : ∀ x ∈ p0, x.block < W.heap.size := by obtain ⟨m, hm⟩ := k0; exact DataW.trod_lt m _ _ _ hm
  obtain ⟨a0, rfl, hd0, hp0, w0⟩ := open_string Try.underlying9 (hval 0 9 v0 rfl rfl) h0
  clear hA0 hval0
  refine (walk a0 W w0).mono fun e W' ⟨he, bel⟩ => ?_
  subst he
  exact ⟨_, rfl, _, _, _, [], _, [], hW', trodAll_mk1 (shut_bool Try.underlying4 _), (trodAll_cons_mk (Below.trod laidOut (by kernel_rfl) (of_decide_eq_true (by kernel_rfl)) k0 bel lt0) trodAll_mk0), rfl, bel.frame _, fun h => by cases h⟩

theorem over : Rows.stepWalksRow.holds Try.pinned (OpenSpec.ofChange Rows.stepWalksSpec) :=
  OpenClaim.holds_of_wide 6 Try.f6 rfl rfl rfl rfl rfl rfl rfl ⟨rfl, rfl, rfl, rfl, rfl⟩ rfl rfl rfl rfl rfl (by kernel_rfl) Try.func6 (by kernel_rfl)
    (of_decide_eq_true (by kernel_rfl)) (by unfold Func.isWrapper; first | (rw [if_pos (by decide +kernel)]; kernel_rfl) | (rw [if_neg (by decide +kernel)]; exact ⟨rfl, rfl⟩))
    (fun os started H enc _ => lifted os started H enc)

theorem proved : Rows.StepWalksSaid := over
end Go.Proofs.Ytjcmbnmejkhcjaa.stepWalks
