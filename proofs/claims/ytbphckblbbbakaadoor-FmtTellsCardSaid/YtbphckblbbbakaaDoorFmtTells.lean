/- May any format be, what is it told as, what does it make of any parts: as the document tells. Conditions: none beyond the form's own. -/
import Derived.Test.YtbphckblbbbakaaDoorRows
import Derived.Test.YtbphckblbbbakaaDoorCards
import Derived.Test.YtbphckblbbbakaaDoorTie
import Derived.Lay
import Derived.LaidMore
import Derived.MakeChecks
import Derived.Stop.Joined
import Derived.SevenTiedAt
import Derived.Test.YtbphckblbbbakaaDoorArgs
import Derived.Test.YtbphckblbbbakaaDoorRfS
namespace Go.Proofs.YtbphckblbbbakaaDoor.fmtTells
open Go.Proofs.YtbphckblbbbakaaDoor
open Go.ChangeShapes Go.WideShapes Go.ChangeAt Go.RowKit Go.Deep
open Go.ChangeMaps (open_string shut_string)
set_option linter.unusedVariables false

theorem own : ownKnob Tryd.prog.godebug = none := by kernel_rfl
theorem laidOut : laidOutB Tryd.prog = true := by kernel_rfl
-- opt: 8000000
-- tied
theorem tot_in (l : List ByteArray) : ∀ x ∈ l, x.size ≤ tot l := by
  induction l with
  | nil => intro x hx; cases hx
  | cons s r ih =>
    intro x hx
    unfold tot
    rcases List.mem_cons.1 hx with rfl | hx
    · omega
    · have := ih x hx; omega
set_option maxRecDepth 100000 in
set_option maxHeartbeats 8000000 in
theorem walk (a0 : Value) (l0 : List Fm) (a1 : Option Addr) (len1 cap1 : Nat) (z1 : List ByteArray) (w : World) (w0 : FmAt w a0 l0) (b0 : ∀ d ∈ l0, WfF d) (w1 : IsStrs w a1 len1 cap1 z1) (hT : laidMetH Tryd.prog Rows.fmtTellsRow.laid w) :
    Calls Tryd.prog 3 #[a0, .slice a1 len1 cap1] w fun e w' => e = .returned (.bool true) ∧ Below w.heap.size w w' := by
  have HTAB := hide (pow_tab hT)
  have HLA := hide (left_any a0 l0 200 w w0 b0 (by decide))
  have HF := hide w0
  have HP := hide (strs_srat w1)
  have HLONG := hide (fun W (h : IsStrs W a1 len1 cap1 z1) => long_any W 100 a1 len1 cap1 z1 h (by decide) (by decide))
  have HST := hide w1
  have hzl : (z1.take len1).length = len1 := by have := strs_len w1; rw [List.length_take]; omega
  clear b0 hT
  obtain ⟨vA, vc, rfl⟩ := fmat_len w0
  clear w0
  go_enter Tryd.func3, Tryd.ntmps3
  go_wp2_with fail
  refine HLA.out.mono ?_
  rintro eA wB ⟨r0, rfl, hbA, hokA⟩
  have HBB := hide hbA
  clear hbA HLA
  by_cases h0 : r0 < 0
  · have g0 : decide (r0 < 0) = true := decide_eq_true h0
    clear h0 hokA
    go_wp2_with fail
    refine (awake18_any _).mono ?_
    rintro e w9 ⟨rfl, hb9⟩
    go_wp2
    go_ret
    exact ⟨rfl, bl_trans HBB.out hb9⟩
  have g0 : decide (r0 < 0) = false := decide_eq_false h0
  obtain ⟨_, hokz⟩ := hokA.out (by omega)
  clear hokA h0
  by_cases c3 : 20 < l0.length
  · have g3 : decide ((20 : Int) < (l0.length : Int)) = true := decide_eq_true (by omega)
    have g3' : decide (20 < l0.length) = true := decide_eq_true c3
    clear c3
    go_wp2_with fail
    refine (awake18_any _).mono ?_
    rintro e w9 ⟨rfl, hb9⟩
    go_wp2
    go_ret
    exact ⟨rfl, bl_trans HBB.out hb9⟩
  have g3 : decide ((20 : Int) < (l0.length : Int)) = false := decide_eq_false (by omega)
  have g3' : decide (20 < l0.length) = false := decide_eq_false c3
  by_cases c5 : 10 < len1
  · have g5 : decide ((10 : Int) < (len1 : Int)) = true := decide_eq_true (by omega)
    have g5' : decide (10 < len1) = true := decide_eq_true c5
    clear c3 c5
    go_wp2_with fail
    refine (awake18_any _).mono ?_
    rintro e w9 ⟨rfl, hb9⟩
    go_wp2
    go_ret
    exact ⟨rfl, bl_trans HBB.out hb9⟩
  have g5 : decide ((10 : Int) < (len1 : Int)) = false := decide_eq_false (by omega)
  have g5' : decide (10 < len1) = false := decide_eq_false c5
  have hst2 : IsStrs wB a1 len1 cap1 z1 := by
    rcases HST.out with h | ⟨x, h1, h2, h3, h4, h5, h6⟩
    · exact .inl h
    · exact .inr ⟨x, h1, h2, h3, h4, fun i hi => cell_later HBB.out (h5 i hi), h6⟩
  have HLG := hide (HLONG.out _ hst2)
  clear hst2
  obtain ⟨lg, hlg⟩ : ∃ lg, longL 100 (z1.take len1) = lg := ⟨_, rfl⟩
  rw [hlg] at HLG
  cases lg
  rotate_left
  · clear c3 c5 hlg
    go_wp2_with fail
    refine HLG.out.mono ?_
    rintro e w8 ⟨rfl, rfl⟩
    go_wp2_with fail
    refine (awake18_any _).mono ?_
    rintro e w9 ⟨rfl, hb9⟩
    go_wp2
    go_ret
    exact ⟨rfl, bl_trans HBB.out hb9⟩
  have htot := tot_le (z1.take len1) 100 (by decide) hlg
  have hps : ∀ x ∈ z1.take len1, x.size ≤ 100 := fun x hx => by have := tot_in _ x hx; omega
  clear hlg htot
  have hl3 : l0.length ≤ 20 := by omega
  have hl5 : len1 ≤ 10 := by omega
  obtain ⟨ps, hpsl⟩ : ∃ ps, z1.take len1 = ps := ⟨_, rfl⟩
  rw [hpsl] at HP hps hzl
  have hpt : ∀ n, (ptF ps n).size ≤ 200 := fun n => Nat.le_trans (ptF_le hps n) (by decide)
  have hpt2 : ∀ n, (ptF ps n).size ≤ 1000 := fun n => Nat.le_trans (hpt n) (by decide)
  have hz2 : SzL 200 l0 := fun d hd => by
    obtain ⟨i, hi, rfl⟩ := List.getElem_of_mem hd
    exact hokz i hi
  have hz1 : SzL 1000 l0 := fun d hd => ⟨by have := (hz2 d hd).1; omega, by have := (hz2 d hd).2; omega⟩
  have hmz : ∀ d ∈ l0, (mkF ps d).size ≤ 200 := fun d hd => mkF_le ps d 200 (hz2 d hd).1 (hz2 d hd).2 (hpt _)
  have hmz2 : ∀ d ∈ l0, (mkF ps d).size ≤ 1000000 := fun d hd => Nat.le_trans (hmz d hd) (by decide)
  have HS1 := hide (fun W (hb : Below w.heap.size w W) => show_any _ l0 W (fmat_below HF.out hb) (by omega) hz1 (tab_bl HTAB.out hb))
  have HS2 := hide (fun W (hb : Below w.heap.size w W) => rshow_any _ l0 W (fmat_below HF.out hb) (by omega) hz1)
  have HM1 := hide (fun W (hb : Below w.heap.size w W) => fmayL_any _ l0 W (fmat_below HF.out hb) (by omega))
  have HM2 := hide (fun W (hb : Below w.heap.size w W) => rmayL_any _ l0 W (fmat_below HF.out hb) (by omega))
  have HA1 := hide (fun W (hb : Below w.heap.size w W) => fapplyL_any _ _ l0 ps W (fmat_below HF.out hb) (srat_below HP.out hb) (by omega) (by omega) hpt2 hmz2)
  have HA2 := hide (fun W (hb : Below w.heap.size w W) => rapplyL_any _ _ l0 ps W (fmat_below HF.out hb) (srat_below HP.out hb) (by omega) (by omega) hpt2 hmz2)
  unfold ShPost at HS1 HS2
  obtain ⟨T, hT⟩ : ∃ T, (if mayL l0 = true then mkB (shL l0) else ⟨#[]⟩) = T := ⟨_, rfl⟩
  obtain ⟨E, hE⟩ : ∃ E : Int, (if mayL l0 = true then 0 else 10) = E := ⟨_, rfl⟩
  obtain ⟨A, hA⟩ : ∃ A : ByteArray, ⟨(if mayL l0 = true then mkL ps l0 else []).toArray⟩ = A := ⟨_, rfl⟩
  rw [hT, hE] at HS1 HS2
  rw [hA] at HA1 HA2
  obtain ⟨m, hm⟩ : ∃ m, mayL l0 = m := ⟨_, rfl⟩
  rw [hm] at HM1 HM2
  clear hT hE hA hm hokz c3 c5 hz1 hz2 hmz hmz2 hpt hpt2 hps hpsl HP HTAB
  go_wp2_with fail
  refine HLG.out.mono ?_
  rintro e w8 ⟨rfl, rfl⟩
  go_wp2_with fail
  refine (HS1.out _ HBB.out).mono ?_
  rintro e w1 ⟨rfl, hb1⟩
  have HB1 := hide (bl_trans HBB.out hb1)
  clear hb1
  go_wp2_with fail
  refine (HS2.out _ HB1.out).mono ?_
  rintro e w2 ⟨rfl, hb2⟩
  have HB2 := hide (bl_trans HB1.out hb2)
  clear hb2
  go_wp2_with fail
  refine (HM1.out _ HB2.out).mono ?_
  rintro e w3 ⟨rfl, hb3⟩
  have HB3 := hide (bl_trans HB2.out hb3)
  clear hb3
  go_wp2_with fail
  refine (HM2.out _ HB3.out).mono ?_
  rintro e w4 ⟨rfl, hb4⟩
  have HB4 := hide (bl_trans HB3.out hb4)
  clear hb4
  have em : (m == m) = true := by cases m <;> rfl
  go_wp2_with fail
  refine (HA1.out _ HB4.out).mono ?_
  rintro e w5 ⟨rfl, hb5⟩
  have HB5 := hide (bl_trans HB4.out hb5)
  clear hb5
  go_wp2_with fail
  refine (HA2.out _ HB5.out).mono ?_
  rintro e w6 ⟨rfl, hb6⟩
  have HB6 := hide (bl_trans HB5.out hb6)
  clear hb6
  go_wp2_with fail
  refine (awake18_any _).mono ?_
  rintro e w9 ⟨rfl, hb9⟩
  have HB9 := hide (bl_trans HB6.out hb9)
  clear hb9
  go_wp2
  go_ret
  exact ⟨rfl, HB9.out⟩

set_option maxRecDepth 100000 in
theorem lifted (os : Os) (started : os.Started) (H : Type) (enc : TypeId × Value → H) :
    ReturnsInHanded {} Tryd.checked os 3 .any (fun w args => (Rows.fmtTellsSpec.pre enc Tryd.prog Tryd.f3 Rows.fmtTellsRow.domain false w args ∧ laidMetH Tryd.prog Rows.fmtTellsRow.laid w) ∧ sizedMet enc Tryd.prog Tryd.f3 (OpenSpec.ofChange Rows.fmtTellsSpec) false w args) (Rows.fmtTellsSpec.post enc Tryd.prog Tryd.f3 false true false false) := by
  refine returnsInHanded_of_change_and (C := Tryd.checked) (X := fun w _ => laidMetH Tryd.prog Rows.fmtTellsRow.laid w) (fun _ _ _ hh h => h.of_heap hh) own started (by kernel_rfl) Tryd.func3
    (ChangeSpec.witness_shaped (enc := enc) (C := Tryd.checked) (os := os) (X := fun w _ => laidMetH Tryd.prog Rows.fmtTellsRow.laid w) false (World.laidAll Tryd.prog os Rows.fmtTellsRow.laid) #[.slice none 0 0, .slice none 0 0] 8 (World.laidAll_os _ _ _)
      (World.shaped_of_ZipB (by kernel_rfl) (by kernel_rfl)) (by kernel_rfl) (by kernel_rfl) (by kernel_rfl)
      (by rw [MakeChecks.laidMetH_plain _ _ _ (by kernel_rfl)]; exact laidMet_laidAll _ (by kernel_rfl) (by kernel_rfl))) ?_
  intro W base args ds gs before hval0 hW hcnd _ hL _
  have hval : ∀ (j : Nat) t v, Tryd.f3.params[j]? = some t → args[j]? = some v → Value.okWide Tryd.prog W .any base t v := hval0
  have hW' := hW
  obtain ⟨p, q, hA0, hV, rfl, hfz, hnd⟩ := hW
  have hA : DataW.TrodAll enc Tryd.prog W 0 (fun _ => true) true Tryd.f3.params.toList args.toList ds p := hA0
  rw [Tryd.params3] at hA hval
  obtain ⟨v0, vs0, d0, ds0, p0, q0, hargs, rfl, rfl, h0, r0⟩ := trodAll_cons hA
  obtain ⟨v1, vs1, d1, ds1, p1, q1, rfl, rfl, rfl, h1, r1⟩ := trodAll_cons r0
  obtain ⟨rfl, rfl, rfl⟩ := trodAll_nil r1
  obtain rfl : args = #[v0, v1] := by cases args; simp_all
  obtain ⟨rfl, rfl⟩ := trodVars_none hV
  have k0 := h0
  have lt0 : ∀ x ∈ p0, x.block < W.heap.size := by obtain ⟨m, hm⟩ := k0; exact DataW.trod_lt m _ _ _ hm
  obtain ⟨l0, w0, b0⟩ := open_fmts (hval 0 22 v0 rfl rfl) h0
  have k1 := h1
  have lt1 : ∀ x ∈ p1, x.block < W.heap.size := by obtain ⟨m, hm⟩ := k1; exact DataW.trod_lt m _ _ _ hm
  obtain ⟨a1, len1, cap1, rfl⟩ := okWide_slice Tryd.underlying23 (hval 1 23 v1 rfl rfl)
  obtain ⟨z1, w1⟩ : ∃ zs, IsStrs W a1 len1 cap1 zs := by
    obtain ⟨fuel, hf⟩ := h1
    rcases open_strings Tryd.underlying23 Tryd.underlying9 (by kernel_rfl) hf with ⟨hcs, _⟩ | ⟨x, l, c, zs, hcs, _, hl, hm, hz, _, hcell, hwz⟩
    · simp [Value.cells] at hcs
      obtain ⟨rfl, rfl, rfl⟩ := hcs
      exact ⟨[], .inl ⟨rfl, rfl, rfl, rfl⟩⟩
    · simp [Value.cells] at hcs
      obtain ⟨rfl, rfl, rfl⟩ := hcs
      exact ⟨zs, .inr ⟨_, rfl, hl, hm, by simpa using hz, hcell, hwz⟩⟩
  clear hA0 hval0
  refine (walk v0 l0 a1 len1 cap1 z1 W w0 b0 w1 hL).mono fun e W' ⟨he, bel⟩ => ?_
  subst he
  exact ⟨_, rfl, _, _, _, [], _, [], hW', trodAll_mk1 (shut_bool Tryd.underlying4 _), (trodAll_cons_mk (Below.trod laidOut (by kernel_rfl) (of_decide_eq_true (by kernel_rfl)) k0 bel lt0) (trodAll_cons_mk (Below.trod laidOut (by kernel_rfl) (of_decide_eq_true (by kernel_rfl)) k1 bel lt1) trodAll_mk0)), rfl, bel.frame _, fun h => by cases h⟩

theorem over : Rows.fmtTellsRow.holds Tryd.pinned (OpenSpec.ofChange Rows.fmtTellsSpec) :=
  OpenClaim.holds_of_wide 3 Tryd.f3 rfl rfl rfl rfl rfl rfl rfl ⟨rfl, rfl, rfl, rfl, rfl⟩ rfl rfl rfl rfl rfl (by kernel_rfl) Tryd.func3 (by kernel_rfl)
    (of_decide_eq_true (by kernel_rfl)) (by unfold Func.isWrapper; first | (rw [if_pos (by decide +kernel)]; kernel_rfl) | (rw [if_neg (by decide +kernel)]; exact ⟨rfl, rfl⟩))
    (fun os started H enc _ => lifted os started H enc)

set_option maxRecDepth 100000 in
theorem proved : Rows.FmtTellsCardSaid :=
  Claim7.holds_tied_plain_at .later [] [.data, .data, .data] true (true, "6e813d11ed4261d374731e03baa0b1cda1c60101c5d92033ea8ab7b64e81d4ed") false
    over (fun _ h => by cases h) (by kernel_rfl) (fun _ h => by cases h) fmtTells_row_tie rfl ⟨rfl, rfl⟩ (by kernel_rfl) rfl
    (fun f fn hf hfn => by
      obtain rfl : f = 3 := Option.some.inj ((show Tryd.prog.funcNamed "gimlet/gimletlaw18.FmtTells" = some 3 by kernel_rfl).symm.trans hf) |>.symm
      obtain rfl : fn = Tryd.f3 := (Option.some.inj (Tryd.func3.symm.trans hfn)).symm
      refine ⟨by kernel_rfl, fun j t ht => ?_⟩
      rw [Tryd.params3] at ht
      have hm := Array.mem_of_getElem? ht
      simp at hm
      first
        | (rcases hm with rfl <;> first  | exact (show Tryd.prog.wantsStandIn 22 = false by kernel_rfl) | exact (show Tryd.prog.wantsStandIn 23 = false by kernel_rfl))
        | (rcases hm with rfl | rfl <;> first  | exact (show Tryd.prog.wantsStandIn 22 = false by kernel_rfl) | exact (show Tryd.prog.wantsStandIn 23 = false by kernel_rfl)))
    (by kernel_rfl)
end Go.Proofs.YtbphckblbbbakaaDoor.fmtTells
