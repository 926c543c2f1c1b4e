/- What is read of any text may be, and, told and read again, is the same. Conditions: none beyond the form's own. -/
import Derived.Test.YtbphckblbbbakaaDoorRows
import Derived.Test.YtbphckblbbbakaaDoorCards
import Derived.Test.YtbphckblbbbakaaDoorTie
import Derived.Lay
import Derived.LaidMore
import Derived.MakeChecks
import Derived.Stop.Joined
import Derived.SevenTiedAt
import Derived.Test.YtbphckblbbbakaaDoorArgs
import Derived.Test.YtbphckblbbbakaaDoorShoB
import Derived.Test.YtbphckblbbbakaaDoorLow
namespace Go.Proofs.YtbphckblbbbakaaDoor.fmtAgain
open Go.Proofs.YtbphckblbbbakaaDoor
open Go.ChangeShapes Go.WideShapes Go.ChangeAt Go.RowKit Go.Deep
open Go.ChangeMaps (open_string shut_string)
set_option linter.unusedVariables false

theorem own : ownKnob Tryd.prog.godebug = none := by kernel_rfl
theorem laidOut : laidOutB Tryd.prog = true := by kernel_rfl
-- opt: 8000000
-- tied
theorem shL_le (l : List Fm) (n : Nat) (h : ∀ d ∈ l, mayF d = true) (hz : SzL n l) : (shL l).length ≤ l.length * (4 * n + 30) := by
  induction l with
  | nil => simp [shL]
  | cons d l ih =>
    rw [show shL (d :: l) = shF d ++ shL l from rfl, List.length_append, List.length_cons, Nat.add_mul, Nat.one_mul]
    have h1 := shF_le d n (may_n9 (h d (by simp))).2 (hz d (by simp)).1 (hz d (by simp)).2
    have h2 := ih (fun x hx => h x (by simp [hx])) (fun x hx => hz x (by simp [hx]))
    omega
theorem may_all {l : List Fm} (h : mayL l = true) : ∀ d ∈ l, mayF d = true := fun d hd => by
  obtain ⟨i, hi, rfl⟩ := List.getElem_of_mem hd
  exact may_in h i hi
set_option maxRecDepth 100000 in
set_option maxHeartbeats 8000000 in
theorem walk (a0 : ByteArray) (a1 : Int) (w : World) (w0 : a0.size ≤ maxLen) (w1 : (Lit.int .i64 a1).wf = true) (hT : laidMetH Tryd.prog Rows.fmtAgainRow.laid w) :
    Calls Tryd.prog 5 #[.string a0, .int .i64 a1] w fun e w' => e = .returned (.bool true) ∧ Below w.heap.size w w' := by
  have HTAB := hide (pow_tab hT)
  clear hT
  by_cases hA : 200 < a0.size
  · have g1 : decide ((200 : Int) < (a0.size : Int)) = true := decide_eq_true (by omega)
    have g1' : decide (200 < a0.size) = true := decide_eq_true hA
    clear hA
    go_enter Tryd.func5, Tryd.ntmps5
    go_wp2_with fail
    refine (awake18_any _).mono ?_
    rintro e w9 ⟨rfl, hb9⟩
    go_wp2
    go_ret
    exact ⟨rfl, hb9⟩
  have g1 : decide ((200 : Int) < (a0.size : Int)) = false := decide_eq_false (by omega)
  have g1' : decide (200 < a0.size) = false := decide_eq_false hA
  have hA2 : a0.size ≤ 200 := by omega
  have e1 : IntKind.i64.wrap ((a0.size : Int) + 1) = (a0.size : Int) + 1 := by rw [IntKind.wrap_i64]; omega
  have hlow := lowN_lt a1 (a0.size + 1) (by omega)
  have HLW := hide (fun (W : World) => (show Calls Tryd.prog 17 #[.int .i64 a1, .int .i64 ((a0.size : Int) + 1)] W fun e w' => e = .returned (.int .i64 (lowN a1 (a0.size + 1))) ∧ W = w' from low_any a1 (a0.size + 1) W (by omega) (by omega)))
  obtain ⟨kk, hkk⟩ : ∃ kk, lowN a1 (a0.size + 1) = kk := ⟨_, rfl⟩
  rw [hkk] at hlow HLW
  have hk : kk ≤ a0.size := by omega
  obtain ⟨z, hz⟩ : ∃ z, readF (a0.size + 1) (a0.data.toList.drop kk) [] [] [] = z := ⟨_, rfl⟩
  have HR := hide (fun W => read_any (w := W) (s := a0) (k := kk) hk (by omega) z hz)
  have hdl : (a0.data.toList.drop kk).length = a0.size - kk := by rw [List.length_drop, Array.length_toList]; rfl
  have HRI := hide (fun fs r (h : z = some (fs, r)) => read_is (a0.size + 1) a0.size (a0.data.toList.drop kk) [] [] [] rfl (fun d hd => by cases hd) (by rw [hdl]; simp) (fun d hd => by cases hd) fs r (hz.trans h))
  clear hz hkk hlow hA
  rcases z with _ | ⟨fs, r⟩
  · clear HRI
    go_enter Tryd.func5, Tryd.ntmps5
    go_wp2_with fail
    refine (HLW.out _).mono ?_
    rintro e w1 ⟨rfl, rfl⟩
    go_wp2_with fail
    refine (HR.out _).mono ?_
    rintro e w1 ⟨rfl, hb1⟩
    go_wp2_with fail
    refine (awake18_any _).mono ?_
    rintro e w9 ⟨rfl, hb9⟩
    go_wp2
    go_ret
    exact ⟨rfl, bl_trans hb1 hb9⟩
  · obtain ⟨hmay, ⟨q, hq⟩, hsf, hszl, hlen⟩ := HRI.out fs r rfl
    rw [hdl] at hlen
    obtain ⟨hdr, hple, hpge⟩ := (suf_drop hsf).resolve_right (by omega)
    obtain ⟨p, hp⟩ : ∃ p, a0.size - r.length = p := ⟨_, rfl⟩
    unfold RePost at HR
    dsimp only at HR
    rw [hp] at HR hdr hple
    have hrl : 0 < r.length := by rw [hq]; simp
    have hrl2 := hsf.length_le
    rw [hdl] at hrl2
    have hplt : p < a0.size := by omega
    have hp47 : a0[p] = 47 := by
      have := drop_at a0 p hplt
      rw [hdr, hq] at this
      injection this with this _
      exact this.symm
    have hpi : (a0[p].toNat : Int) = 47 := by rw [hp47]; rfl
    have g3 : decide ((p : Int) < (a0.size : Int)) = true := decide_eq_true (by omega)
    have g3' : decide (p < a0.size) = true := decide_eq_true hplt
    have i1 : (0 : Int) ≤ (p : Int) := by omega
    have i2 : (p : Int) < (a0.size : Int) := by omega
    have hfl : fs.length ≤ 400 := by simp at hlen; omega
    have hz1 : SzL 1000 fs := fun d hd => ⟨by have := (hszl d hd).1; omega, by have := (hszl d hd).2; omega⟩
    have hsl := shL_le fs 200 (may_all hmay) (fun d hd => ⟨by have := (hszl d hd).1; omega, by have := (hszl d hd).2; omega⟩)
    have hsl2 : (shL fs).length ≤ 332000 := Nat.le_trans hsl (Nat.le_trans (Nat.mul_le_mul_right _ hfl) (by decide))
    have hrd : readF ((mkB (shL fs) ++ (⟨#[47]⟩ : ByteArray)).size + 1) ((mkB (shL fs) ++ (⟨#[47]⟩ : ByteArray)).data.toList.drop 0) [] [] [] = some (fs, [47]) := by
      rw [ByteArray.toList_data_append, List.drop_zero, ByteArray.size_append, size_mk]
      exact read_show fs hmay [] [] _ (by rw [List.length_append]; exact Nat.le_succ _)
    have hSz : (mkB (shL fs) ++ (⟨#[47]⟩ : ByteArray)).size = (shL fs).length + 1 := by rw [ByteArray.size_append, size_mk]; rfl
    have HR2 := hide (fun W => read_any (w := W) (s := mkB (shL fs) ++ (⟨#[47]⟩ : ByteArray)) (k := 0) (Nat.zero_le _) (by omega) _ hrd)
    unfold RePost at HR2
    dsimp only at HR2
    rw [hSz, show (shL fs).length + 1 - ([47] : List UInt8).length = (shL fs).length from rfl] at HR2
    have HSH := hide (fun v W (hv : FmAt W v fs) (hT : Go.Lib.TabIs Tryd.prog W "internal/strconv.uint64pow10" .u64 Go.Lib.pow10Tab) => show_any v fs W hv (by omega) hz1 hT)
    unfold ShPost at HSH
    rw [if_pos hmay, if_pos hmay] at HSH
    have HMY := hide (fun v W (hv : FmAt W v fs) => fmayL_any v fs W hv (by omega))
    rw [hmay] at HMY
    have hts := size_mk (shL fs)
    obtain ⟨tn, htn⟩ : ∃ tn, (shL fs).length = tn := ⟨_, rfl⟩
    rw [htn] at hts HR2 hsl2
    obtain ⟨T, hT⟩ : ∃ T, mkB (shL fs) = T := ⟨_, rfl⟩
    rw [hT] at hts HR2 HSH
    obtain ⟨S, hS⟩ : ∃ S, T ++ (⟨#[47]⟩ : ByteArray) = S := ⟨_, rfl⟩
    rw [hS] at HR2
    have HS := hide hS
    have A1 : (⟨#[47]⟩ : ByteArray).size = 1 := rfl
    clear hmay hq hsf hszl hlen hdr hple hpge hp hrl hrl2 hp47 hz1 hsl hrd hSz htn hT hS HRI
    go_enter Tryd.func5, Tryd.ntmps5
    go_wp2_with fail
    refine (HLW.out _).mono ?_
    rintro e w1 ⟨rfl, rfl⟩
    go_wp2_with fail
    refine (HR.out _).mono ?_
    rintro e w1 ⟨v, rfl, hv, hb1⟩
    have HV1 := hide hv
    have HB1 := hide hb1
    clear hv hb1
    go_wp2_with fail
    refine (HSH.out v _ HV1.out (tab_bl HTAB.out HB1.out)).mono ?_
    rintro e w2 ⟨rfl, hb2⟩
    have HV2 := hide (fmat_below HV1.out hb2)
    have HB2 := hide (bl_trans HB1.out hb2)
    have hs := HS.out
    clear hb2
    go_wp2_with fail
    refine (HR2.out _).mono ?_
    rintro e w3 ⟨u, rfl, hu, hb3⟩
    have HU3 := hide hu
    have HV3 := hide (fmat_below HV2.out hb3)
    have HB3 := hide (bl_trans HB2.out hb3)
    clear hu hb3 hs
    go_wp2_with fail
    refine (HMY.out v _ HV3.out).mono ?_
    rintro e w4 ⟨rfl, hb4⟩
    have HU4 := hide (fmat_below HU3.out hb4)
    have HV4 := hide (fmat_below HV3.out hb4)
    have HB4 := hide (bl_trans HB3.out hb4)
    clear hb4
    go_wp2_with fail
    refine (fmts_same _ _ fs _ HV4.out HU4.out (by omega)).mono ?_
    rintro e w5 ⟨rfl, hb5⟩
    have HB5 := hide (bl_trans HB4.out hb5)
    clear hb5
    go_wp2_with fail
    refine (awake18_any _).mono ?_
    rintro e w9 ⟨rfl, hb9⟩
    have HB9 := hide (bl_trans HB5.out hb9)
    clear hb9
    go_wp2
    go_ret
    exact ⟨rfl, HB9.out⟩

set_option maxRecDepth 100000 in
theorem lifted (os : Os) (started : os.Started) (H : Type) (enc : TypeId × Value → H) :
    ReturnsInHanded {} Tryd.checked os 5 .any (fun w args => (Rows.fmtAgainSpec.pre enc Tryd.prog Tryd.f5 Rows.fmtAgainRow.domain false w args ∧ laidMetH Tryd.prog Rows.fmtAgainRow.laid w) ∧ sizedMet enc Tryd.prog Tryd.f5 (OpenSpec.ofChange Rows.fmtAgainSpec) false w args) (Rows.fmtAgainSpec.post enc Tryd.prog Tryd.f5 false true false false) := by
  refine returnsInHanded_of_change_and (C := Tryd.checked) (X := fun w _ => laidMetH Tryd.prog Rows.fmtAgainRow.laid w) (fun _ _ _ hh h => h.of_heap hh) own started (by kernel_rfl) Tryd.func5
    (ChangeSpec.witness_shaped (enc := enc) (C := Tryd.checked) (os := os) (X := fun w _ => laidMetH Tryd.prog Rows.fmtAgainRow.laid w) false (World.laidAll Tryd.prog os Rows.fmtAgainRow.laid) #[.string ByteArray.empty, .int .i64 0] 8 (World.laidAll_os _ _ _)
      (World.shaped_of_ZipB (by kernel_rfl) (by kernel_rfl)) (by kernel_rfl) (by kernel_rfl) (by kernel_rfl)
      (by rw [MakeChecks.laidMetH_plain _ _ _ (by kernel_rfl)]; exact laidMet_laidAll _ (by kernel_rfl) (by kernel_rfl))) ?_
  intro W base args ds gs before hval0 hW hcnd _ hL _
  have hval : ∀ (j : Nat) t v, Tryd.f5.params[j]? = some t → args[j]? = some v → Value.okWide Tryd.prog W .any base t v := hval0
  have hW' := hW
  obtain ⟨p, q, hA0, hV, rfl, hfz, hnd⟩ := hW
  have hA : DataW.TrodAll enc Tryd.prog W 0 (fun _ => true) true Tryd.f5.params.toList args.toList ds p := hA0
  rw [Tryd.params5] at hA hval
  obtain ⟨v0, vs0, d0, ds0, p0, q0, hargs, rfl, rfl, h0, r0⟩ := trodAll_cons hA
  obtain ⟨v1, vs1, d1, ds1, p1, q1, rfl, rfl, rfl, h1, r1⟩ := trodAll_cons r0
  obtain ⟨rfl, rfl, rfl⟩ := trodAll_nil r1
  obtain rfl : args = #[v0, v1] := by cases args; simp_all
  obtain ⟨rfl, rfl⟩ := trodVars_none hV
  have k0 := h0
  have lt0 : ∀ x ∈ p0, x.block < W.heap.size := by obtain ⟨m, hm⟩ := k0; exact DataW.trod_lt m _ _ _ hm
  obtain ⟨a0, rfl, hd0, hp0, w0⟩ := open_string Tryd.underlying9 (hval 0 9 v0 rfl rfl) h0
  have k1 := h1
  have lt1 : ∀ x ∈ p1, x.block < W.heap.size := by obtain ⟨m, hm⟩ := k1; exact DataW.trod_lt m _ _ _ hm
  obtain ⟨a1, rfl, hd1, hp1, w1⟩ := open_int Tryd.underlying3 (hval 1 3 v1 rfl rfl) h1
  clear hA0 hval0
  refine (walk a0 a1 W w0 w1 hL).mono fun e W' ⟨he, bel⟩ => ?_
  subst he
  exact ⟨_, rfl, _, _, _, [], _, [], hW', trodAll_mk1 (shut_bool Tryd.underlying4 _), (trodAll_cons_mk (Below.trod laidOut (by kernel_rfl) (of_decide_eq_true (by kernel_rfl)) k0 bel lt0) (trodAll_cons_mk (Below.trod laidOut (by kernel_rfl) (of_decide_eq_true (by kernel_rfl)) k1 bel lt1) trodAll_mk0)), rfl, bel.frame _, fun h => by cases h⟩

theorem over : Rows.fmtAgainRow.holds Tryd.pinned (OpenSpec.ofChange Rows.fmtAgainSpec) :=
  OpenClaim.holds_of_wide 5 Tryd.f5 rfl rfl rfl rfl rfl rfl rfl ⟨rfl, rfl, rfl, rfl, rfl⟩ rfl rfl rfl rfl rfl (by kernel_rfl) Tryd.func5 (by kernel_rfl)
    (of_decide_eq_true (by kernel_rfl)) (by unfold Func.isWrapper; first | (rw [if_pos (by decide +kernel)]; kernel_rfl) | (rw [if_neg (by decide +kernel)]; exact ⟨rfl, rfl⟩))
    (fun os started H enc _ => lifted os started H enc)

set_option maxRecDepth 100000 in
theorem proved : Rows.FmtAgainCardSaid :=
  Claim7.holds_tied_plain_at .later [] [.data, .data, .data] true (true, "6e813d11ed4261d374731e03baa0b1cda1c60101c5d92033ea8ab7b64e81d4ed") false
    over (fun _ h => by cases h) (by kernel_rfl) (fun _ h => by cases h) fmtAgain_row_tie rfl ⟨rfl, rfl⟩ (by kernel_rfl) rfl
    (fun f fn hf hfn => by
      obtain rfl : f = 5 := Option.some.inj ((show Tryd.prog.funcNamed "gimlet/gimletlaw18.FmtAgain" = some 5 by kernel_rfl).symm.trans hf) |>.symm
      obtain rfl : fn = Tryd.f5 := (Option.some.inj (Tryd.func5.symm.trans hfn)).symm
      refine ⟨by kernel_rfl, fun j t ht => ?_⟩
      rw [Tryd.params5] at ht
      have hm := Array.mem_of_getElem? ht
      simp at hm
      first
        | (rcases hm with rfl <;> first  | exact (show Tryd.prog.wantsStandIn 3 = false by kernel_rfl) | exact (show Tryd.prog.wantsStandIn 9 = false by kernel_rfl))
        | (rcases hm with rfl | rfl <;> first  | exact (show Tryd.prog.wantsStandIn 3 = false by kernel_rfl) | exact (show Tryd.prog.wantsStandIn 9 = false by kernel_rfl)))
    (by kernel_rfl)
end Go.Proofs.YtbphckblbbbakaaDoor.fmtAgain
