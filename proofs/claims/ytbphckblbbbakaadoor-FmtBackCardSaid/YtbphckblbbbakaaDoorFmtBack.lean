/- A format that may be is read from what it is told as and a slash, ahead of whatever, up to that very slash. Conditions: none beyond the form's own. -/
import Derived.Test.YtbphckblbbbakaaDoorRows
import Derived.Test.YtbphckblbbbakaaDoorCards
import Derived.Test.YtbphckblbbbakaaDoorTie
import Derived.Lay
import Derived.LaidMore
import Derived.MakeChecks
import Derived.Stop.Joined
import Derived.SevenTiedAt
import Derived.Test.YtbphckblbbbakaaDoorArgs
import Derived.Test.YtbphckblbbbakaaDoorShoB
import Derived.Test.YtbphckblbbbakaaDoorFmK
namespace Go.Proofs.YtbphckblbbbakaaDoor.fmtBack
open Go.Proofs.YtbphckblbbbakaaDoor
open Go.ChangeShapes Go.WideShapes Go.ChangeAt Go.RowKit Go.Deep
open Go.ChangeMaps (open_string shut_string)
set_option linter.unusedVariables false

theorem own : ownKnob Tryd.prog.godebug = none := by kernel_rfl
theorem laidOut : laidOutB Tryd.prog = true := by kernel_rfl
-- opt: 8000000
-- tied
theorem shL_le (l : List Fm) (n : Nat) (h : ∀ d ∈ l, mayF d = true) (hz : SzL n l) : (shL l).length ≤ l.length * (4 * n + 30) := by
  induction l with
  | nil => simp [shL]
  | cons d l ih =>
    rw [show shL (d :: l) = shF d ++ shL l from rfl, List.length_append, List.length_cons, Nat.add_mul, Nat.one_mul]
    have h1 := shF_le d n (may_n9 (h d (by simp))).2 (hz d (by simp)).1 (hz d (by simp)).2
    have h2 := ih (fun x hx => h x (by simp [hx])) (fun x hx => hz x (by simp [hx]))
    omega
theorem may_all {l : List Fm} (h : mayL l = true) : ∀ d ∈ l, mayF d = true := fun d hd => by
  obtain ⟨i, hi, rfl⟩ := List.getElem_of_mem hd
  exact may_in h i hi
theorem back_drop (a T b : ByteArray) : (a ++ T ++ (⟨#[47]⟩ : ByteArray) ++ b).data.toList.drop a.size = T.data.toList ++ 47 :: b.data.toList := by
  rw [ByteArray.toList_data_append, ByteArray.toList_data_append, ByteArray.toList_data_append, List.append_assoc, List.append_assoc]
  have : a.size = a.data.toList.length := (Array.length_toList).symm
  rw [this, List.drop_left]; rfl
def xyL : List ByteArray := [⟨#[120]⟩, ⟨#[121]⟩]
theorem xy_sr (w : World) : SrAt (w.alloc (.cells #[.string ⟨#[120]⟩, .string ⟨#[121]⟩] 9)) (.slice (some ⟨w.heap.size, 0, none⟩) 2 2) xyL := by
  refine ⟨_, 2, rfl, Nat.le_refl _, by unfold maxLen; decide, fun i hi => ⟨w.heap.size, 0, rfl, ?_⟩⟩
  have h2 : i < 2 := hi
  rw [Nat.zero_add]
  have key : ∀ j u, ([.string ⟨#[120]⟩, .string ⟨#[121]⟩] : List Value)[j]? = some u → (w.alloc (.cells #[.string ⟨#[120]⟩, .string ⟨#[121]⟩] 9)).cell? ⟨w.heap.size, j, none⟩ = some u := fun j u hu => by
    rw [World.cell?_alloc_mark w _ _ (0, 0) j, ← hu]; simp
  match i, h2 with
  | 0, _ => exact key 0 _ rfl
  | 1, _ => exact key 1 _ rfl
set_option maxRecDepth 100000 in
set_option maxHeartbeats 8000000 in
theorem walk (a0 : Value) (l0 : List Fm) (a1 : ByteArray) (a2 : ByteArray) (w : World) (w0 : FmAt w a0 l0) (b0 : ∀ d ∈ l0, WfF d) (w1 : a1.size ≤ maxLen) (w2 : a2.size ≤ maxLen) (hT : laidMetH Tryd.prog Rows.fmtBackRow.laid w) :
    Calls Tryd.prog 4 #[a0, .string a1, .string a2] w fun e w' => e = .returned (.bool true) ∧ Below w.heap.size w w' := by
  have HTAB := hide (pow_tab hT)
  have HLF := hide (left_any a0 l0 200 w w0 b0 (by decide))
  have HF := hide w0
  clear hT b0
  obtain ⟨vA, vc, rfl⟩ := fmat_len w0
  clear w0
  go_enter Tryd.func4, Tryd.ntmps4
  go_wp2_with fail
  refine HLF.out.mono ?_
  rintro e wA ⟨r0, rfl, hbA, hok⟩
  have HBA := hide hbA
  clear hbA HLF
  by_cases h0 : r0 < 0
  · have g0 : decide (r0 < 0) = true := decide_eq_true h0
    clear h0 hok
    go_wp2_with fail
    refine (awake18_any _).mono ?_
    rintro e w9 ⟨rfl, hb9⟩
    go_wp2
    go_ret
    exact ⟨rfl, bl_trans HBA.out hb9⟩
  have g0 : decide (r0 < 0) = false := decide_eq_false h0
  obtain ⟨_, hokz⟩ := hok.out (by omega)
  clear hok h0
  by_cases h20 : 20 < l0.length
  · have g1 : decide ((20 : Int) < (l0.length : Int)) = true := decide_eq_true (by omega)
    have g1' : decide (20 < l0.length) = true := decide_eq_true h20
    clear h20
    go_wp2_with fail
    refine (awake18_any _).mono ?_
    rintro e w9 ⟨rfl, hb9⟩
    go_wp2
    go_ret
    exact ⟨rfl, bl_trans HBA.out hb9⟩
  have g1 : decide ((20 : Int) < (l0.length : Int)) = false := decide_eq_false (by omega)
  have g1' : decide (20 < l0.length) = false := decide_eq_false h20
  by_cases hA : 40 < a1.size
  · have g2 : decide ((40 : Int) < (a1.size : Int)) = true := decide_eq_true (by omega)
    have g2' : decide (40 < a1.size) = true := decide_eq_true hA
    clear h20 hA
    go_wp2_with fail
    refine (awake18_any _).mono ?_
    rintro e w9 ⟨rfl, hb9⟩
    go_wp2
    go_ret
    exact ⟨rfl, bl_trans HBA.out hb9⟩
  have g2 : decide ((40 : Int) < (a1.size : Int)) = false := decide_eq_false (by omega)
  have g2' : decide (40 < a1.size) = false := decide_eq_false hA
  by_cases hB : 40 < a2.size
  · have g3 : decide ((40 : Int) < (a2.size : Int)) = true := decide_eq_true (by omega)
    have g3' : decide (40 < a2.size) = true := decide_eq_true hB
    clear h20 hA hB
    go_wp2_with fail
    refine (awake18_any _).mono ?_
    rintro e w9 ⟨rfl, hb9⟩
    go_wp2
    go_ret
    exact ⟨rfl, bl_trans HBA.out hb9⟩
  have g3 : decide ((40 : Int) < (a2.size : Int)) = false := decide_eq_false (by omega)
  have g3' : decide (40 < a2.size) = false := decide_eq_false hB
  have hl20 : l0.length ≤ 20 := by omega
  have ha40 : a1.size ≤ 40 := by omega
  have hb40 : a2.size ≤ 40 := by omega
  have hz2 : SzL 200 l0 := fun d hd => by
    obtain ⟨i, hi, rfl⟩ := List.getElem_of_mem hd
    exact hokz i hi
  have hz1 : SzL 1000 l0 := fun d hd => ⟨by have := (hz2 d hd).1; omega, by have := (hz2 d hd).2; omega⟩
  have HSH := hide (fun W (hb : Below w.heap.size w W) => show_any _ l0 W (fmat_below HF.out hb) (by omega) hz1 (tab_bl HTAB.out hb))
  have HMY := hide (fun W (hb : Below w.heap.size w W) => fmayL_any _ l0 W (fmat_below HF.out hb) (by omega))
  unfold ShPost at HSH
  have HZ2 := hide hz2
  clear hokz h20 hA hB hz1
  rcases hmay : mayL l0 with _ | _
  · rw [hmay, if_neg (by simp), if_neg (by simp)] at HSH
    rw [hmay] at HMY
    have HAP := hide (fun W (hb : Below w.heap.size w W) => fapplyL_any _ _ l0 xyL _ (fmat_below HF.out (bl_trans hb (bl_alloc (bl_refl W) (.cells #[.string ⟨#[120]⟩, .string ⟨#[121]⟩] 9)))) (xy_sr W) (by omega) (by decide) (fun n => ptF_le (by decide) n) (fun d hd => Nat.le_trans (mkF_le xyL d 1000 (by have := (hz2 d hd).1; omega) (by have := (hz2 d hd).2; omega) (ptF_le (by decide) _)) (by decide)))
    rw [hmay, if_neg (by simp)] at HAP
    clear hmay hz2
    go_wp2_with fail
    refine (HSH.out _ HBA.out).mono ?_
    rintro e w1 ⟨rfl, hb1⟩
    have HB1 := hide (bl_trans HBA.out hb1)
    clear hb1
    go_wp2_with fail
    refine (HMY.out _ HB1.out).mono ?_
    rintro e w2 ⟨rfl, hb2⟩
    have HB2 := hide (bl_trans HB1.out hb2)
    clear hb2
    go_wp2_with fail
    refine (HAP.out _ HB2.out).mono ?_
    rintro e w3 ⟨rfl, hb3⟩
    have HB3 := hide (bl_trans HB2.out (bl_trans (bl_alloc (bl_refl _) _) hb3))
    clear hb3
    go_wp2_with fail
    refine (awake18_any _).mono ?_
    rintro e w9 ⟨rfl, hb9⟩
    have HB9 := hide (bl_trans HB3.out hb9)
    clear hb9
    go_wp2
    go_ret
    exact ⟨rfl, HB9.out⟩
  · rw [hmay, if_pos rfl, if_pos rfl] at HSH
    rw [hmay] at HMY
    have hsl := shL_le l0 200 (may_all hmay) hz2
    have hsl2 : (shL l0).length ≤ 16600 := Nat.le_trans hsl (Nat.le_trans (Nat.mul_le_mul_right _ hl20) (by decide))
    have hts := size_mk (shL l0)
    have hSz : (a1 ++ mkB (shL l0) ++ (⟨#[47]⟩ : ByteArray) ++ a2).size = a1.size + (shL l0).length + 1 + a2.size := by
      rw [ByteArray.size_append, ByteArray.size_append, ByteArray.size_append, size_mk]; rfl
    have hrd : readF ((a1 ++ mkB (shL l0) ++ (⟨#[47]⟩ : ByteArray) ++ a2).size + 1) ((a1 ++ mkB (shL l0) ++ (⟨#[47]⟩ : ByteArray) ++ a2).data.toList.drop a1.size) [] [] [] = some (l0, 47 :: a2.data.toList) := by
      rw [back_drop, hSz]
      refine read_show l0 hmay a2.data.toList [] _ ?_
      have ea : a2.data.toList.length = a2.size := Array.length_toList
      rw [List.length_append, List.length_cons, ea]
      omega
    have HR2 := hide (fun W => read_any (w := W) (s := a1 ++ mkB (shL l0) ++ (⟨#[47]⟩ : ByteArray) ++ a2) (k := a1.size) (by omega) (by omega) _ hrd)
    unfold RePost at HR2
    dsimp only at HR2
    have hat : (a1 ++ mkB (shL l0) ++ (⟨#[47]⟩ : ByteArray) ++ a2).size - (47 :: a2.data.toList).length = a1.size + (shL l0).length := by
      have ea : a2.data.toList.length = a2.size := Array.length_toList
      rw [hSz, List.length_cons, ea]
      omega
    rw [hat] at HR2
    have hz3 : (a1 ++ mkB (shL l0)).size = a1.size + (shL l0).length := by rw [ByteArray.size_append, size_mk]
    have hz4 : (a1 ++ mkB (shL l0) ++ (⟨#[47]⟩ : ByteArray)).size = a1.size + (shL l0).length + 1 := by rw [ByteArray.size_append, ByteArray.size_append, size_mk]; rfl
    obtain ⟨tn, htn⟩ : ∃ tn, (shL l0).length = tn := ⟨_, rfl⟩
    rw [htn] at hts HR2 hsl2 hz3 hz4
    obtain ⟨T, hT⟩ : ∃ T, mkB (shL l0) = T := ⟨_, rfl⟩
    rw [hT] at hts HR2 HSH hz3 hz4
    have A1 : (⟨#[47]⟩ : ByteArray).size = 1 := rfl
    have e3 : IntKind.i64.wrap ((a1.size : Int) + (tn : Int)) = (a1.size : Int) + (tn : Int) := by rw [IntKind.wrap_i64]; omega
    have e4 : ((((a1.size + tn : Nat)) : Int) == (a1.size : Int) + (tn : Int)) = true := by simp
    clear hmay hz2 hsl hrd hSz htn hT hat
    go_wp2_with fail
    refine (HSH.out _ HBA.out).mono ?_
    rintro e w1 ⟨rfl, hb1⟩
    have HB1 := hide (bl_trans HBA.out hb1)
    clear hb1
    go_wp2_with fail
    refine (HMY.out _ HB1.out).mono ?_
    rintro e w2 ⟨rfl, hb2⟩
    have HB2 := hide (bl_trans HB1.out hb2)
    clear hb2
    go_wp2_with fail
    refine (HR2.out _).mono ?_
    rintro e w3 ⟨u, rfl, hu, hb3⟩
    have HU3 := hide hu
    have HB3 := hide (bl_trans HB2.out hb3)
    clear hu hb3
    go_wp2_with fail
    refine (fmts_same _ _ l0 _ HU3.out (fmat_below HF.out HB3.out) (by omega)).mono ?_
    rintro e w5 ⟨rfl, hb5⟩
    have HB5 := hide (bl_trans HB3.out hb5)
    clear hb5
    go_wp2_with fail
    refine (awake18_any _).mono ?_
    rintro e w9 ⟨rfl, hb9⟩
    have HB9 := hide (bl_trans HB5.out hb9)
    clear hb9
    go_wp2
    go_ret
    exact ⟨rfl, HB9.out⟩

set_option maxRecDepth 100000 in
theorem lifted (os : Os) (started : os.Started) (H : Type) (enc : TypeId × Value → H) :
    ReturnsInHanded {} Tryd.checked os 4 .any (fun w args => (Rows.fmtBackSpec.pre enc Tryd.prog Tryd.f4 Rows.fmtBackRow.domain false w args ∧ laidMetH Tryd.prog Rows.fmtBackRow.laid w) ∧ sizedMet enc Tryd.prog Tryd.f4 (OpenSpec.ofChange Rows.fmtBackSpec) false w args) (Rows.fmtBackSpec.post enc Tryd.prog Tryd.f4 false true false false) := by
  refine returnsInHanded_of_change_and (C := Tryd.checked) (X := fun w _ => laidMetH Tryd.prog Rows.fmtBackRow.laid w) (fun _ _ _ hh h => h.of_heap hh) own started (by kernel_rfl) Tryd.func4
    (ChangeSpec.witness_shaped (enc := enc) (C := Tryd.checked) (os := os) (X := fun w _ => laidMetH Tryd.prog Rows.fmtBackRow.laid w) false (World.laidAll Tryd.prog os Rows.fmtBackRow.laid) #[.slice none 0 0, .string ByteArray.empty, .string ByteArray.empty] 8 (World.laidAll_os _ _ _)
      (World.shaped_of_ZipB (by kernel_rfl) (by kernel_rfl)) (by kernel_rfl) (by kernel_rfl) (by kernel_rfl)
      (by rw [MakeChecks.laidMetH_plain _ _ _ (by kernel_rfl)]; exact laidMet_laidAll _ (by kernel_rfl) (by kernel_rfl))) ?_
  intro W base args ds gs before hval0 hW hcnd _ hL _
  have hval : ∀ (j : Nat) t v, Tryd.f4.params[j]? = some t → args[j]? = some v → Value.okWide Tryd.prog W .any base t v := hval0
  have hW' := hW
  obtain ⟨p, q, hA0, hV, rfl, hfz, hnd⟩ := hW
  have hA : DataW.TrodAll enc Tryd.prog W 0 (fun _ => true) true Tryd.f4.params.toList args.toList ds p := hA0
  rw [Tryd.params4] at hA hval
  obtain ⟨v0, vs0, d0, ds0, p0, q0, hargs, rfl, rfl, h0, r0⟩ := trodAll_cons hA
  obtain ⟨v1, vs1, d1, ds1, p1, q1, rfl, rfl, rfl, h1, r1⟩ := trodAll_cons r0
  obtain ⟨v2, vs2, d2, ds2, p2, q2, rfl, rfl, rfl, h2, r2⟩ := trodAll_cons r1
  obtain ⟨rfl, rfl, rfl⟩ := trodAll_nil r2
  obtain rfl : args = #[v0, v1, v2] := by cases args; simp_all
  obtain ⟨rfl, rfl⟩ := trodVars_none hV
  have k0 := h0
  have lt0 : ∀ x ∈ p0, x.block < W.heap.size := by obtain ⟨m, hm⟩ := k0; exact DataW.trod_lt m _ _ _ hm
  obtain ⟨l0, w0, b0⟩ := open_fmts (hval 0 22 v0 rfl rfl) h0
  have k1 := h1
  have lt1 : ∀ x ∈ p1, x.block < W.heap.size := by obtain ⟨m, hm⟩ := k1; exact DataW.trod_lt m _ _ _ hm
  obtain ⟨a1, rfl, hd1, hp1, w1⟩ := open_string Tryd.underlying9 (hval 1 9 v1 rfl rfl) h1
  have k2 := h2
  have lt2 : ∀ x ∈ p2, x.block < W.heap.size := by obtain ⟨m, hm⟩ := k2; exact DataW.trod_lt m _ _ _ hm
  obtain ⟨a2, rfl, hd2, hp2, w2⟩ := open_string Tryd.underlying9 (hval 2 9 v2 rfl rfl) h2
  clear hA0 hval0
  refine (walk v0 l0 a1 a2 W w0 b0 w1 w2 hL).mono fun e W' ⟨he, bel⟩ => ?_
  subst he
  exact ⟨_, rfl, _, _, _, [], _, [], hW', trodAll_mk1 (shut_bool Tryd.underlying4 _), (trodAll_cons_mk (Below.trod laidOut (by kernel_rfl) (of_decide_eq_true (by kernel_rfl)) k0 bel lt0) (trodAll_cons_mk (Below.trod laidOut (by kernel_rfl) (of_decide_eq_true (by kernel_rfl)) k1 bel lt1) (trodAll_cons_mk (Below.trod laidOut (by kernel_rfl) (of_decide_eq_true (by kernel_rfl)) k2 bel lt2) trodAll_mk0))), rfl, bel.frame _, fun h => by cases h⟩

theorem over : Rows.fmtBackRow.holds Tryd.pinned (OpenSpec.ofChange Rows.fmtBackSpec) :=
  OpenClaim.holds_of_wide 4 Tryd.f4 rfl rfl rfl rfl rfl rfl rfl ⟨rfl, rfl, rfl, rfl, rfl⟩ rfl rfl rfl rfl rfl (by kernel_rfl) Tryd.func4 (by kernel_rfl)
    (of_decide_eq_true (by kernel_rfl)) (by unfold Func.isWrapper; first | (rw [if_pos (by decide +kernel)]; kernel_rfl) | (rw [if_neg (by decide +kernel)]; exact ⟨rfl, rfl⟩))
    (fun os started H enc _ => lifted os started H enc)

set_option maxRecDepth 100000 in
theorem proved : Rows.FmtBackCardSaid :=
  Claim7.holds_tied_plain_at .later [] [.data, .data, .data] true (true, "6e813d11ed4261d374731e03baa0b1cda1c60101c5d92033ea8ab7b64e81d4ed") false
    over (fun _ h => by cases h) (by kernel_rfl) (fun _ h => by cases h) fmtBack_row_tie rfl ⟨rfl, rfl⟩ (by kernel_rfl) rfl
    (fun f fn hf hfn => by
      obtain rfl : f = 4 := Option.some.inj ((show Tryd.prog.funcNamed "gimlet/gimletlaw18.FmtBack" = some 4 by kernel_rfl).symm.trans hf) |>.symm
      obtain rfl : fn = Tryd.f4 := (Option.some.inj (Tryd.func4.symm.trans hfn)).symm
      refine ⟨by kernel_rfl, fun j t ht => ?_⟩
      rw [Tryd.params4] at ht
      have hm := Array.mem_of_getElem? ht
      simp at hm
      first
        | (rcases hm with rfl <;> first  | exact (show Tryd.prog.wantsStandIn 9 = false by kernel_rfl) | exact (show Tryd.prog.wantsStandIn 22 = false by kernel_rfl))
        | (rcases hm with rfl | rfl <;> first  | exact (show Tryd.prog.wantsStandIn 9 = false by kernel_rfl) | exact (show Tryd.prog.wantsStandIn 22 = false by kernel_rfl))
        | (rcases hm with rfl | rfl | rfl <;> first  | exact (show Tryd.prog.wantsStandIn 9 = false by kernel_rfl) | exact (show Tryd.prog.wantsStandIn 22 = false by kernel_rfl)))
    (by kernel_rfl)
end Go.Proofs.YtbphckblbbbakaaDoor.fmtBack
