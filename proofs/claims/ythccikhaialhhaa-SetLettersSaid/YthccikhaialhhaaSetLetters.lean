/- With fold a letter is in just if its other case is. Conditions: none beyond the form's own. -/
import Derived.Test.YthccikhaialhhaaRows
import Derived.Test.YthccikhaialhhaaArgs
import Derived.Test.YthccikhaialhhaaRowK
import Derived.Test.YthccikhaialhhaaRowArgs
import Derived.Deep.RegionHeld3
import Derived.RegionTactic
import Derived.Test.YthccikhaialhhaaLow
namespace Go.Proofs.Ythccikhaialhhaa.setLetters
open Go.Proofs.Ythccikhaialhhaa
open Go.ChangeShapes Go.WideShapes Go.ChangeAt Go.RowKit Go.Deep
open Go.ChangeMaps (open_string shut_string)
set_option linter.unusedVariables false

theorem own : ownKnob Try.prog.godebug = none := by kernel_rfl
theorem laidOut : laidOutB Try.prog = true := by kernel_rfl
-- opt:16000000
open SetM
attribute [local go_sem ↓] Go.wp_at_zero Go.wp_at_succ
attribute [local go_sem] lt_bl le_bl
theorem conv1 (c : UInt8) (n : Int) (B : Nat) (W : World) (hn : (c.toNat : Int) = n) (h : W.cell? ⟨B, 0, none⟩ = some (.int .u8 n)) :
    (convert 39 9 (.slice (some ⟨B, 0, none⟩) 1 1)).run Try.prog W = .ok (.string ⟨#[c]⟩) W := by
  subst hn
  have h1 := Go.run_convert_bytes_back W 39 9 5 ⟨B, 0, none⟩ 1 [c] Try.underlying39 Try.underlying5 Try.underlying9 (fun j hj => by
    have : j = 0 := by simpa using hj
    subst this
    rw [addr_add]; exact h)
  exact h1
def lo (k : Nat) : UInt8 := UInt8.ofNat (97 + k)
def up (k : Nat) : UInt8 := UInt8.ofNat (65 + k)
theorem lo_nat (k : Nat) (h : k < 26) : ((lo k).toNat : Int) = 97 + (k : Int) := by
  unfold lo; rw [UInt8.toNat_ofNat_of_lt' (by simp [UInt8.size]; omega)]; omega
theorem up_nat (k : Nat) (h : k < 26) : ((up k).toNat : Int) = 65 + (k : Int) := by
  unfold up; rw [UInt8.toNat_ofNat_of_lt' (by simp [UInt8.size]; omega)]; omega
theorem mapS1 (f : UInt8 → UInt8) (c : UInt8) : mapS f ⟨#[c]⟩ = ⟨#[f c]⟩ := rfl
theorem down_lo (k : Nat) (h : k < 26) : downB (lo k) = lo k := by
  have h1 := lo_nat k h; have h2 := downB_nat (lo k); rw [if_neg (by omega)] at h2; exact UInt8.toNat_inj.1 h2
theorem up_lo (k : Nat) (h : k < 26) : upB (lo k) = up k := by
  have h1 := lo_nat k h; have h3 := up_nat k h; have h2 := upB_nat (lo k); rw [if_pos (by omega)] at h2; exact UInt8.toNat_inj.1 (by omega)
theorem down_up (k : Nat) (h : k < 26) : downB (up k) = lo k := by
  have h1 := lo_nat k h; have h3 := up_nat k h; have h2 := downB_nat (up k); rw [if_pos (by omega)] at h2; exact UInt8.toNat_inj.1 (by omega)
theorem up_up (k : Nat) (h : k < 26) : upB (up k) = up k := by
  have h1 := up_nat k h; have h2 := upB_nat (up k); rw [if_neg (by omega)] at h2; exact UInt8.toNat_inj.1 h2
set_option maxRecDepth 100000 in
set_option maxHeartbeats 16000000 in
theorem walk (a0 : Value) (l0 : List SetM.Rw) (a1 : Int) (w : World) (w0 : RwAt w a0 l0) (b0 : ∀ s ∈ l0, WfR s) (w1 : (Lit.int .i64 a1).wf = true) :
    Calls Try.prog 8 #[a0, .int .i64 a1] w fun e w' => e = .returned (.bool true) ∧ Below w.heap.size w w' := by
  have HB := hide b0
  obtain ⟨aA, cA, rfl⟩ := rwat_len w0
  have W0 := hide w0
  clear w0 b0
  go_enter Try.func8, Try.ntmps8
  go_wp2_with fail
  refine (much_any _ l0 20 200 _ W0.out (by omega) (by omega) (fun s hs => HB.out s hs)).mono ?_
  rintro e w1 ⟨r, rfl, hb1, HM⟩
  have W1 := hide (rwat_below W0.out hb1)
  cases r
  · obtain ⟨hm1, hm2⟩ := HM.out rfl
    have HSH := hide (show ∀ s ∈ l0, Short s from fun s hs => ⟨by have := (hm2 s hs).1; omega, by have := (hm2 s hs).2; omega⟩)
    have HS2 := hide hm2
    clear hm2 HM W0 HB
    have hkl := lowN_lt a1 26 (by omega)
    go_wp2_with fail
    refine (low_any a1 26 _ (by omega) (by omega)).mono ?_
    rintro e w2 ⟨rfl, rfl⟩
    generalize lowN a1 26 = k at *
    have h97 : (97 : Int) + (k : Int) ≤ 255 := by omega
    have h65 : (65 : Int) + (k : Int) ≤ 255 := by omega
    obtain ⟨a, ha⟩ : ∃ a : ByteArray, ⟨#[lo k]⟩ = a := ⟨_, rfl⟩
    obtain ⟨b, hb⟩ : ∃ b : ByteArray, ⟨#[up k]⟩ = b := ⟨_, rfl⟩
    have k1 : ∀ (B : Nat) (W : World), W.cell? ⟨B, 0, none⟩ = some (.int .u8 (97 + (k : Int))) → (convert 39 9 (.slice (some ⟨B, 0, none⟩) 1 1)).run Try.prog W = .ok (.string a) W := fun B W h => by
      rw [← ha]; exact conv1 _ _ B W (lo_nat k hkl) h
    have k2 : ∀ (B : Nat) (W : World), W.cell? ⟨B, 0, none⟩ = some (.int .u8 (65 + (k : Int))) → (convert 39 9 (.slice (some ⟨B, 0, none⟩) 1 1)).run Try.prog W = .ok (.string b) W := fun B W h => by
      rw [← hb]; exact conv1 _ _ B W (up_nat k hkl) h
    obtain ⟨r0, hr0⟩ : ∃ r, inB l0 a = r := ⟨_, rfl⟩
    obtain ⟨r1, hr1⟩ : ∃ r, inB l0 b = r := ⟨_, rfl⟩
    have ka : hasF l0 false true a = (r0 || r1) := by
      unfold hasF; rw [← ha, mapS1, mapS1, down_lo k hkl, up_lo k hkl, ha, hb, hr0, hr1]; cases r0 <;> cases r1 <;> rfl
    have kb : hasF l0 false true b = (r0 || r1) := by
      unfold hasF; rw [← hb, mapS1, mapS1, down_up k hkl, up_up k hkl, ha, hb, hr0, hr1]; cases r0 <;> cases r1 <;> rfl
    have kc : hasF l0 false false a = r0 := by unfold hasF; rw [hr0]; cases r0 <;> rfl
    have kd : hasF l0 false false b = r1 := by unfold hasF; rw [hr1]; cases r1 <;> rfl
    have hsa : a.size ≤ 100000 := by rw [← ha]; show 1 ≤ 100000; omega
    have hsb : b.size ≤ 100000 := by rw [← hb]; show 1 ≤ 100000; omega
    have KA := hide ka
    have KB := hide kb
    have KC := hide kc
    have KD := hide kd
    clear ka kb kc kd hr0 hr1 ha hb
    go_wp2
    go_region
    all_goals
      clear k1 k2
      have W2 := hide (fun (W : World) (hb : Below w1.heap.size w1 W) => rwat_below W1.out hb)
      go_wp2_with fail
      refine (hass_any _ l0 false true a (r0 || r1) _ (W2.out _ (by repeat (first | exact bl_refl _ | refine bl_drew ?_ | refine bl_alloc ?_ _))) (by omega) hsa KA.out).mono ?_
      rintro e w5 ⟨rfl, hb5⟩
      have hb5' := bl_trans (a := w1) (by repeat (first | exact bl_refl _ | refine bl_drew ?_ | refine bl_alloc ?_ _)) hb5
      go_wp2_with fail
      refine (hass_any _ l0 false true b (r0 || r1) _ (W2.out _ hb5') (by omega) hsb KB.out).mono ?_
      rintro e w6 ⟨rfl, hb6⟩
      have hb6' := bl_trans hb5' hb6
      clear hb5 hb6
      go_wp2_with fail
      refine (hass_any _ l0 false false a r0 _ (W2.out _ hb6') (by omega) hsa KC.out).mono ?_
      rintro e w7 ⟨rfl, hb7⟩
      have hb7' := bl_trans hb6' hb7
      cases r0
      · go_wp2_with fail
        refine (hass_any _ l0 false false b r1 _ (W2.out _ hb7') (by omega) hsb KD.out).mono ?_
        rintro e w8 ⟨rfl, hb8⟩
        have hbZ := bl_trans hb7' hb8
        cases r1
        all_goals
          go_wp2_with fail
          refine (awake12_any _).mono ?_
          rintro e wz ⟨rfl, hbz⟩
          go_wp2
          go_ret
          exact ⟨rfl, bl_trans (bl_trans hb1 hbZ) hbz⟩
      · have hbZ := hb7'
        cases r1
        all_goals
          go_wp2_with fail
          refine (awake12_any _).mono ?_
          rintro e wz ⟨rfl, hbz⟩
          go_wp2
          go_ret
          exact ⟨rfl, bl_trans (bl_trans hb1 hbZ) hbz⟩
  · go_wp2_with fail
    refine (awake12_any _).mono ?_
    rintro e wz ⟨rfl, hbz⟩
    go_wp2
    go_ret
    exact ⟨rfl, bl_trans hb1 hbz⟩

set_option maxRecDepth 100000 in
theorem lifted (os : Os) (started : os.Started) (H : Type) (enc : TypeId × Value → H) :
    ReturnsInHanded {} Try.checked os 8 .any (Rows.setLettersSpec.pre6 enc Try.prog Try.f8 Rows.setLettersRow.domain false) (Rows.setLettersSpec.post enc Try.prog Try.f8 false true false false) := by
  refine returnsInHanded_of_change (C := Try.checked) own started (by kernel_rfl) Try.func8
    (ChangeSpec.witness6 (enc := enc) (C := Try.checked) false ⟨#[], #[.slice none 0 0, .int .i64 0], []⟩ 8 (by kernel_rfl) (by kernel_rfl) (by kernel_rfl) (by kernel_rfl)) ?_
  intro W base args ds gs before hval0 hW hcnd _
  have hval : ∀ (j : Nat) t v, Try.f8.params[j]? = some t → args[j]? = some v → Value.okWide Try.prog W .any base t v := hval0
  have hW' := hW
  obtain ⟨p, q, hA0, hV, rfl, hfz, hnd⟩ := hW
  have hA : DataW.TrodAll enc Try.prog W 0 (fun _ => true) true Try.f8.params.toList args.toList ds p := hA0
  rw [Try.params8] at hA hval
  obtain ⟨v0, vs0, d0, ds0, p0, q0, hargs, rfl, rfl, h0, r0⟩ := trodAll_cons hA
  obtain ⟨v1, vs1, d1, ds1, p1, q1, rfl, rfl, rfl, h1, r1⟩ := trodAll_cons r0
  obtain ⟨rfl, rfl, rfl⟩ := trodAll_nil r1
  obtain rfl : args = #[v0, v1] := by cases args; simp_all
  obtain ⟨rfl, rfl⟩ := trodVars_none hV
  have k0 := h0
  have lt0 : ∀ x ∈ p0, x.block < W.heap.size := by obtain ⟨m, hm⟩ := k0; exact DataW.trod_lt m _ _ _ hm
  obtain ⟨l0, w0, b0⟩ := open_rows (hval 0 22 v0 rfl rfl) h0
  have k1 := h1
  have lt1 : ∀ x ∈ p1, x.block < W.heap.size := by obtain ⟨m, hm⟩ := k1; exact DataW.trod_lt m _ _ _ hm
  obtain ⟨a1, rfl, hd1, hp1, w1⟩ := open_int Try.underlying3 (hval 1 3 v1 rfl rfl) h1
  clear hA0 hval0
  refine (walk v0 l0 a1 W w0 b0 w1).mono fun e W' ⟨he, bel⟩ => ?_
  subst he
  exact ⟨_, rfl, _, _, _, [], _, [], hW', trodAll_mk1 (shut_bool Try.underlying4 _), (trodAll_cons_mk (Below.trod laidOut (by kernel_rfl) (of_decide_eq_true (by kernel_rfl)) k0 bel lt0) (trodAll_cons_mk (Below.trod laidOut (by kernel_rfl) (of_decide_eq_true (by kernel_rfl)) k1 bel lt1) trodAll_mk0)), rfl, bel.frame _, fun h => by cases h⟩

theorem over : Rows.setLettersRow.holds Try.pinned (OpenSpec.ofChange Rows.setLettersSpec) :=
  OpenClaim.holds_of_wide 8 Try.f8 rfl rfl rfl rfl rfl rfl rfl ⟨rfl, rfl, rfl, rfl, rfl⟩ rfl rfl rfl rfl rfl (by kernel_rfl) Try.func8 (by kernel_rfl)
    (of_decide_eq_true (by kernel_rfl)) (by unfold Func.isWrapper; first | (rw [if_pos (by decide +kernel)]; kernel_rfl) | (rw [if_neg (by decide +kernel)]; exact ⟨rfl, rfl⟩))
    (fun os started H enc _ => lifted os started H enc)

theorem proved : Rows.SetLettersSaid := over
end Go.Proofs.Ythccikhaialhhaa.setLetters
