/- Lines have their rope's calls; what is put in by them is in the rope, and its lines follow. Conditions: none beyond the form's own. -/
import Derived.Test.YtjjbpaaionpjeaaRows
import Derived.Test.YtjjbpaaionpjeaaArgs
import Derived.Test.YtjjbpaaionpjeaaLinG
import Derived.Test.YtjjbpaaionpjeaaRopB
namespace Go.Proofs.Ytjjbpaaionpjeaa.linesRope
open Go.Proofs.Ytjjbpaaionpjeaa
open Go.ChangeShapes Go.WideShapes Go.ChangeAt Go.RowKit Go.Deep
open Go.ChangeMaps (open_string shut_string)
set_option linter.unusedVariables false

theorem own : ownKnob Try.prog.godebug = none := by kernel_rfl
theorem laidOut : laidOutB Try.prog = true := by kernel_rfl
-- opt:16000000
attribute [local go_sem ↓] Go.wp_at_zero Go.wp_at_succ
attribute [local go_sem] later_cell later_frozen
theorem ins_in4 (x s : ByteArray) (p : Nat) (h : p ≤ x.size) : insT x s (p : Int) = x.extract 0 p ++ s ++ x.extract p x.size := by
  unfold insT
  rw [if_pos (by unfold mayR; rw [if_neg (by omega)])]
  rfl
theorem ln_box {w : World} {B r : Nat} (h : w.heap[B]? = some (.cells #[.pointer (some ⟨r, 0, none⟩)] 25)) : w.cell? ⟨B, 0, none⟩ = some (.pointer (some ⟨r, 0, none⟩)) := by
  rw [Lib.cell_of_heap h]; rfl
set_option maxRecDepth 100000 in
set_option maxHeartbeats 16000000 in
theorem walk (a0 : ByteArray) (a1 : Int) (a2 : ByteArray) (w : World) (w0 : a0.size ≤ maxLen) (w1 : (Lit.int .i64 a1).wf = true) (w2 : a2.size ≤ maxLen) :
    Calls Try.prog 8 #[.string a0, .int .i64 a1, .string a2] w fun e w' => e = .returned (.bool true) ∧ Below w.heap.size w w' := by
  by_cases h0 : a0.size ≤ 200
  · have g0 : decide (200 < (a0.size : Int)) = false := decide_eq_false (by omega)

    by_cases h2 : a2.size ≤ 60
    · have g2 : decide (60 < (a2.size : Int)) = false := decide_eq_false (by omega)
      have hlp := lowN_lt a1 (a0.size + 1) (by omega)
      have HLW := hide (fun W => (low_any a1 (a0.size + 1) W (by omega) (by omega) : Calls Try.prog 27 #[.int .i64 a1, .int .i64 ((a0.size : Int) + 1)] W fun e w' => e = .returned (.int .i64 (lowN a1 (a0.size + 1) : Nat)) ∧ W = w'))
      generalize lowN a1 (a0.size + 1) = p at *
      have hps : p ≤ a0.size := by omega
      have hxl : a0.data.toList.length = a0.size := rfl
      clear hlp
      have hm0 : mayR (p : Int) (p : Int) a0.size = 0 := by unfold mayR; rw [if_neg (by omega)]
      have HI := hide (fun (W : World) (d g r : Nat) (t : T) (B : Nat) (o : Obj) (hR : RstB w W [(d, g)] [(r, d, t)] B o) (hx : Tx t a0) => rst_insB hR (g := g) (by simp) hx p a2 (by omega))
      rw [hm0, ins_in4 _ _ _ hps] at HI
      have z1 : (a0.extract 0 p ++ a2).size ≤ 260 := by simp only [ByteArray.size_append, ByteArray.size_extract]; omega
      have z2 : (a0.extract 0 p ++ a2 ++ a0.extract p a0.size).size ≤ 260 := by simp only [ByteArray.size_append, ByteArray.size_extract]; omega
      have z3 : (a0.extract 0 p ++ a2).size + (a0.extract p a0.size).size ≤ 260 := by simp only [ByteArray.size_append, ByteArray.size_extract]; omega
      have z4 : (a0.extract 0 p).size + a2.size ≤ 260 := by simp only [ByteArray.size_extract]; omega
      have HM := hide (fun (W : World) (r : Nat) (h : LnAt W r (a0.extract 0 p ++ a2 ++ a0.extract p a0.size)) => many_l h (by omega))
      have HM2 := hide (fun W => rmany_any (a0.extract 0 p ++ a2 ++ a0.extract p a0.size) W (by omega))
      generalize nBrk (a0.extract 0 p ++ a2 ++ a0.extract p a0.size).data.toList + 1 = x7 at *
      clear hm0 hxl w0 w1 w2
      go_enter Try.func8, Try.ntmps8
      go_wp2_with fail
      refine (rst_dnew (rst_start w) [1] #[.int .u32 1] rfl (by decide) (by decide) 1 rfl).mono ?_
      rintro e v1 ⟨d, g, rfl, hR, _⟩
      have HN := hide (rst_new1 hR (d := d) (g := g) (by simp) a0 (by omega))
      clear hR
      go_wp2_with fail
      refine HN.out.mono ?_
      rintro e v2 ⟨r, t, rfl, _, htx, hR⟩
      have HT := hide htx
      have HR := hide hR
      clear htx hR HN
      go_wp2_with fail
      refine (lnOf_any _ ⟨_, rfl⟩ _).mono ?_
      rintro e v3 ⟨rfl, hb3⟩
      have HX := hide (rst_box (HR.out.bl hb3) (.cells #[.pointer (some ⟨r, 0, none⟩)] 25))
      have c0 := ln_box HX.out.at'
      clear HR hb3
      go_wp2_with fail
      refine (HLW.out _).mono ?_
      rintro e v4 ⟨rfl, hw4⟩
      subst hw4
      go_wp2_with fail
      refine (HI.out _ _ _ _ _ _ _ HX.out HT.out).mono ?_
      rintro e v5 ⟨t5, rfl, htx, hR⟩
      have HT := hide htx
      have c0 := ln_box hR.at'
      have HR := hide hR.st
      clear htx hR HX
      go_wp2
      refine wp_region_later (by kernel_rfl) (by kernel_rfl) ?_
      repeat (go_big_quiet_step (first | exact rfl))
      refine wpQuiet_nil ?_
      rintro v6 ⟨⟨_, hb6⟩, rfl⟩
      have c0 := cell_later hb6 c0
      have HR := hide (HR.out.bl hb6)
      have HX1 := hide (rst_text HR.out (r := r) (d := d) (t := t5) (by simp) HT.out (by omega))
      go_wp2_with fail
      refine HX1.out.mono ?_
      rintro e v7 ⟨rfl, hb7, hR⟩
      have c0 := cell_later hb7 c0
      have HX2 := hide (rst_text hR (r := r) (d := d) (t := t5) (by simp) HT.out (by omega))
      clear hR HX1
      go_wp2_with fail
      refine HX2.out.mono ?_
      rintro e v8 ⟨rfl, hb8, hR⟩
      have c0 := cell_later hb8 c0
      have HX3 := hide (rst_len hR (r := r) (d := d) (t := t5) (by simp) HT.out)
      have HL := hide (rst_ln hR (r := r) (d := d) (t := t5) (by simp) HT.out)
      have HB := hide hR.bel
      clear hR HX2 HR
      go_wp2_with fail
      refine HX3.out.mono ?_
      rintro e v9 ⟨rfl, hv9⟩
      subst hv9
      go_wp2_with fail
      refine (HM.out _ _ HL.out).mono ?_
      rintro e v28 ⟨rfl, hb⟩
      have c0 := cell_later hb c0
      have HB := hide (bl_trans HB.out hb)
      have HL := hide (HL.out.bl hb)
      clear hb
      go_wp2_with fail
      refine (HM2.out _).mono ?_
      rintro e v29 ⟨rfl, hb⟩
      have HB := hide (bl_trans HB.out hb)
      clear hb
      go_wp2_with fail
      refine (awake4_any _).mono ?_
      rintro e w9 ⟨rfl, hb⟩
      have HB := hide (bl_trans HB.out hb)
      go_wp2
      go_ret
      exact ⟨rfl, HB.out⟩
    · have g2 : decide (60 < (a2.size : Int)) = true := decide_eq_true (by omega)
      go_enter Try.func8, Try.ntmps8
      go_wp2_with fail
      refine (awake4_any _).mono ?_
      rintro e w9 ⟨rfl, hb⟩
      go_wp2
      go_ret
      exact ⟨rfl, hb⟩
  · have g0 : decide (200 < (a0.size : Int)) = true := decide_eq_true (by omega)
    go_enter Try.func8, Try.ntmps8
    go_wp2_with fail
    refine (awake4_any _).mono ?_
    rintro e w9 ⟨rfl, hb⟩
    go_wp2
    go_ret
    exact ⟨rfl, hb⟩

set_option maxRecDepth 100000 in
theorem lifted (os : Os) (started : os.Started) (H : Type) (enc : TypeId × Value → H) :
    ReturnsInHanded {} Try.checked os 8 .any (Rows.linesRopeSpec.pre6 enc Try.prog Try.f8 Rows.linesRopeRow.domain false) (Rows.linesRopeSpec.post enc Try.prog Try.f8 false true false false) := by
  refine returnsInHanded_of_change (C := Try.checked) own started (by kernel_rfl) Try.func8
    (ChangeSpec.witness6 (enc := enc) (C := Try.checked) false ⟨#[], #[.string ByteArray.empty, .int .i64 0, .string ByteArray.empty], []⟩ 8 (by kernel_rfl) (by kernel_rfl) (by kernel_rfl) (by kernel_rfl)) ?_
  intro W base args ds gs before hval0 hW hcnd _
  have hval : ∀ (j : Nat) t v, Try.f8.params[j]? = some t → args[j]? = some v → Value.okWide Try.prog W .any base t v := hval0
  have hW' := hW
  obtain ⟨p, q, hA0, hV, rfl, hfz, hnd⟩ := hW
  have hA : DataW.TrodAll enc Try.prog W 0 (fun _ => true) true Try.f8.params.toList args.toList ds p := hA0
  rw [Try.params8] at hA hval
  obtain ⟨v0, vs0, d0, ds0, p0, q0, hargs, rfl, rfl, h0, r0⟩ := trodAll_cons hA
  obtain ⟨v1, vs1, d1, ds1, p1, q1, rfl, rfl, rfl, h1, r1⟩ := trodAll_cons r0
  obtain ⟨v2, vs2, d2, ds2, p2, q2, rfl, rfl, rfl, h2, r2⟩ := trodAll_cons r1
  obtain ⟨rfl, rfl, rfl⟩ := trodAll_nil r2
  obtain rfl : args = #[v0, v1, v2] := by cases args; simp_all
  obtain ⟨rfl, rfl⟩ := trodVars_none hV
  have k0 := h0
  have lt0 : ∀ x ∈ p0, x.block < W.heap.size := by obtain ⟨m, hm⟩ := k0; exact DataW.trod_lt m _ _ _ hm
  obtain ⟨a0, rfl, hd0, hp0, w0⟩ := open_string Try.underlying9 (hval 0 9 v0 rfl rfl) h0
  have k1 := h1
  have lt1 : ∀ x ∈ p1, x.block < W.heap.size := by obtain ⟨m, hm⟩ := k1; exact DataW.trod_lt m _ _ _ hm
  obtain ⟨a1, rfl, hd1, hp1, w1⟩ := open_int Try.underlying3 (hval 1 3 v1 rfl rfl) h1
  have k2 := h2
  have lt2 : ∀ x ∈ p2, x.block < W.heap.size := by obtain ⟨m, hm⟩ := k2; exact DataW.trod_lt m _ _ _ hm
  obtain ⟨a2, rfl, hd2, hp2, w2⟩ := open_string Try.underlying9 (hval 2 9 v2 rfl rfl) h2
  clear hA0 hval0
  refine (walk a0 a1 a2 W w0 w1 w2).mono fun e W' ⟨he, bel⟩ => ?_
  subst he
  exact ⟨_, rfl, _, _, _, [], _, [], hW', trodAll_mk1 (shut_bool Try.underlying4 _), (trodAll_cons_mk (Below.trod laidOut (by kernel_rfl) (of_decide_eq_true (by kernel_rfl)) k0 bel lt0) (trodAll_cons_mk (Below.trod laidOut (by kernel_rfl) (of_decide_eq_true (by kernel_rfl)) k1 bel lt1) (trodAll_cons_mk (Below.trod laidOut (by kernel_rfl) (of_decide_eq_true (by kernel_rfl)) k2 bel lt2) trodAll_mk0))), rfl, bel.frame _, fun h => by cases h⟩

theorem over : Rows.linesRopeRow.holds Try.pinned (OpenSpec.ofChange Rows.linesRopeSpec) :=
  OpenClaim.holds_of_wide 8 Try.f8 rfl rfl rfl rfl rfl rfl rfl ⟨rfl, rfl, rfl, rfl, rfl⟩ rfl rfl rfl rfl rfl (by kernel_rfl) Try.func8 (by kernel_rfl)
    (of_decide_eq_true (by kernel_rfl)) (by unfold Func.isWrapper; first | (rw [if_pos (by decide +kernel)]; kernel_rfl) | (rw [if_neg (by decide +kernel)]; exact ⟨rfl, rfl⟩))
    (fun os started H enc _ => lifted os started H enc)

theorem proved : Rows.LinesRopeSaid := over
end Go.Proofs.Ytjjbpaaionpjeaa.linesRope
