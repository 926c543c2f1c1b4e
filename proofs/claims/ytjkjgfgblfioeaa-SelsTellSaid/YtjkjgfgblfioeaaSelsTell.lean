/- Any selections are put in order, or refused, as the document tells, whatever the length is; so are some of a text of 60 bytes. Conditions: none beyond the form's own. -/
import Derived.Test.YtjkjgfgblfioeaaRows
import Derived.Test.YtjkjgfgblfioeaaArgs
import Derived.Test.YtjkjgfgblfioeaaSelX
import Derived.Test.YtjkjgfgblfioeaaSymU
import Derived.Test.YtjkjgfgblfioeaaSelQ
import Derived.Test.YtjkjgfgblfioeaaPrArgs
import Derived.Test.YtjkjgfgblfioeaaSelW
import Derived.Test.YtjkjgfgblfioeaaRefN
namespace Go.Proofs.Ytjkjgfgblfioeaa.selsTell
open Go.Proofs.Ytjkjgfgblfioeaa
open Go.ChangeShapes Go.WideShapes Go.ChangeAt Go.RowKit Go.Deep
open Go.ChangeMaps (open_string shut_string)
set_option linter.unusedVariables false

theorem own : ownKnob Try.prog.godebug = none := by kernel_rfl
theorem laidOut : laidOutB Try.prog = true := by kernel_rfl
-- opt:8000000
open SpanM SelM
attribute [local go_sem ↓] Go.wp_at_zero Go.wp_at_succ
attribute [local go_sem] later_cell later_frozen fld_sp0 fld_sp1
theorem nrL_len (n : Int) (l : List Sp) : (nrL n l).length ≤ l.length := by
  unfold nrL
  split
  · have := mrg_le (sortL l) (sortL l).length
    rw [List.take_length, sortL_len] at this
    exact this
  · simp
set_option maxRecDepth 100000 in
set_option maxHeartbeats 8000000 in
theorem walk (a0 : Int) (a1 : Value) (l1 : List SpanM.Sp) (a2 : Value) (l2 : List SpanM.Sp) (w : World) (w0 : (Lit.int .i64 a0).wf = true) (w1 : SpAt w a1 l1) (b1 : ∀ s ∈ l1, Wf s) (w2 : SpAt w a2 l2) (b2 : ∀ s ∈ l2, Wf s) :
    Calls Try.prog 3 #[.int .i64 a0, a1, a2] w fun e w' => e = .returned (.bool true) ∧ Below w.heap.size w w' := by
  obtain ⟨vA, vc, rfl⟩ := spat_len w1
  obtain ⟨uA, uc, rfl⟩ := spat_len w2
  by_cases h1 : 80 < l1.length
  · have g1 : decide ((80 : Int) < (l1.length : Int)) = true := decide_eq_true (by omega)
    have g1' : decide (80 < l1.length) = true := decide_eq_true h1
    clear w1 w2 b1 b2 h1
    go_enter Try.func3, Try.ntmps3
    go_wp2_with fail
    refine (awake8_any _).mono ?_
    rintro e w9 ⟨rfl, hb9⟩
    go_wp2
    go_ret
    exact ⟨rfl, hb9⟩
  have g1 : decide ((80 : Int) < (l1.length : Int)) = false := decide_eq_false (by omega)
  have g1' : decide (80 < l1.length) = false := decide_eq_false h1
  by_cases h2 : 80 < l2.length
  · have g2 : decide ((80 : Int) < (l2.length : Int)) = true := decide_eq_true (by omega)
    have g2' : decide (80 < l2.length) = true := decide_eq_true h2
    clear w1 w2 b1 b2 h1 h2
    go_enter Try.func3, Try.ntmps3
    go_wp2_with fail
    refine (awake8_any _).mono ?_
    rintro e w9 ⟨rfl, hb9⟩
    go_wp2
    go_ret
    exact ⟨rfl, hb9⟩
  have g2 : decide ((80 : Int) < (l2.length : Int)) = false := decide_eq_false (by omega)
  have g2' : decide (80 < l2.length) = false := decide_eq_false h2
  have hu1 := nrL_len a0 l1
  have hu2 := nrL_len 60 (l2.map low2)
  rw [List.length_map] at hu2
  have hm2 : (l2.map low2).length = l2.length := by simp
  have hN1 := fun (W : World) (v : Value) (h : SpAt W v l1) => norm_any stab79 v l1 a0 W h (by omega)
  have hN2 := fun (W : World) (v : Value) (h : SpAt W v l1) => rnorm_any v l1 a0 W h (by omega)
  have hN3 := fun (W : World) (v : Value) (h : SpAt W v (l2.map low2)) => norm_any stab79 v (l2.map low2) 60 W h (by omega)
  have hN4 := fun (W : World) (v : Value) (h : SpAt W v (l2.map low2)) => rnorm_any v (l2.map low2) 60 W h (by omega)
  have hS := fun (W : World) (v : Value) (h : SpAt W v l2) => some_any v l2 W h (by omega)
  generalize l2.map low2 = L2 at *
  have HS := hide hS
  clear hS
  generalize nrL a0 l1 = U1 at *
  generalize nrE a0 l1 = E1 at *
  generalize nrL 60 L2 = U2 at *
  generalize nrE 60 L2 = E2 at *
  have hq1 := fun (W : World) (v u : Value) (h : SpAt W v U1) (g : SpAt W u U1) => sels_any v u U1 U1 W h g (by omega) (by omega)
  have hq2 := fun (W : World) (v u : Value) (h : SpAt W v U2) (g : SpAt W u U2) => sels_any v u U2 U2 W h g (by omega) (by omega)
  rw [show decide (U1 = U1) = true by simp] at hq1
  rw [show decide (U2 = U2) = true by simp] at hq2
  have HN1 := hide hN1
  have HN2 := hide hN2
  have HN3 := hide hN3
  have HN4 := hide hN4
  have HQ1 := hide hq1
  have HQ2 := hide hq2
  have HM := hide hm2
  have S1 := w1
  have S2 := w2
  have HB := hide (bl_refl w)
  have t1 : (E1 == E1) = true := beq_self_eq_true _
  have t2 : (E2 == E2) = true := beq_self_eq_true _
  clear hN1 hN2 hN3 hN4 hq1 hq2 hu1 hu2 hm2 h1 h2 w1 w2 b1 b2
  go_enter Try.func3, Try.ntmps3
  go_wp2_with fail
  refine (HN1.out _ _ S1).mono ?_
  rintro e w3 ⟨v3, rfl, hb3, ho⟩
  have S1 := spat_below S1 hb3
  have S2 := spat_below S2 hb3
  have HB := hide (bl_trans HB.out hb3)
  have R1 := own_spatL ho
  obtain ⟨a3, c3, rfl⟩ := own_slice ho
  clear ho
  clear hb3 HN1
  clear g1 g1' g2 g2'
  go_wp2_with fail
  refine (HN2.out _ _ S1).mono ?_
  rintro e w4 ⟨v4, rfl, hb4, ho⟩
  have S1 := spat_below S1 hb4
  have S2 := spat_below S2 hb4
  have R1 := spat_below R1 hb4
  have HB := hide (bl_trans HB.out hb4)
  have R2 := own_spatL ho
  obtain ⟨a4, c4, rfl⟩ := own_slice ho
  clear ho
  clear hb4 HN2
  go_wp2_with fail
  refine (HS.out _ _ S2).mono ?_
  rintro e w5 ⟨v5, rfl, hb5, ho⟩
  have S1 := spat_below S1 hb5
  have S2 := spat_below S2 hb5
  have R1 := spat_below R1 hb5
  have R2 := spat_below R2 hb5
  have HB := hide (bl_trans HB.out hb5)
  rw [← HM.out] at ho
  have M1 := own_spatL ho
  obtain ⟨a5, c5, rfl⟩ := own_slice ho
  clear ho
  clear hb5 
  go_wp2_with fail
  refine (HN3.out _ _ M1).mono ?_
  rintro e w6 ⟨v6, rfl, hb6, ho⟩
  have S1 := spat_below S1 hb6
  have S2 := spat_below S2 hb6
  have R1 := spat_below R1 hb6
  have R2 := spat_below R2 hb6
  have M1 := spat_below M1 hb6
  have HB := hide (bl_trans HB.out hb6)
  have R3 := own_spatL ho
  obtain ⟨a6, c6, rfl⟩ := own_slice ho
  clear ho
  clear hb6 HN3
  clear M1
  go_wp2_with fail
  refine (HS.out _ _ S2).mono ?_
  rintro e w7 ⟨v7, rfl, hb7, ho⟩
  have S1 := spat_below S1 hb7
  have S2 := spat_below S2 hb7
  have R1 := spat_below R1 hb7
  have R2 := spat_below R2 hb7
  have R3 := spat_below R3 hb7
  have HB := hide (bl_trans HB.out hb7)
  rw [← HM.out] at ho
  have M2 := own_spatL ho
  obtain ⟨a7, c7, rfl⟩ := own_slice ho
  clear ho
  clear hb7 
  clear HS
  go_wp2_with fail
  refine (HN4.out _ _ M2).mono ?_
  rintro e w8 ⟨v8, rfl, hb8, ho⟩
  have S1 := spat_below S1 hb8
  have S2 := spat_below S2 hb8
  have R1 := spat_below R1 hb8
  have R2 := spat_below R2 hb8
  have R3 := spat_below R3 hb8
  have M2 := spat_below M2 hb8
  have HB := hide (bl_trans HB.out hb8)
  have R4 := own_spatL ho
  obtain ⟨a8, c8, rfl⟩ := own_slice ho
  clear ho
  clear hb8 HN4
  go_wp2_with fail
  refine (HQ1.out _ _ _ R1 R2).mono ?_
  rintro e wa ⟨rfl, n1, rfl⟩
  have R3 := spat_below R3 (bl_drewN (bl_refl _) n1)
  have R4 := spat_below R4 (bl_drewN (bl_refl _) n1)
  clear R1 R2 S1 S2 M2 HQ1
  go_wp2_with fail
  refine (HQ2.out _ _ _ R3 R4).mono ?_
  rintro e wb ⟨rfl, n2, rfl⟩
  clear R3 R4 HQ2
  go_wp2_with fail
  refine (awake8_any _).mono ?_
  rintro e w9 ⟨rfl, hb9⟩
  go_wp2
  go_ret
  exact ⟨rfl, bl_trans (bl_drewN HB.out (n1 + n2)) hb9⟩

set_option maxRecDepth 100000 in
theorem lifted (os : Os) (started : os.Started) (H : Type) (enc : TypeId × Value → H) :
    ReturnsInHanded {} Try.checked os 3 .any (Rows.selsTellSpec.pre6 enc Try.prog Try.f3 Rows.selsTellRow.domain false) (Rows.selsTellSpec.post enc Try.prog Try.f3 false true false false) := by
  refine returnsInHanded_of_change (C := Try.checked) own started (by kernel_rfl) Try.func3
    (ChangeSpec.witness6 (enc := enc) (C := Try.checked) false ⟨#[], #[.int .i64 0, .slice none 0 0, .slice none 0 0], []⟩ 8 (by kernel_rfl) (by kernel_rfl) (by kernel_rfl) (by kernel_rfl)) ?_
  intro W base args ds gs before hval0 hW hcnd _
  have hval : ∀ (j : Nat) t v, Try.f3.params[j]? = some t → args[j]? = some v → Value.okWide Try.prog W .any base t v := hval0
  have hW' := hW
  obtain ⟨p, q, hA0, hV, rfl, hfz, hnd⟩ := hW
  have hA : DataW.TrodAll enc Try.prog W 0 (fun _ => true) true Try.f3.params.toList args.toList ds p := hA0
  rw [Try.params3] at hA hval
  obtain ⟨v0, vs0, d0, ds0, p0, q0, hargs, rfl, rfl, h0, r0⟩ := trodAll_cons hA
  obtain ⟨v1, vs1, d1, ds1, p1, q1, rfl, rfl, rfl, h1, r1⟩ := trodAll_cons r0
  obtain ⟨v2, vs2, d2, ds2, p2, q2, rfl, rfl, rfl, h2, r2⟩ := trodAll_cons r1
  obtain ⟨rfl, rfl, rfl⟩ := trodAll_nil r2
  obtain rfl : args = #[v0, v1, v2] := by cases args; simp_all
  obtain ⟨rfl, rfl⟩ := trodVars_none hV
  have k0 := h0
  have lt0 : ∀ x ∈ p0, x.block < W.heap.size := by obtain ⟨m, hm⟩ := k0; exact DataW.trod_lt m _ _ _ hm
  obtain ⟨a0, rfl, hd0, hp0, w0⟩ := open_int Try.underlying3 (hval 0 3 v0 rfl rfl) h0
  have k1 := h1
  have lt1 : ∀ x ∈ p1, x.block < W.heap.size := by obtain ⟨m, hm⟩ := k1; exact DataW.trod_lt m _ _ _ hm
  obtain ⟨l1, w1, b1⟩ := open_spans (hval 1 22 v1 rfl rfl) h1
  have k2 := h2
  have lt2 : ∀ x ∈ p2, x.block < W.heap.size := by obtain ⟨m, hm⟩ := k2; exact DataW.trod_lt m _ _ _ hm
  obtain ⟨l2, w2, b2⟩ := open_pairs (hval 2 23 v2 rfl rfl) h2
  clear hA0 hval0
  refine (walk a0 v1 l1 v2 l2 W w0 w1 b1 w2 b2).mono fun e W' ⟨he, bel⟩ => ?_
  subst he
  exact ⟨_, rfl, _, _, _, [], _, [], hW', trodAll_mk1 (shut_bool Try.underlying4 _), (trodAll_cons_mk (Below.trod laidOut (by kernel_rfl) (of_decide_eq_true (by kernel_rfl)) k0 bel lt0) (trodAll_cons_mk (Below.trod laidOut (by kernel_rfl) (of_decide_eq_true (by kernel_rfl)) k1 bel lt1) (trodAll_cons_mk (Below.trod laidOut (by kernel_rfl) (of_decide_eq_true (by kernel_rfl)) k2 bel lt2) trodAll_mk0))), rfl, bel.frame _, fun h => by cases h⟩

theorem over : Rows.selsTellRow.holds Try.pinned (OpenSpec.ofChange Rows.selsTellSpec) :=
  OpenClaim.holds_of_wide 3 Try.f3 rfl rfl rfl rfl rfl rfl rfl ⟨rfl, rfl, rfl, rfl, rfl⟩ rfl rfl rfl rfl rfl (by kernel_rfl) Try.func3 (by kernel_rfl)
    (of_decide_eq_true (by kernel_rfl)) (by unfold Func.isWrapper; first | (rw [if_pos (by decide +kernel)]; kernel_rfl) | (rw [if_neg (by decide +kernel)]; exact ⟨rfl, rfl⟩))
    (fun os started H enc _ => lifted os started H enc)

theorem proved : Rows.SelsTellSaid := over
end Go.Proofs.Ytjkjgfgblfioeaa.selsTell
