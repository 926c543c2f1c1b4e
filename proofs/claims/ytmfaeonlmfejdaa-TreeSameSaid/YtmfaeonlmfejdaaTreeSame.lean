/- Any two trees are the Same just if all their parts' fields are; each is the Same as itself, both ways round. Conditions: none beyond the form's own. -/
import Derived.Test.YtmfaeonlmfejdaaRows
import Derived.Test.YtmfaeonlmfejdaaArgs
import Derived.Test.YtmfaeonlmfejdaaRyH
import Derived.Test.YtmfaeonlmfejdaaRxArgs
import Derived.Test.YtmfaeonlmfejdaaRxE
namespace Go.Proofs.Ytmfaeonlmfejdaa.treeSame
open Go.Proofs.Ytmfaeonlmfejdaa
open Go.ChangeShapes Go.WideShapes Go.ChangeAt Go.RowKit Go.Deep
open Go.ChangeMaps (open_string shut_string)
set_option linter.unusedVariables false

theorem own : ownKnob Try.prog.godebug = none := by kernel_rfl
theorem laidOut : laidOutB Try.prog = true := by kernel_rfl
open SetM
attribute [local go_sem ↓] Go.wp_at_zero Go.wp_at_succ
attribute [local go_sem] later_cell later_frozen
set_option maxRecDepth 100000 in
set_option maxHeartbeats 1000000 in
theorem walk (t0 : Rt) (t1 : Rt) (w : World) (w0 : RxAt w t0) (b0 : WfX t0) (w1 : RxAt w t1) (b1 : WfX t1) :
    Calls Try.prog 4 #[t0.v, t1.v] w fun e w' => e = .returned (.bool true) ∧ Below w.heap.size w w' := by
  obtain ⟨rA0, rc0, kA0, kc0, hrv, hkv, hv⟩ := rx_v w0
  obtain ⟨rA1, rc1, kA1, kc1, hrv1, hkv1, hv1⟩ := rx_v w1
  have HG := hide (fun W hb => rxl_any w0 b0 100 (by decide) (by decide) W hb)
  have HG1 := hide (fun W hb => rxl_any w1 b1 100 (by decide) (by decide) W hb)
  obtain ⟨sm, hsm⟩ : ∃ x, sameM t0 t1 = x := ⟨_, rfl⟩
  have HXY := hide (fun W hb => same_any w0 w1 W hb)
  have HYX := hide (fun W hb => same_any w1 w0 W hb)
  have HXX := hide (fun W hb => same_any w0 w0 W hb)
  have HYY := hide (fun W hb => same_any w1 w1 W hb)
  have HR := hide (fun W hb => rsame_any w0 t1 w1 W hb)
  rw [hsm] at HXY HR
  rw [sameM_symm, hsm] at HYX
  rw [sameM_refl] at HXX HYY
  unfold SmPost at HXY HYX HXX HYY HR
  unfold GuPost at HG HG1
  rw [hv] at HG HXY HYX HXX HR ⊢
  rw [hv1] at HG1 HXY HYX HYY HR ⊢
  generalize sM t0 = s0 at *
  generalize sM t1 = s1 at *
  clear hrv hkv hv w0 b0 hrv1 hkv1 hv1 w1 b1 hsm
  generalize t0.kids.length = kl0 at *
  generalize t0.rows.length = rl0 at *
  generalize t0.k = k0 at *
  generalize t0.ch = ch0 at *
  generalize t0.nt = nt0 at *
  generalize t0.mi = mi0 at *
  generalize t0.ma = ma0 at *
  generalize t0.lz = lz0 at *
  generalize t1.kids.length = kl1 at *
  generalize t1.rows.length = rl1 at *
  generalize t1.k = k1 at *
  generalize t1.ch = ch1 at *
  generalize t1.nt = nt1 at *
  generalize t1.mi = mi1 at *
  generalize t1.ma = ma1 at *
  generalize t1.lz = lz1 at *
  have HBA := hide (fun o1 o2 => bl_alloc (bl_alloc (bl_refl w) o1) o2)
  have FA := hide (fun W (hb : Below ((w.alloc (.cells #[.int .i64 k0, .string ch0, .bool nt0, .slice rA0 rl0 rc0, .int .i64 mi0, .int .i64 ma0, .bool lz0, .slice kA0 kl0 kc0] 25)).alloc (.cells #[.int .i64 k1, .string ch1, .bool nt1, .slice rA1 rl1 rc1, .int .i64 mi1, .int .i64 ma1, .bool lz1, .slice kA1 kl1 kc1] 25)).heap.size ((w.alloc (.cells #[.int .i64 k0, .string ch0, .bool nt0, .slice rA0 rl0 rc0, .int .i64 mi0, .int .i64 ma0, .bool lz0, .slice kA0 kl0 kc0] 25)).alloc (.cells #[.int .i64 k1, .string ch1, .bool nt1, .slice rA1 rl1 rc1, .int .i64 mi1, .int .i64 ma1, .bool lz1, .slice kA1 kl1 kc1] 25)) W) j u hu => cell_later hb (cell_later (bl_alloc (bl_refl _) _) (lit_at w #[.int .i64 k0, .string ch0, .bool nt0, .slice rA0 rl0 rc0, .int .i64 mi0, .int .i64 ma0, .bool lz0, .slice kA0 kl0 kc0] 25 j u hu)))
  have FB := hide (fun W (hb : Below ((w.alloc (.cells #[.int .i64 k0, .string ch0, .bool nt0, .slice rA0 rl0 rc0, .int .i64 mi0, .int .i64 ma0, .bool lz0, .slice kA0 kl0 kc0] 25)).alloc (.cells #[.int .i64 k1, .string ch1, .bool nt1, .slice rA1 rl1 rc1, .int .i64 mi1, .int .i64 ma1, .bool lz1, .slice kA1 kl1 kc1] 25)).heap.size ((w.alloc (.cells #[.int .i64 k0, .string ch0, .bool nt0, .slice rA0 rl0 rc0, .int .i64 mi0, .int .i64 ma0, .bool lz0, .slice kA0 kl0 kc0] 25)).alloc (.cells #[.int .i64 k1, .string ch1, .bool nt1, .slice rA1 rl1 rc1, .int .i64 mi1, .int .i64 ma1, .bool lz1, .slice kA1 kl1 kc1] 25)) W) j u hu => cell_later hb (lit_at2 w (.cells #[.int .i64 k0, .string ch0, .bool nt0, .slice rA0 rl0 rc0, .int .i64 mi0, .int .i64 ma0, .bool lz0, .slice kA0 kl0 kc0] 25) #[.int .i64 k1, .string ch1, .bool nt1, .slice rA1 rl1 rc1, .int .i64 mi1, .int .i64 ma1, .bool lz1, .slice kA1 kl1 kc1] 25 0 j u hu))
  go_enter Try.func4, Try.ntmps4
  go_wp2_with fail
  refine (HG.out _ (HBA.out _ _)).mono ?_
  rintro e w2 ⟨r, rfl, hr0, hr1, hr2, hb2⟩
  have HB2 := hide (bl_trans (HBA.out _ _) hb2)
  have HBX := hide hb2
  clear hr0 hr1 hr2 hb2
  have hzz : ∀ o1 o2, w.heap.size + 1 < ((w.alloc o1).alloc o2).heap.size := fun o1 o2 => by simp
  have hzz2 : ∀ o1 o2, w.heap.size < ((w.alloc o1).alloc o2).heap.size := fun o1 o2 => by simp; omega
  by_cases hn : r < 0
  case pos =>
    have d1 : decide (r < 0) = true := decide_eq_true hn
    clear hn hzz hzz2
    go_wp2_with fail
    refine (awake13_any _).mono ?_
    rintro e w3 ⟨rfl, hb3⟩
    have HB3 := hide (bl_trans HB2.out hb3)
    clear hb3
    go_wp2
    go_ret
    exact ⟨rfl, HB3.out⟩
  have d1 : decide (r < 0) = false := decide_eq_false hn
  have d0 := FB.out _ HBX.out 0 _ rfl
  have d1' := FB.out _ HBX.out 1 _ rfl
  have d2 := FB.out _ HBX.out 2 _ rfl
  have d3 := FB.out _ HBX.out 3 _ rfl
  have d4 := FB.out _ HBX.out 4 _ rfl
  have d5 := FB.out _ HBX.out 5 _ rfl
  have d6 := FB.out _ HBX.out 6 _ rfl
  have d7 := FB.out _ HBX.out 7 _ rfl
  clear hn
  go_wp2_with fail
  refine (HG1.out _ HB2.out).mono ?_
  rintro e w3 ⟨r1, rfl, hr0, hr1, hr2, hb3⟩
  have HB3 := hide (bl_trans HB2.out hb3)
  have HBY := hide (bl_trans HBX.out hb3)
  clear hr0 hr1 hr2 hb3 d0 d1' d2 d3 d4 d5 d6 d7
  by_cases hn : r1 < 0
  case pos =>
    have d2 : decide (r1 < 0) = true := decide_eq_true hn
    clear hn hzz hzz2
    go_wp2_with fail
    refine (awake13_any _).mono ?_
    rintro e w4 ⟨rfl, hb4⟩
    have HB4 := hide (bl_trans HB3.out hb4)
    clear hb4
    go_wp2
    go_ret
    exact ⟨rfl, HB4.out⟩
  have d2 : decide (r1 < 0) = false := decide_eq_false hn
  have e0 := FB.out _ HBY.out 0 _ rfl
  have c0 := FA.out _ HBY.out 0 _ rfl
  have e1 := FB.out _ HBY.out 1 _ rfl
  have c1 := FA.out _ HBY.out 1 _ rfl
  have e2 := FB.out _ HBY.out 2 _ rfl
  have c2 := FA.out _ HBY.out 2 _ rfl
  have e3 := FB.out _ HBY.out 3 _ rfl
  have c3 := FA.out _ HBY.out 3 _ rfl
  have e4 := FB.out _ HBY.out 4 _ rfl
  have c4 := FA.out _ HBY.out 4 _ rfl
  have e5 := FB.out _ HBY.out 5 _ rfl
  have c5 := FA.out _ HBY.out 5 _ rfl
  have e6 := FB.out _ HBY.out 6 _ rfl
  have c6 := FA.out _ HBY.out 6 _ rfl
  have e7 := FB.out _ HBY.out 7 _ rfl
  have c7 := FA.out _ HBY.out 7 _ rfl
  have hlt : w.heap.size < w3.heap.size := World.block_lt_of_cell? _ _ c0
  have hlt2 : w.heap.size + 1 < w3.heap.size := World.block_lt_of_cell? _ _ e0
  clear hn FA FB HG HG1 hzz hzz2 HBX HBY
  go_wp2
  refine wp_region_later (by kernel_rfl) (by kernel_rfl) ?_
  repeat (go_big_quiet_step (first
    | (go_at_call 19; first | (with_reducible exact later_call (HXY.out _ (bl_trans HB3.out (Later.below _)))) | (with_reducible exact later_call (HYX.out _ (bl_trans HB3.out (Later.below _)))) | (with_reducible exact later_call (HXX.out _ (bl_trans HB3.out (Later.below _)))) | (with_reducible exact later_call (HYY.out _ (bl_trans HB3.out (Later.below _)))))
    | (go_at_call 20; exact later_call (HR.out _ (bl_trans HB3.out (Later.below _))))
    | (go_at_call 10; exact later_call (awake13_any _))
    | exact rfl))
  refine wpQuiet_nil ?_
  rintro w9 ⟨⟨_, hb9⟩, rfl⟩
  have HB9 := hide (bl_trans HB3.out hb9)
  clear hb9
  go_wp2
  go_ret
  exact ⟨rfl, HB9.out⟩

set_option maxRecDepth 100000 in
theorem lifted (os : Os) (started : os.Started) (H : Type) (enc : TypeId × Value → H) :
    ReturnsInHanded {} Try.checked os 4 .any (Rows.treeSameSpec.pre6 enc Try.prog Try.f4 Rows.treeSameRow.domain false) (Rows.treeSameSpec.post enc Try.prog Try.f4 false true false false) := by
  refine returnsInHanded_of_change (C := Try.checked) own started (by kernel_rfl) Try.func4
    (ChangeSpec.witness6 (enc := enc) (C := Try.checked) false ⟨#[], #[.agg #[.int .i64 0, .string ByteArray.empty, .bool false, .slice none 0 0, .int .i64 0, .int .i64 0, .bool false, .slice none 0 0], .agg #[.int .i64 0, .string ByteArray.empty, .bool false, .slice none 0 0, .int .i64 0, .int .i64 0, .bool false, .slice none 0 0]], []⟩ 8 (by kernel_rfl) (by kernel_rfl) (by kernel_rfl) (by kernel_rfl)) ?_
  intro W base args ds gs before hval0 hW hcnd _
  have hval : ∀ (j : Nat) t v, Try.f4.params[j]? = some t → args[j]? = some v → Value.okWide Try.prog W .any base t v := hval0
  have hW' := hW
  obtain ⟨p, q, hA0, hV, rfl, hfz, hnd⟩ := hW
  have hA : DataW.TrodAll enc Try.prog W 0 (fun _ => true) true Try.f4.params.toList args.toList ds p := hA0
  rw [Try.params4] at hA hval
  obtain ⟨v0, vs0, d0, ds0, p0, q0, hargs, rfl, rfl, h0, r0⟩ := trodAll_cons hA
  obtain ⟨v1, vs1, d1, ds1, p1, q1, rfl, rfl, rfl, h1, r1⟩ := trodAll_cons r0
  obtain ⟨rfl, rfl, rfl⟩ := trodAll_nil r1
  obtain rfl : args = #[v0, v1] := by cases args; simp_all
  obtain ⟨rfl, rfl⟩ := trodVars_none hV
  have k0 := h0
  have lt0 : ∀ x ∈ p0, x.block < W.heap.size := by obtain ⟨m, hm⟩ := k0; exact DataW.trod_lt m _ _ _ hm
  obtain ⟨t0, rfl, w0, b0⟩ := open_rx (hval 0 25 v0 rfl rfl) h0
  have k1 := h1
  have lt1 : ∀ x ∈ p1, x.block < W.heap.size := by obtain ⟨m, hm⟩ := k1; exact DataW.trod_lt m _ _ _ hm
  obtain ⟨t1, rfl, w1, b1⟩ := open_rx (hval 1 25 v1 rfl rfl) h1
  clear hA0 hval0
  refine (walk t0 t1 W w0 b0 w1 b1).mono fun e W' ⟨he, bel⟩ => ?_
  subst he
  exact ⟨_, rfl, _, _, _, [], _, [], hW', trodAll_mk1 (shut_bool Try.underlying4 _), (trodAll_cons_mk (Below.trod laidOut (by kernel_rfl) (of_decide_eq_true (by kernel_rfl)) k0 bel lt0) (trodAll_cons_mk (Below.trod laidOut (by kernel_rfl) (of_decide_eq_true (by kernel_rfl)) k1 bel lt1) trodAll_mk0)), rfl, bel.frame _, fun h => by cases h⟩

theorem over : Rows.treeSameRow.holds Try.pinned (OpenSpec.ofChange Rows.treeSameSpec) :=
  OpenClaim.holds_of_wide 4 Try.f4 rfl rfl rfl rfl rfl rfl rfl ⟨rfl, rfl, rfl, rfl, rfl⟩ rfl rfl rfl rfl rfl (by kernel_rfl) Try.func4 (by kernel_rfl)
    (of_decide_eq_true (by kernel_rfl)) (by unfold Func.isWrapper; first | (rw [if_pos (by decide +kernel)]; kernel_rfl) | (rw [if_neg (by decide +kernel)]; exact ⟨rfl, rfl⟩))
    (fun os started H enc _ => lifted os started H enc)

theorem proved : Rows.TreeSameSaid := over
end Go.Proofs.Ytmfaeonlmfejdaa.treeSame
