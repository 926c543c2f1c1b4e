/- As many ranges as may be are let, one more is not; where one was dropped one more comes, by a number of its own; two tables go on apart. Conditions: none beyond the form's own. -/
import Derived.Test.YtjmoeahlbgdkbaaRows
import Derived.Test.YtjmoeahlbgdkbaaArgs
import Derived.Test.YtjmoeahlbgdkbaaTabX
namespace Go.Proofs.Ytjmoeahlbgdkbaa.marksFull
open Go.Proofs.Ytjmoeahlbgdkbaa
open Go.ChangeShapes Go.WideShapes Go.ChangeAt Go.RowKit Go.Deep
open Go.ChangeMaps (open_string shut_string)
set_option linter.unusedVariables false

theorem own : ownKnob Try.prog.godebug = none := by kernel_rfl
theorem laidOut : laidOutB Try.prog = true := by kernel_rfl
-- opt:16000000
open SpanM
attribute [local go_sem ↓] Go.wp_at_zero Go.wp_at_succ
theorem low_e (x : Int) (n : Nat) (A : Int) (w : World) (hn : 0 < n) (hn' : n < 1000000000) (hA : (lowN x n : Int) = A) : Calls Try.prog 24 #[.int .i64 x, .int .i64 n] w fun e w' => e = .returned (.int .i64 A) ∧ w = w' := by
  subst hA; exact low_any x n w hn hn'
theorem got_ok {L : List Mk} {x : Int} {r : Value} {ok : Bool} (h : GotM L x r ok) (hx : ∃ q ∈ L, q.id = x) : ∃ q, r = vR q ∧ ok = true := by
  rcases h with ⟨h1, i, hi, _, hv⟩ | ⟨_, _, hno⟩
  · exact ⟨_, hv, h1⟩
  · obtain ⟨q, hq, hqx⟩ := hx
    exact absurd hqx (hno q hq)
def F1 (B : Nat) (w : World) (i : Value) (wr : World) : Prop :=
  ∃ (k : Nat) (L : List Mk) (v : Value), i = .int .i64 k ∧ k ≤ 256 ∧ L.length = k ∧ Hid (Tab wr B B (k : Int) v L) ∧ Hid (OkF L) ∧ Below B w wr
set_option maxRecDepth 100000 in
set_option maxHeartbeats 16000000 in
theorem walk (a0 : Int) (w : World) (w0 : (Lit.int .i64 a0).wf = true) :
    Calls Try.prog 9 #[.int .i64 a0] w fun e w' => e = .returned (.bool true) ∧ Below w.heap.size w w' := by
  obtain ⟨q, hq⟩ : ∃ q, lowN a0 256 = q := ⟨_, rfl⟩
  have hq1 : q < 256 := by rw [← hq]; exact lowN_lt a0 256 (by omega)
  have HQ := hide (show (lowN a0 256 : Int) = (q : Int) by rw [hq])
  clear hq
  have T0 := hide (tab_new w)
  have B0 := hide (bl_alloc (bl_refl w) (.cells #[.int .i64 0, .slice none 0 0] 75))
  go_enter Try.func9, Try.ntmps9
  go_wp2_with fail
  refine (mnew_any _).mono ?_
  rintro e w1 ⟨rfl, hw1⟩
  rw [hw1] at T0 B0
  clear hw1
  go_wp2
  go_loopw [4] (fun i wr => F1 w.heap.size w i wr) (fun i _ => 256 - (intOf i).toNat)
  case atStart => exact ⟨0, [], _, rfl, by omega, rfl, hide T0.out, hide (fun j h => by simp at h), B0.out⟩
  case round =>
    obtain ⟨k, L, v, rfl, hk, hLk, HT, HO, hbl⟩ := hrel
    by_cases hlt : k < 256
    · have hd : decide ((k : Int) < 256) = true := by simp; omega
      have hd' : decide (k < 256) = true := by simp; omega
      have hmay : mayB ((k : Int), (k : Int) + 1) 65536 = true := by unfold mayB; simp; omega
      go_wp2_with fail
      refine (add_any w.heap.size w.heap.size k v L k ((k : Int) + 1) false false _ HT.out (by omega) hbl.size hmay (by omega)).mono ?_
      rintro e w4 ⟨rfl, ⟨v', T4⟩, B4⟩
      have B5 : Below w.heap.size w w4 := hbl.trans B4
      have HT4 := hide T4
      have HO4 := hide (okF_snoc HO.out k ((k : Int) + 1) false false)
      rw [hLk] at HO4
      clear T4 HT HO
      go_wp2
      refine ⟨?_, by first | (simp [intOf]; done) | (simp [intOf]; omega)⟩
      exact ⟨k + 1, _, v', by go_num, by omega, by rw [List.length_append, hLk]; rfl, HT4, HO4, B5⟩
    · obtain rfl : k = 256 := by omega
      have hm3 : mayB (3, 3) 65536 = true := by decide
      go_wp2_with fail
      refine (twin_any w.heap.size w.heap.size _ v L _ HT.out (by omega)).mono ?_
      rintro e wt ⟨⟨tb2, v2, rfl, hU⟩, hbt⟩
      have HTt := hide (HT.out.later hbt)
      have HU := hide hU
      have hwr := hbl.size
      have hwt := hbt.size
      have hB1 : Below w.heap.size w wt := hbl.trans (hbt.mono hwr)
      have hbx : Below wt.heap.size wt (wt.alloc (.cells #[.int .i64 3, .int .i64 3, .bool false, .bool false, .int .i64 0] 43)) := bl_alloc (bl_refl wt) _
      clear hU T0 B0 hbl hbt
      go_wp2_with fail
      refine (add_full w.heap.size w.heap.size _ v L 3 3 false false _ (HTt.out.later hbx) hm3 (by omega)).mono ?_
      rintro e w5 ⟨rfl, hb5⟩
      go_wp2_with fail
      refine (low_e a0 256 q _ (by omega) (by omega) HQ.out).mono ?_
      rintro e w6 ⟨rfl, rfl⟩
      obtain ⟨X, hX⟩ : ∃ X : Int, 1 + (q : Int) = X := ⟨_, rfl⟩
      have hX1 : X = (q : Int) + 1 := by omega
      have hlw : w.heap.size < wr.heap.size := HT.out.lt
      have hlt2 : tb2 < wt.heap.size := HU.out.lt
      have hlo2 : wr.heap.size ≤ tb2 := HU.out.low
      have hv2 : ∀ k, v2.ownBlock = some k → wr.heap.size ≤ k ∧ k < wt.heap.size := fun k hk => HU.out.own.lt k hk
      have hbx5 := bl_trans hbx hb5
      have HT5 := hide (HTt.out.later hbx5)
      have HU5 := hide (HU.out.later hbx5)
      have hs5 : wt.heap.size + 1 ≤ w5.heap.size := by have := hb5.size; simpa using this
      have hf5 := (hb5.block wt.heap.size (by simp)).trans (heap_alloc_new wt (.cells #[.int .i64 3, .int .i64 3, .bool false, .bool false, .int .i64 0] 43))
      have hex : ∃ r ∈ L, r.id = X := ⟨L[q], List.getElem_mem (by omega), by rw [(HO.out q (by omega)).1, hX1]⟩
      have HEX := hide hex
      have hdl := drop_len HO.out q (by omega)
      rw [← hX1, hLk] at hdl
      have HDR := hide (drop_any w.heap.size w.heap.size 256 v L X w5 HT5.out (okF_rise HO.out) (by omega) (WalkArith.wf_i64 (by omega)) (by omega) (fun r hr => by
        have := okF_mem HO.out r hr
        exact ⟨WalkArith.wf_i64 (by omega), WalkArith.wf_i64 (by omega)⟩) hex)
      have hB5 : Below w.heap.size w w5 := hB1.trans (hbx5.mono (by omega))
      clear hex hb5 hbx hbx5 HTt HT5 hX1
      go_wp2_with fail
      refine HDR.out.mono ?_
      rintro e w7 ⟨rfl, ⟨v7, T7, hv7⟩, hg7⟩
      have hs7 := hg7.size
      have hf7 := (hg7.block wt.heap.size (by omega) (fun e => by injection e with e; omega)).trans hf5
      have U7 := HU5.out.kept hg7 (fun e => by injection e with e; omega) (.inr (fun e => by have := hv2 _ e; omega))
      have hB7 : Below w.heap.size w w7 := below_gr hB5 (Nat.le_refl _) hg7 (fun k hk => by injection hk with hk; omega)
      obtain ⟨p0, p1, p2, p3, p4, _⟩ := box5 hf7
      have HT7 := hide T7
      have HU7 := hide U7
      clear T7 U7 hg7 HDR HU5 hf5
      go_wp2_with fail
      refine (add_fr w.heap.size w.heap.size 256 v7 (dropM X L) 3 3 false false _ HT7.out (by omega) (by omega) hm3 (by omega)).mono ?_
      rintro e w8 ⟨rfl, ⟨v8, T8⟩, K8⟩
      have hs8 := K8.size
      have hf8 := (K8.block wt.heap.size (by omega) (by omega) (fun e => by have := hv7 _ e; omega)).trans hf7
      have U8 := HU7.out.kp K8 (by omega) (fun e => by have := hv7 _ e; omega) (fun k hk => ⟨by have := hv2 k hk; omega, fun e => by have := hv7 _ e; have := hv2 k hk; omega⟩)
      have hB8 : Below w.heap.size w w8 := ⟨K8.os.trans hB7.os, K8.tape.trans hB7.tape, K8.output.trans hB7.output, Nat.le_trans hB7.size K8.size, fun k hk => (K8.block k (by omega) (by omega) (fun e => by have := hv7 _ e; omega)).trans (hB7.block k hk)⟩
      have hlen : (dropM X L ++ [(⟨256 + 1, 3, 3, false, false, 0⟩ : Mk)]).length = 256 := by rw [List.length_append]; simp; omega
      obtain ⟨r0, r1, r2, r3, r4, _⟩ := box5 hf8
      have HT8 := hide T8
      have HU8 := hide U8
      clear T8 U8 K8 p0 p1 p2 p3 p4 hf7 HT7 HU7
      go_wp2_with fail
      refine (add_full wr.heap.size tb2 _ v2 L 3 3 false false _ HU8.out hm3 (by omega)).mono ?_
      rintro e w9 ⟨rfl, hb9⟩
      go_wp2_with fail
      refine (get_any wr.heap.size tb2 _ v2 L X _ (HU8.out.later hb9) (okF_rise HO.out) (by omega)).mono ?_
      rintro e w10 ⟨⟨rv, ok, rfl, hgot⟩, hb10⟩
      obtain ⟨qq, rfl, rfl⟩ := got_ok hgot HEX.out
      obtain ⟨qi, qf, qt, qb, qc, qp⟩ := qq
      have hb11 := fun o => bl_alloc (bl_trans hb9 hb10) o
      have HT11 := hide (fun o => HT8.out.later (hb11 o))
      have HB11 := hide (fun o => hB8.trans ((hb11 o).mono hB8.size))
      clear hgot hb9 hb10 hb11 HU8 HT8
      unfold vR
      go_wp2_with fail
      refine (idsT_any w.heap.size w.heap.size _ _ _ _ (HT11.out _) (by omega)).mono ?_
      rintro e w12 ⟨⟨vi, rfl, hoi⟩, hb12⟩
      rw [hlen] at hoi
      obtain ⟨aI, cI, rfl⟩ := own_slice hoi
      have hB12 := (HB11.out _).trans (hb12.mono (HB11.out _).size)
      clear hoi HT11 HB11
      go_wp2_with fail
      refine (awake7_any _).mono ?_
      rintro e w13 ⟨rfl, hb13⟩
      have hB13 := hB12.trans (hb13.mono hB12.size)
      go_wp2
      go_ret
      exact ⟨rfl, hB13⟩

set_option maxRecDepth 100000 in
theorem lifted (os : Os) (started : os.Started) (H : Type) (enc : TypeId × Value → H) :
    ReturnsInHanded {} Try.checked os 9 .any (Rows.marksFullSpec.pre6 enc Try.prog Try.f9 Rows.marksFullRow.domain false) (Rows.marksFullSpec.post enc Try.prog Try.f9 false true false false) := by
  refine returnsInHanded_of_change (C := Try.checked) own started (by kernel_rfl) Try.func9
    (ChangeSpec.witness6 (enc := enc) (C := Try.checked) false ⟨#[], #[.int .i64 0], []⟩ 8 (by kernel_rfl) (by kernel_rfl) (by kernel_rfl) (by kernel_rfl)) ?_
  intro W base args ds gs before hval0 hW hcnd _
  have hval : ∀ (j : Nat) t v, Try.f9.params[j]? = some t → args[j]? = some v → Value.okWide Try.prog W .any base t v := hval0
  have hW' := hW
  obtain ⟨p, q, hA0, hV, rfl, hfz, hnd⟩ := hW
  have hA : DataW.TrodAll enc Try.prog W 0 (fun _ => true) true Try.f9.params.toList args.toList ds p := hA0
  rw [Try.params9] at hA hval
  obtain ⟨v0, vs0, d0, ds0, p0, q0, hargs, rfl, rfl, h0, r0⟩ := trodAll_cons hA
  obtain ⟨rfl, rfl, rfl⟩ := trodAll_nil r0
  obtain rfl : args = #[v0] := by cases args; simp_all
  obtain ⟨rfl, rfl⟩ := trodVars_none hV
  have k0 := h0
  have lt0 : ∀ x ∈ p0, x.block < W.heap.size := by obtain ⟨m, hm⟩ := k0; exact DataW.trod_lt m _ _ _ hm
  obtain ⟨a0, rfl, hd0, hp0, w0⟩ := open_int Try.underlying3 (hval 0 3 v0 rfl rfl) h0
  clear hA0 hval0
  refine (walk a0 W w0).mono fun e W' ⟨he, bel⟩ => ?_
  subst he
  exact ⟨_, rfl, _, _, _, [], _, [], hW', trodAll_mk1 (shut_bool Try.underlying4 _), (trodAll_cons_mk (Below.trod laidOut (by kernel_rfl) (of_decide_eq_true (by kernel_rfl)) k0 bel lt0) trodAll_mk0), rfl, bel.frame _, fun h => by cases h⟩

theorem over : Rows.marksFullRow.holds Try.pinned (OpenSpec.ofChange Rows.marksFullSpec) :=
  OpenClaim.holds_of_wide 9 Try.f9 rfl rfl rfl rfl rfl rfl rfl ⟨rfl, rfl, rfl, rfl, rfl⟩ rfl rfl rfl rfl rfl (by kernel_rfl) Try.func9 (by kernel_rfl)
    (of_decide_eq_true (by kernel_rfl)) (by unfold Func.isWrapper; first | (rw [if_pos (by decide +kernel)]; kernel_rfl) | (rw [if_neg (by decide +kernel)]; exact ⟨rfl, rfl⟩))
    (fun os started H enc _ => lifted os started H enc)

theorem proved : Rows.MarksFullSaid := over
end Go.Proofs.Ytjmoeahlbgdkbaa.marksFull
