/- Any tree is told as the document tells it, or refused. Conditions: none beyond the form's own. -/
import Derived.Test.YtmacpmblodhcpaaDoorRows
import Derived.Test.YtmacpmblodhcpaaDoorCards
import Derived.Test.YtmacpmblodhcpaaDoorTie
import Derived.Lay
import Derived.LaidMore
import Derived.MakeChecks
import Derived.Stop.Joined
import Derived.SevenTiedAt
import Derived.Test.YtmacpmblodhcpaaDoorArgs
import Derived.Test.YtmacpmblodhcpaaDoorShEnd
import Derived.Test.YtmacpmblodhcpaaDoorRxArgs
namespace Go.Proofs.YtmacpmblodhcpaaDoor.showTells
open Go.Proofs.YtmacpmblodhcpaaDoor
open Go.ChangeShapes Go.WideShapes Go.ChangeAt Go.RowKit Go.Deep
open Go.ChangeMaps (open_string shut_string)
set_option linter.unusedVariables false

theorem own : ownKnob Tryd.prog.godebug = none := by kernel_rfl
theorem laidOut : laidOutB Tryd.prog = true := by kernel_rfl
-- opt: 4000000
-- tied
open SetM
attribute [local go_sem ↓] Go.wp_at_zero Go.wp_at_succ
theorem rx_v {w : World} {t : Rt} (h : RxAt w t) : ∃ rA rc kA kc, t.rv = .slice rA t.rows.length rc ∧ t.kv = .slice kA t.kids.length kc ∧ t.v = .agg #[.int .i64 t.k, .string t.ch, .bool t.nt, .slice rA t.rows.length rc, .int .i64 t.mi, .int .i64 t.ma, .bool t.lz, .slice kA t.kids.length kc] := by
  obtain ⟨A, c, hkv⟩ := ksat_len h.ks
  obtain ⟨RA, rc, hrv⟩ := rwat_len h.rows
  exact ⟨RA, rc, A, c, hrv, hkv, by unfold Rt.v Rt.cs; rw [hkv, hrv]⟩
set_option maxRecDepth 100000 in
set_option maxHeartbeats 4000000 in
theorem walk (t0 : Rt) (w : World) (w0 : RxAt w t0) (b0 : WfX t0) (hT : laidMetH Tryd.prog Rows.showTellsRow.laid w) :
    Calls Tryd.prog 3 #[t0.v] w fun e w' => e = .returned (.bool true) ∧ Below w.heap.size w w' := by
  have HTAB := hide (pow_tab hT)
  obtain ⟨rA, rc, kA, kc, hrv, hkv, hv⟩ := rx_v w0
  have HG := hide (fun W hb => rxl_any w0 b0 120 (by decide) (by decide) W hb)
  have HS := hide (fun (hz : sM t0 ≤ 100000) W hb => rxshow_any HTAB.out (bl_refl w) w0 hz W hb)
  have HR := hide (fun (hz : sM t0 ≤ 100000) W hb => refShow_any w0 hz W hb)
  have HAW := hide (fun W hb => awake15_any HTAB.out W hb)
  unfold ShowPost at HS HR
  unfold GuPost at HG
  rw [hv] at HG HS HR ⊢
  generalize shwS t0 = S at *
  generalize shwE t0 = E at *
  generalize sM t0 = sm at *
  clear hrv hkv hv w0 b0 hT HTAB
  generalize t0.kids.length = kl at *
  generalize t0.rows.length = rl at *
  generalize t0.k = k at *
  generalize t0.ch = ch at *
  generalize t0.nt = nt at *
  generalize t0.mi = mi at *
  generalize t0.ma = ma at *
  generalize t0.lz = lz at *
  have HBA := hide (fun o => bl_alloc (bl_refl w) o)
  have FJ := hide (fun W (hb : Below (w.alloc (.cells #[.int .i64 k, .string ch, .bool nt, .slice rA rl rc, .int .i64 mi, .int .i64 ma, .bool lz, .slice kA kl kc] 25)).heap.size (w.alloc (.cells #[.int .i64 k, .string ch, .bool nt, .slice rA rl rc, .int .i64 mi, .int .i64 ma, .bool lz, .slice kA kl kc] 25)) W) j u (hu : (#[Value.int .i64 k, .string ch, .bool nt, .slice rA rl rc, .int .i64 mi, .int .i64 ma, .bool lz, .slice kA kl kc] : Array Value).toList[j]? = some u) => (show W.cell? ⟨w.heap.size, j, none⟩ = some u by
    refine cell_later hb ?_
    have := cells_lit w _ 25 j u hu
    rw [addr_add, Nat.zero_add] at this
    exact this))
  go_enter Tryd.func3, Tryd.ntmps3
  go_wp2_with fail
  refine (HG.out _ (HBA.out _)).mono ?_
  rintro e w2 ⟨r, rfl, hr0, hr1, hr2, hb2⟩
  have HB2 := hide (bl_trans (HBA.out _) hb2)
  have HBX := hide hb2
  by_cases hn : r < 0
  case pos =>
    have d1 : decide (r < 0) = true := decide_eq_true hn
    clear hr0 hr1 hr2 hb2 hn
    go_wp2_with fail
    refine (HAW.out _ HB2.out).mono ?_
    rintro e w3 ⟨rfl, hb3⟩
    have HB3 := hide (bl_trans HB2.out hb3)
    clear hb3
    go_wp2
    go_ret
    exact ⟨rfl, HB3.out⟩
  case neg =>
    have d1 : decide (r < 0) = false := decide_eq_false hn
    have hz := hr2.out (by omega)
    have HS1 := hide (HS.out (by omega))
    have HR1 := hide (HR.out (by omega))
    have c0 := FJ.out _ hb2 0 _ rfl
    have c1 := FJ.out _ hb2 1 _ rfl
    have c2 := FJ.out _ hb2 2 _ rfl
    have c3 := FJ.out _ hb2 3 _ rfl
    have c4 := FJ.out _ hb2 4 _ rfl
    have c5 := FJ.out _ hb2 5 _ rfl
    have c6 := FJ.out _ hb2 6 _ rfl
    have c7 := FJ.out _ hb2 7 _ rfl
    clear hr0 hr1 hr2 hb2 hn hz HS HR HG
    go_wp2_with fail
    refine (HS1.out _ HB2.out).mono ?_
    rintro e w3 ⟨rfl, hb3⟩
    have HB3 := hide (bl_trans HB2.out hb3)
    have HBY := hide (bl_trans HBX.out hb3)
    clear hb3 c0 c1 c2 c3 c4 c5 c6 c7
    have c0 := FJ.out _ HBY.out 0 _ rfl
    have c1 := FJ.out _ HBY.out 1 _ rfl
    have c2 := FJ.out _ HBY.out 2 _ rfl
    have c3 := FJ.out _ HBY.out 3 _ rfl
    have c4 := FJ.out _ HBY.out 4 _ rfl
    have c5 := FJ.out _ HBY.out 5 _ rfl
    have c6 := FJ.out _ HBY.out 6 _ rfl
    have c7 := FJ.out _ HBY.out 7 _ rfl
    go_wp2_with fail
    refine (HR1.out _ HB3.out).mono ?_
    rintro e w4 ⟨rfl, hb4⟩
    have HB4 := hide (bl_trans HB3.out hb4)
    have gs : (S.toList == S.toList) = true := by simp
    have ge : (E == E) = true := by simp
    clear hb4 c0 c1 c2 c3 c4 c5 c6 c7
    go_wp2_with fail
    refine (HAW.out _ HB4.out).mono ?_
    rintro e w5 ⟨rfl, hb5⟩
    have HB5 := hide (bl_trans HB4.out hb5)
    clear hb5
    go_wp2
    go_ret
    exact ⟨rfl, HB5.out⟩

set_option maxRecDepth 100000 in
theorem lifted (os : Os) (started : os.Started) (H : Type) (enc : TypeId × Value → H) :
    ReturnsInHanded {} Tryd.checked os 3 .any (fun w args => (Rows.showTellsSpec.pre enc Tryd.prog Tryd.f3 Rows.showTellsRow.domain false w args ∧ laidMetH Tryd.prog Rows.showTellsRow.laid w) ∧ sizedMet enc Tryd.prog Tryd.f3 (OpenSpec.ofChange Rows.showTellsSpec) false w args) (Rows.showTellsSpec.post enc Tryd.prog Tryd.f3 false true false false) := by
  refine returnsInHanded_of_change_and (C := Tryd.checked) (X := fun w _ => laidMetH Tryd.prog Rows.showTellsRow.laid w) (fun _ _ _ hh h => h.of_heap hh) own started (by kernel_rfl) Tryd.func3
    (ChangeSpec.witness_shaped (enc := enc) (C := Tryd.checked) (os := os) (X := fun w _ => laidMetH Tryd.prog Rows.showTellsRow.laid w) false (World.laidAll Tryd.prog os Rows.showTellsRow.laid) #[.agg #[.int .i64 0, .string ByteArray.empty, .bool false, .slice none 0 0, .int .i64 0, .int .i64 0, .bool false, .slice none 0 0]] 8 (World.laidAll_os _ _ _)
      (World.shaped_of_ZipB (by kernel_rfl) (by kernel_rfl)) (by kernel_rfl) (by kernel_rfl) (by kernel_rfl)
      (by rw [MakeChecks.laidMetH_plain _ _ _ (by kernel_rfl)]; exact laidMet_laidAll _ (by kernel_rfl) (by kernel_rfl))) ?_
  intro W base args ds gs before hval0 hW hcnd _ hL _
  have hval : ∀ (j : Nat) t v, Tryd.f3.params[j]? = some t → args[j]? = some v → Value.okWide Tryd.prog W .any base t v := hval0
  have hW' := hW
  obtain ⟨p, q, hA0, hV, rfl, hfz, hnd⟩ := hW
  have hA : DataW.TrodAll enc Tryd.prog W 0 (fun _ => true) true Tryd.f3.params.toList args.toList ds p := hA0
  rw [Tryd.params3] at hA hval
  obtain ⟨v0, vs0, d0, ds0, p0, q0, hargs, rfl, rfl, h0, r0⟩ := trodAll_cons hA
  obtain ⟨rfl, rfl, rfl⟩ := trodAll_nil r0
  obtain rfl : args = #[v0] := by cases args; simp_all
  obtain ⟨rfl, rfl⟩ := trodVars_none hV
  have k0 := h0
  have lt0 : ∀ x ∈ p0, x.block < W.heap.size := by obtain ⟨m, hm⟩ := k0; exact DataW.trod_lt m _ _ _ hm
  obtain ⟨t0, rfl, w0, b0⟩ := open_rx (hval 0 25 v0 rfl rfl) h0
  clear hA0 hval0
  refine (walk t0 W w0 b0 hL).mono fun e W' ⟨he, bel⟩ => ?_
  subst he
  exact ⟨_, rfl, _, _, _, [], _, [], hW', trodAll_mk1 (shut_bool Tryd.underlying4 _), (trodAll_cons_mk (Below.trod laidOut (by kernel_rfl) (of_decide_eq_true (by kernel_rfl)) k0 bel lt0) trodAll_mk0), rfl, bel.frame _, fun h => by cases h⟩

theorem over : Rows.showTellsRow.holds Tryd.pinned (OpenSpec.ofChange Rows.showTellsSpec) :=
  OpenClaim.holds_of_wide 3 Tryd.f3 rfl rfl rfl rfl rfl rfl rfl ⟨rfl, rfl, rfl, rfl, rfl⟩ rfl rfl rfl rfl rfl (by kernel_rfl) Tryd.func3 (by kernel_rfl)
    (of_decide_eq_true (by kernel_rfl)) (by unfold Func.isWrapper; first | (rw [if_pos (by decide +kernel)]; kernel_rfl) | (rw [if_neg (by decide +kernel)]; exact ⟨rfl, rfl⟩))
    (fun os started H enc _ => lifted os started H enc)

set_option maxRecDepth 100000 in
theorem proved : Rows.ShowTellsCardSaid :=
  Claim7.holds_tied_plain_at .later [] [.data, .data, .data] true (true, "5f8b7e080724bfa6da048938558aad72fafb59dbed73610bee2d8fe9f8ba4dcb") false
    over (fun _ h => by cases h) (by kernel_rfl) (fun _ h => by cases h) showTells_row_tie rfl ⟨rfl, rfl⟩ (by kernel_rfl) rfl
    (fun f fn hf hfn => by
      obtain rfl : f = 3 := Option.some.inj ((show Tryd.prog.funcNamed "gimlet/gimletlaw15.ShowTells" = some 3 by kernel_rfl).symm.trans hf) |>.symm
      obtain rfl : fn = Tryd.f3 := (Option.some.inj (Tryd.func3.symm.trans hfn)).symm
      refine ⟨by kernel_rfl, fun j t ht => ?_⟩
      rw [Tryd.params3] at ht
      have hm := Array.mem_of_getElem? ht
      simp at hm
      first
        | (rcases hm with rfl <;> first  | exact (show Tryd.prog.wantsStandIn 25 = false by kernel_rfl)))
    (by kernel_rfl)
end Go.Proofs.YtmacpmblodhcpaaDoor.showTells
