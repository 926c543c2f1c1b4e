/- A text that is read is read in brackets as a group of it, of either kind, as often as you like, up to MaxGroups within one another: there it is ErrDeep. Conditions: none beyond the form's own. -/
import Derived.Test.YtcgphknnnjpbkaaRows
import Derived.Test.YtcgphknnnjpbkaaArgs
import Derived.Test.YtcgphknnnjpbkaaPbC
import Derived.Test.YtcgphknnnjpbkaaLow
namespace Go.Proofs.Ytcgphknnnjpbkaa.readGroup
open Go.Proofs.Ytcgphknnnjpbkaa
open Go.ChangeShapes Go.WideShapes Go.ChangeAt Go.RowKit Go.Deep
open Go.ChangeMaps (open_string shut_string)
set_option linter.unusedVariables false

theorem own : ownKnob Try.prog.godebug = none := by kernel_rfl
theorem laidOut : laidOutB Try.prog = true := by kernel_rfl
open SetM
attribute [local go_sem ↓] Go.wp_at_zero Go.wp_at_succ
attribute [local go_sem] later_cell later_frozen
theorem low21 (x : Int) (n : Nat) (w : World) (h : lowN x 21 = n) : Calls Try.prog 21 #[.int .i64 x, .int .i64 21] w fun e w' => e = .returned (.int .i64 (n : Int)) ∧ w = w' := by
  subst h; exact low_any x 21 w (by decide) (by decide)
theorem wrap_len (bare : Bool) (s : List UInt8) (n : Nat) : (wrapT bare s n).length = s.length + n * (if bare = true then 4 else 2) := by
  induction n with
  | zero => simp [wrapT]
  | succ n ih =>
    show (preG bare ++ (wrapT bare s n ++ [41])).length = _
    rw [List.length_append, List.length_append, ih]
    cases bare
    · simp [preG]; omega
    · simp [preG]; omega
theorem wrap_sM (bare : Bool) (x : Rt) (n : Nat) : sM (wrapX bare x n) = sM x + n := by
  induction n with
  | zero => rfl
  | succ k ih =>
    show sM (kdX (kG bare) [wrapX bare x k]) = _
    rw [sM_kd]
    show 1 + (sM (wrapX bare x k) + 0) = _
    omega
set_option maxRecDepth 100000 in
set_option maxHeartbeats 1000000 in
theorem walk (a0 : ByteArray) (a1 : Bool) (a2 : Int) (w : World) (w0 : a0.size ≤ maxLen) (w2 : (Lit.int .i64 a2).wf = true) :
    Calls Try.prog 7 #[.string a0, .bool a1, .int .i64 a2] w fun e w' => e = .returned (.bool true) ∧ Below w.heap.size w w' := by
  by_cases h1 : 60 < a0.size
  case pos =>
    have g1 : decide (60 < a0.size) = true := decide_eq_true h1
    have g1' : decide (60 < (a0.size : Int)) = true := decide_eq_true (by omega)
    clear h1
    go_enter Try.func7, Try.ntmps7
    go_wp2_with fail
    refine (awake14_any _).mono ?_
    rintro e w1 ⟨rfl, hb1⟩
    have HB1 := hide (hb1)
    clear hb1
    go_wp2
    go_ret
    exact ⟨rfl, HB1.out⟩
  have g1 : decide (60 < a0.size) = false := decide_eq_false h1
  have g1' : decide (60 < (a0.size : Int)) = false := decide_eq_false (by omega)
  obtain ⟨n1, hn1⟩ : ∃ n, rdN (readP a0.data.toList) = n := ⟨_, rfl⟩
  by_cases q1 : n1 = 0
  case neg =>
    have HW1 := hide (fun W => read_w a0 (by omega) n1 hn1 W)
    unfold RdwPost at HW1
    have k1 : (n1 == 0) = false := by rw [Bool.eq_false_iff]; intro h; exact q1 (beq_iff_eq.1 h)
    clear h1 hn1
    go_enter Try.func7, Try.ntmps7
    go_wp2_with fail
    refine (HW1.out _).mono ?_
    rintro e w1 ⟨p0, p1, p2, p3, p4, p5, p6, p7, p8, p9, pa, pb, rfl, hb1⟩
    have HB1 := hide (bl_alloc hb1 (.cells #[.int .i64 p0, .string p1, .bool p2, .slice p3 p4 p5, .int .i64 p6, .int .i64 p7, .bool p8, .slice p9 pa pb] 26))
    clear hb1
    go_wp2_with fail
    refine (awake14_any _).mono ?_
    rintro e w2 ⟨rfl, hb2⟩
    have HB2 := hide (bl_trans HB1.out hb2)
    clear hb2
    go_wp2
    go_ret
    exact ⟨rfl, HB2.out⟩
  subst q1
  obtain ⟨x, hx⟩ := rdN_ok hn1
  have HX := hide (fun W => read_any a0 (by omega) W _ hx)
  unfold RdPost at HX
  have HXV := hide hx
  have HZ := hide (show a0.size ≤ 60 by omega)
  obtain ⟨N, hN⟩ : ∃ N, lowN a2 21 = N := ⟨_, rfl⟩
  have HLN := hide hN
  have HN21 := hide (show N < 21 by rw [← hN]; exact lowN_lt _ _ (by decide))
  have HXE := hide (show er x = x from (readP_stop hx).2.2)
  clear h1 hn1 hx hN
  go_enter Try.func7, Try.ntmps7
  go_wp2_with fail
  refine (HX.out _).mono ?_
  rintro e w1 ⟨t, rfl, hb1, hrx, -, her⟩
  obtain ⟨tA, ta, tB, tb, hrv, hkv, hv⟩ := rx_vv hrx
  rw [hv]
  have hg := gx_new hrx hrv hkv
  rw [her] at hg
  have HG := hide hg
  have HB1 := hide (bl_alloc hb1 (.cells #[.int .i64 t.k, .string t.ch, .bool t.nt, .slice tA t.rows.length ta, .int .i64 t.mi, .int .i64 t.ma, .bool t.lz, .slice tB t.kids.length tb] 26))
  have HWS := hide hb1.size
  obtain ⟨W1, hW1⟩ : ∃ W, w1.alloc (.cells #[.int .i64 t.k, .string t.ch, .bool t.nt, .slice tA t.rows.length ta, .int .i64 t.mi, .int .i64 t.ma, .bool t.lz, .slice tB t.kids.length tb] 26) = W := ⟨_, rfl⟩
  rw [hW1] at HG HB1
  clear hb1 hrx her hrv hkv hv hg
  go_wp2_with fail
  refine (low21 _ N _ HLN.out).mono ?_
  rintro e _ ⟨rfl, rfl⟩
  go_wp2
  go_loopw [9, 11] (fun tv iv wr => ∃ (k : Nat) (T : ByteArray), iv = .int .i64 k ∧ tv = .string T ∧ k ≤ N ∧ Hid (T.data.toList = wrapT a1 a0.data.toList k) ∧ Hid (Below w.heap.size w wr) ∧ Hid (GxAt wr w1.heap.size (wrapX a1 x k))) (fun _ iv _ => N - (intOf iv).toNat)
  case atStart => exact ⟨0, a0, rfl, rfl, Nat.zero_le _, hide rfl, HB1, HG⟩
  case round =>
    obtain ⟨k, T, rfl, rfl, hk, HT, HBL, HGX⟩ := hrel
    have hTs : T.size ≤ 150 := by
      have h1 : T.data.toList.length = T.size := Array.length_toList
      have h2 : a0.data.toList.length = a0.size := Array.length_toList
      rw [HT.out, wrap_len, h2] at h1
      have h3 := HZ.out
      have h4 := HN21.out
      split at h1 <;> omega
    by_cases hlt : k < N
    case pos =>
      obtain ⟨u, hc, hx, ho, he, hf⟩ := HGX.out
      obtain ⟨uA, ua, uB, ub, hrv, hkv, hv⟩ := rx_vv hx
      obtain ⟨c0, c1, c2, c3, c4, c5, c6, c7⟩ := cx_8 hc hrv hkv
      have HST := hide (fun (kk : Int) (arr : Array Value) (ha : arr.toList = [.int .i64 u.k, .string u.ch, .bool u.nt, .slice uA u.rows.length ua, .int .i64 u.mi, .int .i64 u.ma, .bool u.lz, .slice uB u.kids.length ub]) => gx_step (k := kk) hc hx ho hf arr (by rw [ha]; unfold Rt.cs; rw [hrv, hkv]) 26)
      have hlb : w1.heap.size < wr.heap.size := World.block_lt_of_cell? _ _ c0
      have hne : w1.heap.size ≠ wr.heap.size := by omega
      have gl : decide ((k : Int) < (N : Int)) = true := decide_eq_true (by omega)
      have gl' : decide (k < N) = true := decide_eq_true hlt
      have e5 : IntKind.i64.wrap ((k : Int) + 1) = (k : Int) + 1 := by have := HN21.out; rw [IntKind.wrap_i64]; omega
      have HE := hide he
      have HK1 := hide (show k + 1 ≤ N by omega)
      clear hc hx ho he hrv hkv hv hk hlt
      cases a1
      · go_wp2
        have HT2 := hide (show (⟨#[40]⟩ ++ T ++ ⟨#[41]⟩ : ByteArray).data.toList = wrapT false a0.data.toList (k + 1) by
          simp only [ByteArray.data_append, Array.toList_append]
          rw [HT.out]; rfl)
        have hst := HST.out 5 #[.int .i64 u.k, .string u.ch, .bool u.nt, .slice uA u.rows.length ua, .int .i64 u.mi, .int .i64 u.ma, .bool u.lz, .slice uB u.kids.length ub] rfl
        rw [HE.out] at hst
        refine ⟨?_, by have := HK1.out; simp [intOf]; omega⟩
        first
          | exact ⟨k + 1, _, rfl, rfl, HK1.out, HT2, hide (bl_alloc (bl8 HBL.out HWS.out _ _ _ _ _ _ _ _ _ _ _ _ _ _ _ _) _), hide hst⟩
          | exact ⟨k + 1, _, by simp, rfl, HK1.out, HT2, hide (bl_alloc (bl8 HBL.out HWS.out _ _ _ _ _ _ _ _ _ _ _ _ _ _ _ _) _), hide hst⟩
      · go_wp2
        have HT2 := hide (show (⟨#[40, 63, 58]⟩ ++ T ++ ⟨#[41]⟩ : ByteArray).data.toList = wrapT true a0.data.toList (k + 1) by
          simp only [ByteArray.data_append, Array.toList_append]
          rw [HT.out]; rfl)
        have hst := HST.out 6 #[.int .i64 u.k, .string u.ch, .bool u.nt, .slice uA u.rows.length ua, .int .i64 u.mi, .int .i64 u.ma, .bool u.lz, .slice uB u.kids.length ub] rfl
        rw [HE.out] at hst
        refine ⟨?_, by have := HK1.out; simp [intOf]; omega⟩
        first
          | exact ⟨k + 1, _, rfl, rfl, HK1.out, HT2, hide (bl_alloc (bl8 HBL.out HWS.out _ _ _ _ _ _ _ _ _ _ _ _ _ _ _ _) _), hide hst⟩
          | exact ⟨k + 1, _, by simp, rfl, HK1.out, HT2, hide (bl_alloc (bl8 HBL.out HWS.out _ _ _ _ _ _ _ _ _ _ _ _ _ _ _ _) _), hide hst⟩
    case neg =>
      obtain rfl : k = N := by omega
      have gl : decide ((k : Int) < (k : Int)) = false := by simp
      have gl' : decide (k < k) = false := by simp
      have hrd : readP T.data.toList = if dM x + k ≤ 16 then .ok (wrapX a1 x k) [] else .err 8 := by
        rw [HT.out]
        refine readP_wrap a1 HXV.out k ?_
        rw [← HT.out]
        have h1 : T.data.toList.length = T.size := Array.length_toList
        omega
      obtain ⟨u, hc, hx, ho, he, hf⟩ := HGX.out
      obtain ⟨uA, ua, uB, ub, hrv, hkv, hv⟩ := rx_vv hx
      have hsx : sM u ≤ 100000 := by
        have h2 := readP_va HXV.out
        have h3 : a0.data.toList.length = a0.size := Array.length_toList
        have h4 := HZ.out
        have h5 : sM u = sM x + k := by
          rw [← sM_er, he]
          exact wrap_sM a1 x k
        have h6 := HN21.out
        have h7 := h2.2.2.2.2.2.2.2.2.2.1
        rw [h5]; omega
      have hdu : dM u = dM x + k := by rw [← dM_er, he, wrap_dM]
      have HDP := hide (fun W hb => deep_any hx (by have := pM_sM u; omega) W hb)
      rw [hdu, hv] at HDP
      have HCX := hide hc
      have HRX := hide hx
      have HE := hide he
      have HRV := hide hrv
      have HKV := hide hkv
      have HVV := hide hv
      obtain ⟨d, hd⟩ : ∃ d, dM x + k = d := ⟨_, rfl⟩
      rw [hd] at hrd HDP
      by_cases hdk : d ≤ 16
      case pos =>
        rw [if_pos hdk] at hrd
        have HR := hide (fun W => read_any T (by omega) W _ hrd)
        unfold RdPost at HR
        have z1 : decide ((16 : Int) < (d : Int)) = false := decide_eq_false (by omega)
        have z2 : decide (16 < d) = false := decide_eq_false (by omega)
        clear hrd hd hdk hc hx ho he hf hrv hkv hv hsx hdu hk hlt hTs
        go_wp2_with fail
        refine (HR.out _).mono ?_
        rintro e w2 ⟨v, rfl, hb2, hrv2, -, hev⟩
        obtain ⟨vA, va, vB, vb, hvr, hvk, hvv⟩ := rx_vv hrv2
        rw [hvv]
        have hcu := cx_below HCX.out hb2
        obtain ⟨c0, c1, c2, c3, c4, c5, c6, c7⟩ := cx_8 hcu HRV.out HKV.out
        have hlb : w1.heap.size < w2.heap.size := World.block_lt_of_cell? _ _ c0
        have HB2 := hide hb2
        have HV2 := hide hrv2
        have HVR := hide hvr
        have HVK := hide hvk
        have HVV2 := hide hvv
        have HEV := hide hev
        clear hb2 hrv2 hvr hvk hvv hev hcu
        go_wp2_with fail
        refine (HDP.out _ (bl_alloc HB2.out _)).mono ?_
        rintro e w3 ⟨rfl, hb3⟩
        have HB3 := hide (bl_trans (bl_alloc HB2.out _) hb3)
        have hcu := cx_below HCX.out HB3.out
        obtain ⟨c0, c1, c2, c3, c4, c5, c6, c7⟩ := cx_8 hcu HRV.out HKV.out
        have hcv := cx_below (cx_new w2 v HVR.out HVK.out) hb3
        obtain ⟨d0, d1, d2, d3, d4, d5, d6, d7⟩ := cx_8 hcv HVR.out HVK.out
        have HSM := hide (same_any (rx_below HRX.out HB3.out) (rx_below (rx_below HV2.out (bl_alloc (bl_refl _) _)) hb3) w3 (bl_refl w3))
        rw [sameM_of (HE.out.trans HEV.out.symm), HVV.out, HVV2.out] at HSM
        unfold SmPost at HSM
        clear hb3 hcu hcv
        go_wp2_with fail
        refine HSM.out.mono ?_
        rintro e w4 ⟨rfl, hb4⟩
        have HB4 := hide (bl_trans HB3.out hb4)
        clear hb4 c0 c1 c2 c3 c4 c5 c6 c7 d0 d1 d2 d3 d4 d5 d6 d7
        go_wp2_with fail
        refine (awake14_any _).mono ?_
        rintro e w5 ⟨rfl, hb5⟩
        have HB5 := hide (bl_trans (bl_trans HBL.out HB4.out) hb5)
        clear hb5
        go_wp2
        go_ret
        exact ⟨rfl, HB5.out⟩
      case neg =>
        rw [if_neg hdk] at hrd
        have HR := hide (fun W => read_any T (by omega) W _ hrd)
        unfold RdPost at HR
        have z1 : decide ((16 : Int) < (d : Int)) = true := decide_eq_true (by omega)
        have z2 : decide (16 < d) = true := decide_eq_true (by omega)
        clear hrd hd hdk hc hx ho he hf hrv hkv hv hsx hdu hk hlt hTs
        go_wp2_with fail
        refine (HR.out _).mono ?_
        rintro e w2 ⟨rfl, hb2⟩
        rw [show rt0.v = .agg #[.int .i64 0, .string ⟨#[]⟩, .bool false, .slice none 0 0, .int .i64 0, .int .i64 0, .bool false, .slice none 0 0] from rfl]
        have hcu := cx_below HCX.out hb2
        obtain ⟨c0, c1, c2, c3, c4, c5, c6, c7⟩ := cx_8 hcu HRV.out HKV.out
        have hlb : w1.heap.size < w2.heap.size := World.block_lt_of_cell? _ _ c0
        have HB2 := hide hb2
        clear hb2 hcu
        go_wp2_with fail
        refine (HDP.out _ (bl_alloc HB2.out _)).mono ?_
        rintro e w3 ⟨rfl, hb3⟩
        have HB3 := hide (bl_trans (bl_alloc HB2.out _) hb3)
        clear hb3 c0 c1 c2 c3 c4 c5 c6 c7
        go_wp2_with fail
        refine (awake14_any _).mono ?_
        rintro e w4 ⟨rfl, hb4⟩
        have HB4 := hide (bl_trans (bl_trans HBL.out HB3.out) hb4)
        clear hb4
        go_wp2
        go_ret
        exact ⟨rfl, HB4.out⟩

set_option maxRecDepth 100000 in
theorem lifted (os : Os) (started : os.Started) (H : Type) (enc : TypeId × Value → H) :
    ReturnsInHanded {} Try.checked os 7 .any (Rows.readGroupSpec.pre6 enc Try.prog Try.f7 Rows.readGroupRow.domain false) (Rows.readGroupSpec.post enc Try.prog Try.f7 false true false false) := by
  refine returnsInHanded_of_change (C := Try.checked) own started (by kernel_rfl) Try.func7
    (ChangeSpec.witness6 (enc := enc) (C := Try.checked) false ⟨#[], #[.string ByteArray.empty, .bool false, .int .i64 0], []⟩ 8 (by kernel_rfl) (by kernel_rfl) (by kernel_rfl) (by kernel_rfl)) ?_
  intro W base args ds gs before hval0 hW hcnd _
  have hval : ∀ (j : Nat) t v, Try.f7.params[j]? = some t → args[j]? = some v → Value.okWide Try.prog W .any base t v := hval0
  have hW' := hW
  obtain ⟨p, q, hA0, hV, rfl, hfz, hnd⟩ := hW
  have hA : DataW.TrodAll enc Try.prog W 0 (fun _ => true) true Try.f7.params.toList args.toList ds p := hA0
  rw [Try.params7] at hA hval
  obtain ⟨v0, vs0, d0, ds0, p0, q0, hargs, rfl, rfl, h0, r0⟩ := trodAll_cons hA
  obtain ⟨v1, vs1, d1, ds1, p1, q1, rfl, rfl, rfl, h1, r1⟩ := trodAll_cons r0
  obtain ⟨v2, vs2, d2, ds2, p2, q2, rfl, rfl, rfl, h2, r2⟩ := trodAll_cons r1
  obtain ⟨rfl, rfl, rfl⟩ := trodAll_nil r2
  obtain rfl : args = #[v0, v1, v2] := by cases args; simp_all
  obtain ⟨rfl, rfl⟩ := trodVars_none hV
  have k0 := h0
  have lt0 : ∀ x ∈ p0, x.block < W.heap.size := by obtain ⟨m, hm⟩ := k0; exact DataW.trod_lt m _ _ _ hm
  obtain ⟨a0, rfl, hd0, hp0, w0⟩ := open_string Try.underlying9 (hval 0 9 v0 rfl rfl) h0
  have k1 := h1
  have lt1 : ∀ x ∈ p1, x.block < W.heap.size := by obtain ⟨m, hm⟩ := k1; exact DataW.trod_lt m _ _ _ hm
  obtain ⟨a1, rfl, hd1, hp1⟩ := open_bool Try.underlying4 (hval 1 4 v1 rfl rfl) h1
  have k2 := h2
  have lt2 : ∀ x ∈ p2, x.block < W.heap.size := by obtain ⟨m, hm⟩ := k2; exact DataW.trod_lt m _ _ _ hm
  obtain ⟨a2, rfl, hd2, hp2, w2⟩ := open_int Try.underlying3 (hval 2 3 v2 rfl rfl) h2
  clear hA0 hval0
  refine (walk a0 a1 a2 W w0 w2).mono fun e W' ⟨he, bel⟩ => ?_
  subst he
  exact ⟨_, rfl, _, _, _, [], _, [], hW', trodAll_mk1 (shut_bool Try.underlying4 _), (trodAll_cons_mk (Below.trod laidOut (by kernel_rfl) (of_decide_eq_true (by kernel_rfl)) k0 bel lt0) (trodAll_cons_mk (Below.trod laidOut (by kernel_rfl) (of_decide_eq_true (by kernel_rfl)) k1 bel lt1) (trodAll_cons_mk (Below.trod laidOut (by kernel_rfl) (of_decide_eq_true (by kernel_rfl)) k2 bel lt2) trodAll_mk0))), rfl, bel.frame _, fun h => by cases h⟩

theorem over : Rows.readGroupRow.holds Try.pinned (OpenSpec.ofChange Rows.readGroupSpec) :=
  OpenClaim.holds_of_wide 7 Try.f7 rfl rfl rfl rfl rfl rfl rfl ⟨rfl, rfl, rfl, rfl, rfl⟩ rfl rfl rfl rfl rfl (by kernel_rfl) Try.func7 (by kernel_rfl)
    (of_decide_eq_true (by kernel_rfl)) (by unfold Func.isWrapper; first | (rw [if_pos (by decide +kernel)]; kernel_rfl) | (rw [if_neg (by decide +kernel)]; exact ⟨rfl, rfl⟩))
    (fun os started H enc _ => lifted os started H enc)

theorem proved : Rows.ReadGroupSaid := over
end Go.Proofs.Ytcgphknnnjpbkaa.readGroup
