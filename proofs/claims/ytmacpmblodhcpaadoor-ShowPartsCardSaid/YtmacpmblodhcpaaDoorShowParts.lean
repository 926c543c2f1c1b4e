/- Of two trees that may be, one behind the other is told as both texts, alternatives with | between, a group with brackets around. Conditions: none beyond the form's own. -/
import Derived.Test.YtmacpmblodhcpaaDoorRows
import Derived.Test.YtmacpmblodhcpaaDoorCards
import Derived.Test.YtmacpmblodhcpaaDoorTie
import Derived.Lay
import Derived.LaidMore
import Derived.MakeChecks
import Derived.Stop.Joined
import Derived.SevenTiedAt
import Derived.Test.YtmacpmblodhcpaaDoorArgs
import Derived.Test.YtmacpmblodhcpaaDoorShEnd
import Derived.Test.YtmacpmblodhcpaaDoorRxArgs
namespace Go.Proofs.YtmacpmblodhcpaaDoor.showParts
open Go.Proofs.YtmacpmblodhcpaaDoor
open Go.ChangeShapes Go.WideShapes Go.ChangeAt Go.RowKit Go.Deep
open Go.ChangeMaps (open_string shut_string)
set_option linter.unusedVariables false

theorem own : ownKnob Tryd.prog.godebug = none := by kernel_rfl
theorem laidOut : laidOutB Tryd.prog = true := by kernel_rfl
-- opt: 8000000
-- tied
open SetM
attribute [local go_sem ↓] Go.wp_at_zero Go.wp_at_succ
theorem rx_v {w : World} {t : Rt} (h : RxAt w t) : ∃ rA rc kA kc, t.rv = .slice rA t.rows.length rc ∧ t.kv = .slice kA t.kids.length kc ∧ t.v = .agg #[.int .i64 t.k, .string t.ch, .bool t.nt, .slice rA t.rows.length rc, .int .i64 t.mi, .int .i64 t.ma, .bool t.lz, .slice kA t.kids.length kc] := by
  obtain ⟨A, c, hkv⟩ := ksat_len h.ks
  obtain ⟨RA, rc, hrv⟩ := rwat_len h.rows
  exact ⟨RA, rc, A, c, hrv, hkv, by unfold Rt.v Rt.cs; rw [hkv, hrv]⟩
theorem lit_at (w : World) (arr : Array Value) (e : TypeId) (j : Nat) (u : Value) (hu : arr.toList[j]? = some u) : (w.alloc (.cells arr e)).cell? ⟨w.heap.size, j, none⟩ = some u := by
  have := cells_lit w arr e j u hu
  rw [addr_add, Nat.zero_add] at this
  exact this
theorem lit_at2 (w : World) (o : Obj) (arr : Array Value) (e : TypeId) (j : Nat) (u : Value) (hu : arr.toList[j]? = some u) : ((w.alloc o).alloc (.cells arr e)).cell? ⟨w.heap.size + 1, j, none⟩ = some u := by
  have := lit_at (w.alloc o) arr e j u hu
  rwa [show (w.alloc o).heap.size = w.heap.size + 1 by simp] at this
theorem show_of {wT W : World} (hT : Go.Lib.TabIs Tryd.prog wT "internal/strconv.uint64pow10" .u64 Go.Lib.pow10Tab) (hb : Below wT.heap.size wT W) {t : Rt} (h : RxAt W t) (hc : cnB t 16 512 = true) (hz : sM t ≤ 100000) (X : ByteArray) (hX : shX t = X.data.toList) :
    Calls Tryd.prog 7 #[t.v] W fun e w' => e = .returned (.tuple #[.string X, .int .i64 0]) ∧ Below W.heap.size W w' := by
  refine (rxshow_any hT hb h hz W (bl_refl W)).mono ?_
  rintro e w' ⟨he, hb2⟩
  refine ⟨?_, hb2⟩
  rw [he]
  unfold shwS shwE
  rw [if_pos hc, if_pos hc, ← eq_mk X _ hX.symm]
set_option maxRecDepth 100000 in
set_option maxHeartbeats 8000000 in
theorem walk (t0 : Rt) (t1 : Rt) (w : World) (w0 : RxAt w t0) (b0 : WfX t0) (w1 : RxAt w t1) (b1 : WfX t1) (hT : laidMetH Tryd.prog Rows.showPartsRow.laid w) :
    Calls Tryd.prog 4 #[t0.v, t1.v] w fun e w' => e = .returned (.bool true) ∧ Below w.heap.size w w' := by
  have HTAB := hide (pow_tab hT)
  obtain ⟨rA0, rc0, kA0, kc0, hrv, hkv, hv⟩ := rx_v w0
  obtain ⟨rA1, rc1, kA1, kc1, hrv1, hkv1, hv1⟩ := rx_v w1
  have HG := hide (fun W hb => rxl_any w0 b0 60 (by decide) (by decide) W hb)
  have HG1 := hide (fun W hb => rxl_any w1 b1 60 (by decide) (by decide) W hb)
  have HAW := hide (fun W hb => awake15_any HTAB.out W hb)
  obtain ⟨m0, hm0⟩ : ∃ x, cnB t0 16 512 = x := ⟨_, rfl⟩
  obtain ⟨m1, hm1⟩ : ∃ x, cnB t1 16 512 = x := ⟨_, rfl⟩
  have HM0 := hide (fun (hz : sM t0 ≤ 60) W hb => rxmay_any w0 (by omega) W hb)
  have HM1 := hide (fun (hz : sM t1 ≤ 60) W hb => rxmay_any w1 (by omega) W hb)
  obtain ⟨A, hA⟩ : ∃ x, mkS (shX t0) = x := ⟨_, rfl⟩
  obtain ⟨B, hB⟩ : ∃ x, mkS (shX t1) = x := ⟨_, rfl⟩
  have hAd : A.data.toList = shX t0 := by rw [← hA]; rfl
  have hBd : B.data.toList = shX t1 := by rw [← hB]; rfl
  have HX0 := hide w0
  have HX1 := hide w1
  have HS0 := hide (fun (hc : cnB t0 16 512 = true) (hz : sM t0 ≤ 60) W (hb : Below w.heap.size w W) => show_of HTAB.out hb (rx_below w0 hb) hc (by omega) A hAd.symm)
  have HS1 := hide (fun (hc : cnB t1 16 512 = true) (hz : sM t1 ≤ 60) W (hb : Below w.heap.size w W) => show_of HTAB.out hb (rx_below w1 hb) hc (by omega) B hBd.symm)
  have HAS := hide (fun (hc : cnB t0 16 512 = true) (hz : sM t0 ≤ 60) => (show A.size ≤ 1200 from by have := sh_len t0 (cnB_to hc).2.2; rw [size_dat, hAd]; omega))
  have HBS := hide (fun (hc : cnB t1 16 512 = true) (hz : sM t1 ≤ 60) => (show B.size ≤ 1200 from by have := sh_len t1 (cnB_to hc).2.2; rw [size_dat, hBd]; omega))
  have HAL := hide (fun (c0 : cnB t0 16 512 = true) (c1 : cnB t1 16 512 = true) (z0 : sM t0 ≤ 60) (z1 : sM t1 ≤ 60) => alt_two c0 c1 z0 z1)
  have HSQ := hide (fun (c0 : cnB t0 16 512 = true) (c1 : cnB t1 16 512 = true) (z0 : sM t0 ≤ 60) (z1 : sM t1 ≤ 60) (k0 : t0.k ≠ 1) (k1 : t1.k ≠ 1) => seq_two c0 c1 z0 z1 k0 k1)
  have HGP := hide (fun (c0 : cnB t0 16 512 = true) (z0 : sM t0 ≤ 60) (hd : dM t0 < 16) => gp_facts c0 z0 hd 5 (.inl rfl))
  have HLZ := hide (fun (c0 : cnB t0 16 512 = true) (z0 : sM t0 ≤ 60) (hd : dM t0 < 16) => lz_facts c0 z0 hd)
  have HDP := hide (fun (z0 : sM t0 ≤ 60) W hb => deep_any w0 (by have := pM_sM t0; omega) W hb)
  have HKL := hide (fun V (hb : Below w.heap.size w V) => (show KsAt (V.alloc (.cells #[.int .i64 t0.k, .string t0.ch, .bool t0.nt, .slice rA0 t0.rows.length rc0, .int .i64 t0.mi, .int .i64 t0.ma, .bool t0.lz, .slice kA0 t0.kids.length kc0, .int .i64 t1.k, .string t1.ch, .bool t1.nt, .slice rA1 t1.rows.length rc1, .int .i64 t1.mi, .int .i64 t1.ma, .bool t1.lz, .slice kA1 t1.kids.length kc1] 25)) (.slice (some ⟨V.heap.size, 0, none⟩) 2 2) [t0, t1] from ks_lit (l := [t0, t1]) (n := 2) rfl (by decide) _ (by show _ = t0.cs ++ (t1.cs ++ []); unfold Rt.cs; rw [hrv, hkv, hrv1, hkv1]; rfl)))
  have HK1 := hide (fun V (hb : Below w.heap.size w V) => (show KsAt (V.alloc (.cells #[.int .i64 t0.k, .string t0.ch, .bool t0.nt, .slice rA0 t0.rows.length rc0, .int .i64 t0.mi, .int .i64 t0.ma, .bool t0.lz, .slice kA0 t0.kids.length kc0] 25)) (.slice (some ⟨V.heap.size, 0, none⟩) 1 1) [t0] from ks_lit (l := [t0]) (n := 1) rfl (by decide) _ (by show _ = t0.cs ++ []; unfold Rt.cs; rw [hrv, hkv]; rfl)))
  have HAD := hide hAd
  have HBD := hide hBd
  unfold SmPost at HM0 HM1
  unfold GuPost at HG HG1
  rw [hm0] at HM0 HS0 HAS HAL HSQ HGP HLZ
  rw [hm1] at HM1 HS1 HBS HAL HSQ
  rw [hv] at HG HM0 HS0 HDP ⊢
  rw [hv1] at HG1 HM1 HS1 ⊢
  have HCM0 := hide hm0
  have HCM1 := hide hm1
  obtain ⟨s0, hs0⟩ : ∃ x, sM t0 = x := ⟨_, rfl⟩
  obtain ⟨s1, hs1⟩ : ∃ x, sM t1 = x := ⟨_, rfl⟩
  rw [hs0] at HG HM0 HS0 HAS HAL HSQ HGP HLZ HDP
  rw [hs1] at HG1 HM1 HS1 HBS HAL HSQ
  have HSS0 := hide hs0
  have HSS1 := hide hs1
  obtain ⟨dm, hdm⟩ : ∃ x, dM t0 = x := ⟨_, rfl⟩
  rw [hdm] at HGP HLZ HDP
  have HDM := hide hdm
  clear hrv hkv hv w0 b0 hrv1 hkv1 hv1 w1 b1 hA hB hAd hBd hm0 hm1 hs0 hs1 hdm hT
  have HKK0 := hide (show ∃ x, t0.k = x from ⟨_, rfl⟩)
  obtain ⟨kl0, hkl0⟩ : ∃ x, t0.kids.length = x := ⟨_, rfl⟩
  obtain ⟨rl0, hrl0⟩ : ∃ x, t0.rows.length = x := ⟨_, rfl⟩
  obtain ⟨k0, hk0⟩ : ∃ x, t0.k = x := ⟨_, rfl⟩
  obtain ⟨ch0, hch0⟩ : ∃ x, t0.ch = x := ⟨_, rfl⟩
  obtain ⟨nt0, hnt0⟩ : ∃ x, t0.nt = x := ⟨_, rfl⟩
  obtain ⟨mi0, hmi0⟩ : ∃ x, t0.mi = x := ⟨_, rfl⟩
  obtain ⟨ma0, hma0⟩ : ∃ x, t0.ma = x := ⟨_, rfl⟩
  obtain ⟨lz0, hlz0⟩ : ∃ x, t0.lz = x := ⟨_, rfl⟩
  have HKK1 := hide (show ∃ x, t1.k = x from ⟨_, rfl⟩)
  obtain ⟨kl1, hkl1⟩ : ∃ x, t1.kids.length = x := ⟨_, rfl⟩
  obtain ⟨rl1, hrl1⟩ : ∃ x, t1.rows.length = x := ⟨_, rfl⟩
  obtain ⟨k1, hk1⟩ : ∃ x, t1.k = x := ⟨_, rfl⟩
  obtain ⟨ch1, hch1⟩ : ∃ x, t1.ch = x := ⟨_, rfl⟩
  obtain ⟨nt1, hnt1⟩ : ∃ x, t1.nt = x := ⟨_, rfl⟩
  obtain ⟨mi1, hmi1⟩ : ∃ x, t1.mi = x := ⟨_, rfl⟩
  obtain ⟨ma1, hma1⟩ : ∃ x, t1.ma = x := ⟨_, rfl⟩
  obtain ⟨lz1, hlz1⟩ : ∃ x, t1.lz = x := ⟨_, rfl⟩
  simp only [hkl0, hrl0, hk0, hch0, hnt0, hmi0, hma0, hlz0] at HG HM0 HS0 HDP HKL HK1 HSQ
  simp only [hkl1, hrl1, hk1, hch1, hnt1, hmi1, hma1, hlz1] at HG1 HM1 HS1 HKL HSQ
  rw [hkl0, hrl0, hk0, hch0, hnt0, hmi0, hma0, hlz0, hkl1, hrl1, hk1, hch1, hnt1, hmi1, hma1, hlz1]
  clear hkl0 hrl0 hk0 hch0 hnt0 hmi0 hma0 hlz0 hkl1 hrl1 hk1 hch1 hnt1 hmi1 hma1 hlz1 HKK0 HKK1
  have HBA := hide (fun o1 o2 => bl_alloc (bl_alloc (bl_refl w) o1) o2)
  have FA := hide (fun W (hb : Below ((w.alloc (.cells #[.int .i64 k0, .string ch0, .bool nt0, .slice rA0 rl0 rc0, .int .i64 mi0, .int .i64 ma0, .bool lz0, .slice kA0 kl0 kc0] 25)).alloc (.cells #[.int .i64 k1, .string ch1, .bool nt1, .slice rA1 rl1 rc1, .int .i64 mi1, .int .i64 ma1, .bool lz1, .slice kA1 kl1 kc1] 25)).heap.size ((w.alloc (.cells #[.int .i64 k0, .string ch0, .bool nt0, .slice rA0 rl0 rc0, .int .i64 mi0, .int .i64 ma0, .bool lz0, .slice kA0 kl0 kc0] 25)).alloc (.cells #[.int .i64 k1, .string ch1, .bool nt1, .slice rA1 rl1 rc1, .int .i64 mi1, .int .i64 ma1, .bool lz1, .slice kA1 kl1 kc1] 25)) W) j u hu => cell_later hb (cell_later (bl_alloc (bl_refl _) _) (lit_at w #[.int .i64 k0, .string ch0, .bool nt0, .slice rA0 rl0 rc0, .int .i64 mi0, .int .i64 ma0, .bool lz0, .slice kA0 kl0 kc0] 25 j u hu)))
  have FB := hide (fun W (hb : Below ((w.alloc (.cells #[.int .i64 k0, .string ch0, .bool nt0, .slice rA0 rl0 rc0, .int .i64 mi0, .int .i64 ma0, .bool lz0, .slice kA0 kl0 kc0] 25)).alloc (.cells #[.int .i64 k1, .string ch1, .bool nt1, .slice rA1 rl1 rc1, .int .i64 mi1, .int .i64 ma1, .bool lz1, .slice kA1 kl1 kc1] 25)).heap.size ((w.alloc (.cells #[.int .i64 k0, .string ch0, .bool nt0, .slice rA0 rl0 rc0, .int .i64 mi0, .int .i64 ma0, .bool lz0, .slice kA0 kl0 kc0] 25)).alloc (.cells #[.int .i64 k1, .string ch1, .bool nt1, .slice rA1 rl1 rc1, .int .i64 mi1, .int .i64 ma1, .bool lz1, .slice kA1 kl1 kc1] 25)) W) j u hu => cell_later hb (lit_at2 w (.cells #[.int .i64 k0, .string ch0, .bool nt0, .slice rA0 rl0 rc0, .int .i64 mi0, .int .i64 ma0, .bool lz0, .slice kA0 kl0 kc0] 25) #[.int .i64 k1, .string ch1, .bool nt1, .slice rA1 rl1 rc1, .int .i64 mi1, .int .i64 ma1, .bool lz1, .slice kA1 kl1 kc1] 25 j u hu))
  go_enter Tryd.func4, Tryd.ntmps4
  go_wp2_with fail
  refine (HG.out _ (HBA.out _ _)).mono ?_
  rintro e w2 ⟨r, rfl, hr0, hr1, hr2, hb2⟩
  have HB2 := hide (bl_trans (HBA.out _ _) hb2)
  have HY2 := hide hb2
  have HR2 := hide hr2
  clear hr0 hr1 hb2 hr2
  by_cases hn : r < 0
  case pos =>
    have g1 : decide (r < 0) = true := decide_eq_true hn
    clear hn
    go_wp2_with fail
    refine (HAW.out _ HB2.out).mono ?_
    rintro e wz ⟨rfl, hbz⟩
    have HBZ := hide (bl_trans HB2.out hbz)
    clear hbz
    go_wp2
    go_ret
    exact ⟨rfl, HBZ.out⟩
  have g1 : decide (r < 0) = false := decide_eq_false hn
  have hz0 : s0 ≤ 60 := by have := HR2.out (by omega); omega
  have d0 := FB.out _ HY2.out 0 _ rfl
  have d1 := FB.out _ HY2.out 1 _ rfl
  have d2 := FB.out _ HY2.out 2 _ rfl
  have d3 := FB.out _ HY2.out 3 _ rfl
  have d4 := FB.out _ HY2.out 4 _ rfl
  have d5 := FB.out _ HY2.out 5 _ rfl
  have d6 := FB.out _ HY2.out 6 _ rfl
  have d7 := FB.out _ HY2.out 7 _ rfl
  clear hn
  go_wp2_with fail
  refine (HG1.out _ HB2.out).mono ?_
  rintro e w3 ⟨r1, rfl, hr0, hr1, hr2, hb3⟩
  have HB3 := hide (bl_trans HB2.out hb3)
  have HY3 := hide (bl_trans HY2.out hb3)
  have HR3 := hide hr2
  clear hr0 hr1 hr2 hb3 d0 d1 d2 d3 d4 d5 d6 d7
  by_cases hn : r1 < 0
  case pos =>
    have g2 : decide (r1 < 0) = true := decide_eq_true hn
    clear hn
    go_wp2_with fail
    refine (HAW.out _ HB3.out).mono ?_
    rintro e wz ⟨rfl, hbz⟩
    have HBZ := hide (bl_trans HB3.out hbz)
    clear hbz
    go_wp2
    go_ret
    exact ⟨rfl, HBZ.out⟩
  have g2 : decide (r1 < 0) = false := decide_eq_false hn
  have hz1 : s1 ≤ 60 := by have := HR3.out (by omega); omega
  have a0 := FA.out _ HY3.out 0 _ rfl
  have a1 := FA.out _ HY3.out 1 _ rfl
  have a2 := FA.out _ HY3.out 2 _ rfl
  have a3 := FA.out _ HY3.out 3 _ rfl
  have a4 := FA.out _ HY3.out 4 _ rfl
  have a5 := FA.out _ HY3.out 5 _ rfl
  have a6 := FA.out _ HY3.out 6 _ rfl
  have a7 := FA.out _ HY3.out 7 _ rfl
  clear hn
  go_wp2_with fail
  refine (HM0.out hz0 _ HB3.out).mono ?_
  rintro e w4 ⟨rfl, hb4⟩
  have HB4 := hide (bl_trans HB3.out hb4)
  have HY4 := hide (bl_trans HY3.out hb4)
  clear hb4 a0 a1 a2 a3 a4 a5 a6 a7
  cases m0 with
  | false =>
    clear hz0
    go_wp2_with fail
    refine (HAW.out _ HB4.out).mono ?_
    rintro e wz ⟨rfl, hbz⟩
    have HBZ := hide (bl_trans HB4.out hbz)
    clear hbz
    go_wp2
    go_ret
    exact ⟨rfl, HBZ.out⟩
  | true =>
  have d0 := FB.out _ HY4.out 0 _ rfl
  have d1 := FB.out _ HY4.out 1 _ rfl
  have d2 := FB.out _ HY4.out 2 _ rfl
  have d3 := FB.out _ HY4.out 3 _ rfl
  have d4 := FB.out _ HY4.out 4 _ rfl
  have d5 := FB.out _ HY4.out 5 _ rfl
  have d6 := FB.out _ HY4.out 6 _ rfl
  have d7 := FB.out _ HY4.out 7 _ rfl
  go_wp2_with fail
  refine (HM1.out hz1 _ HB4.out).mono ?_
  rintro e w5 ⟨rfl, hb5⟩
  have HB5 := hide (bl_trans HB4.out hb5)
  have HY5 := hide (bl_trans HY4.out hb5)
  clear hb5 d0 d1 d2 d3 d4 d5 d6 d7
  cases m1 with
  | false =>
    clear hz0
    go_wp2_with fail
    refine (HAW.out _ HB5.out).mono ?_
    rintro e wz ⟨rfl, hbz⟩
    have HBZ := hide (bl_trans HB5.out hbz)
    clear hbz
    go_wp2
    go_ret
    exact ⟨rfl, HBZ.out⟩
  | true =>
  have HASZ := hide (HAS.out (by first | rfl | trivial) hz0)
  have HBSZ := hide (HBS.out (by first | rfl | trivial) hz1)
  have HAL2 := hide (HAL.out (by first | rfl | trivial) (by first | rfl | trivial) hz0 hz1)
  have HSQ2 := hide (HSQ.out (by first | rfl | trivial) (by first | rfl | trivial) hz0 hz1)
  have HGP2 := hide (HGP.out (by first | rfl | trivial) hz0)
  have HLZ2 := hide (HLZ.out (by first | rfl | trivial) hz0)
  have HS02 := hide (HS0.out (by first | rfl | trivial) hz0)
  have HS12 := hide (HS1.out (by first | rfl | trivial) hz1)
  have HZ := hide (And.intro hz0 hz1)
  have HSL := hide (show sL [t0, t1] ≤ 100000 from by simp only [sL]; have h1 := HSS0.out; have h2 := HSS1.out; omega)
  have HDP2 := hide (HDP.out hz0)
  clear HAS HBS HAL HSQ HGP HLZ HS0 HS1 HM0 HM1 HG HG1 hz0 hz1 HDP
  have a0 := FA.out _ HY5.out 0 _ rfl
  have a1 := FA.out _ HY5.out 1 _ rfl
  have a2 := FA.out _ HY5.out 2 _ rfl
  have a3 := FA.out _ HY5.out 3 _ rfl
  have a4 := FA.out _ HY5.out 4 _ rfl
  have a5 := FA.out _ HY5.out 5 _ rfl
  have a6 := FA.out _ HY5.out 6 _ rfl
  have a7 := FA.out _ HY5.out 7 _ rfl
  go_wp2_with fail
  refine (HS02.out _ HB5.out).mono ?_
  rintro e w6 ⟨rfl, hb6⟩
  have HB6 := hide (bl_trans HB5.out hb6)
  have HY6 := hide (bl_trans HY5.out hb6)
  clear hb6 a0 a1 a2 a3 a4 a5 a6 a7
  have d0 := FB.out _ HY6.out 0 _ rfl
  have d1 := FB.out _ HY6.out 1 _ rfl
  have d2 := FB.out _ HY6.out 2 _ rfl
  have d3 := FB.out _ HY6.out 3 _ rfl
  have d4 := FB.out _ HY6.out 4 _ rfl
  have d5 := FB.out _ HY6.out 5 _ rfl
  have d6 := FB.out _ HY6.out 6 _ rfl
  have d7 := FB.out _ HY6.out 7 _ rfl
  go_wp2_with fail
  refine (HS12.out _ HB6.out).mono ?_
  rintro e w7 ⟨rfl, hb7⟩
  have HB7 := hide (bl_trans HB6.out hb7)
  have HY7 := hide (bl_trans HY6.out hb7)
  clear hb7 d0 d1 d2 d3 d4 d5 d6 d7
  have a0 := FA.out _ HY7.out 0 _ rfl
  have a1 := FA.out _ HY7.out 1 _ rfl
  have a2 := FA.out _ HY7.out 2 _ rfl
  have a3 := FA.out _ HY7.out 3 _ rfl
  have a4 := FA.out _ HY7.out 4 _ rfl
  have a5 := FA.out _ HY7.out 5 _ rfl
  have a6 := FA.out _ HY7.out 6 _ rfl
  have a7 := FA.out _ HY7.out 7 _ rfl
  have d0 := FB.out _ HY7.out 0 _ rfl
  have d1 := FB.out _ HY7.out 1 _ rfl
  have d2 := FB.out _ HY7.out 2 _ rfl
  have d3 := FB.out _ HY7.out 3 _ rfl
  have d4 := FB.out _ HY7.out 4 _ rfl
  have d5 := FB.out _ HY7.out 5 _ rfl
  have d6 := FB.out _ HY7.out 6 _ rfl
  have d7 := FB.out _ HY7.out 7 _ rfl
  have HK7 := hide (HKL.out w7 HB7.out)
  have HCA := hide (alt_any _ [t0, t1] _ HK7.out (fun i hi => by
    have hi2 : i < 2 := hi
    match i, hi2 with
    | 0, _ => exact rx_below HX0.out (bl_alloc HB7.out _)
    | 1, _ => exact rx_below HX1.out (bl_alloc HB7.out _)) HSL.out)
  unfold SqPost at HCA
  have HB7a := hide (fun o => bl_alloc HB7.out o)
  have HY7a := hide (fun o => bl_alloc HY7.out o)
  go_wp2_with fail
  refine HCA.out.mono ?_
  rintro e w8 ⟨t2, rfl, hb8, hx2, he2⟩
  have HB8 := hide (bl_trans (HB7a.out _) hb8)
  have HY8 := hide (bl_trans (HY7a.out _) hb8)
  have HC2 := hide (show_of HTAB.out HB8.out hx2 ((cnB_er he2 16 512).trans HAL2.out.1) (by rw [← sM_er, he2]; have := HAL2.out.2.2; omega) (A ++ (⟨#[124]⟩ : ByteArray) ++ B) (by rw [← shX_er, he2, HAL2.out.2.1, dat_app, dat_app, HAD.out, HBD.out]))
  clear hb8 hx2 he2 a0 a1 a2 a3 a4 a5 a6 a7 d0 d1 d2 d3 d4 d5 d6 d7 HCA HK7
  go_wp2_with fail
  refine HC2.out.mono ?_
  rintro e w9 ⟨rfl, hb9⟩
  have HB9 := hide (bl_trans HB8.out hb9)
  have HY9 := hide (bl_trans HY8.out hb9)
  have q1 : (A ++ (⟨#[124]⟩ : ByteArray)).size ≤ 2000 := by rw [ByteArray.size_append]; have := HASZ.out; show _ + 1 ≤ _; omega
  have q2 : A.size ≤ 1200 := HASZ.out
  have q3 : B.size ≤ 1200 := HBSZ.out
  have q4 : (A ++ (⟨#[124]⟩ : ByteArray) ++ B).size ≤ 4000 := by rw [ByteArray.size_append]; omega
  clear hb9 HC2
  have a0 := FA.out _ HY9.out 0 _ rfl
  have d0 := FB.out _ HY9.out 0 _ rfl
  by_cases qk : k0 ≠ 1 ∧ k1 ≠ 1
  case neg =>
    by_cases qk0 : k0 = 1
    case pos =>
      subst qk0
      clear qk d0 a0
      have a0 := FA.out _ HY9.out 0 _ rfl
      have a1 := FA.out _ HY9.out 1 _ rfl
      have a2 := FA.out _ HY9.out 2 _ rfl
      have a3 := FA.out _ HY9.out 3 _ rfl
      have a4 := FA.out _ HY9.out 4 _ rfl
      have a5 := FA.out _ HY9.out 5 _ rfl
      have a6 := FA.out _ HY9.out 6 _ rfl
      have a7 := FA.out _ HY9.out 7 _ rfl
      go_wp2_with fail
      refine (HDP2.out _ HB9.out).mono ?_
      rintro e v1 ⟨rfl, hv1⟩
      have HV1 := hide (bl_trans HB9.out hv1)
      have HU1 := hide (bl_trans HY9.out hv1)
      clear hv1 a0 a1 a2 a3 a4 a5 a6 a7
      by_cases hd : dm < 16
      case neg =>
        have z1 : decide ((dm : Int) < 16) = false := decide_eq_false (by omega)
        have z2 : decide (dm < 16) = false := decide_eq_false hd
        clear hd
        go_wp2_with fail
        refine (HAW.out _ HV1.out).mono ?_
        rintro e wz ⟨rfl, hbz⟩
        have HBZ := hide (bl_trans HV1.out hbz)
        clear hbz
        go_wp2
        go_ret
        exact ⟨rfl, HBZ.out⟩
      have z1 : decide ((dm : Int) < 16) = true := decide_eq_true (by omega)
      have z2 : decide (dm < 16) = true := decide_eq_true hd
      have HGP3 := hide (HGP2.out hd)
      have HLZ3 := hide (HLZ2.out hd)
      clear hd
      have a0 := FA.out _ HU1.out 0 _ rfl
      have a1 := FA.out _ HU1.out 1 _ rfl
      have a2 := FA.out _ HU1.out 2 _ rfl
      have a3 := FA.out _ HU1.out 3 _ rfl
      have a4 := FA.out _ HU1.out 4 _ rfl
      have a5 := FA.out _ HU1.out 5 _ rfl
      have a6 := FA.out _ HU1.out 6 _ rfl
      have a7 := FA.out _ HU1.out 7 _ rfl
      have HK8 := hide (HK1.out v1 HV1.out)
      have HV1a := hide (fun o => bl_alloc HV1.out o)
      have HU1a := hide (fun o => bl_alloc HU1.out o)
      have HCP := hide (show Calls Tryd.prog 7 #[.agg #[.int .i64 5, .string ⟨#[]⟩, .bool false, .slice none 0 0, .int .i64 0, .int .i64 0, .bool false, .slice (some ⟨v1.heap.size, 0, none⟩) 1 1]] (v1.alloc (.cells #[.int .i64 1, .string ch0, .bool nt0, .slice rA0 rl0 rc0, .int .i64 mi0, .int .i64 ma0, .bool lz0, .slice kA0 kl0 kc0] 25)) (fun e w' => e = .returned (.tuple #[.string ((⟨#[40]⟩ : ByteArray) ++ A ++ (⟨#[41]⟩ : ByteArray)), .int .i64 0]) ∧ Below (v1.alloc (.cells #[.int .i64 1, .string ch0, .bool nt0, .slice rA0 rl0 rc0, .int .i64 mi0, .int .i64 ma0, .bool lz0, .slice kA0 kl0 kc0] 25)).heap.size (v1.alloc (.cells #[.int .i64 1, .string ch0, .bool nt0, .slice rA0 rl0 rc0, .int .i64 mi0, .int .i64 ma0, .bool lz0, .slice kA0 kl0 kc0] 25)) w') from
        show_of (t := gpR 5 (.slice (some ⟨v1.heap.size, 0, none⟩) 1 1) t0) HTAB.out (HV1a.out _) (.mk _ (.inl ⟨rfl, rfl⟩) HK8.out (fun i hi => by
          have : i = 0 := by simpa [gpR, Rt.kids] using hi
          subst this
          exact rx_below HX0.out (HV1a.out _))) (HGP3.out _).1 (by have := (HGP3.out (.slice (some ⟨v1.heap.size, 0, none⟩) 1 1)).2.2.1; omega) ((⟨#[40]⟩ : ByteArray) ++ A ++ (⟨#[41]⟩ : ByteArray)) (by rw [(HGP3.out _).2.1, dat_app, dat_app, HAD.out]; rfl))
      go_wp2_with fail
      refine HCP.out.mono ?_
      rintro e v2 ⟨rfl, hv2⟩
      have HV2 := hide (bl_trans (HV1a.out _) hv2)
      have HU2 := hide (bl_trans (HU1a.out _) hv2)
      clear hv2 a0 a1 a2 a3 a4 a5 a6 a7 HCP HK8
      have a0 := FA.out _ HU2.out 0 _ rfl
      have a1 := FA.out _ HU2.out 1 _ rfl
      have a2 := FA.out _ HU2.out 2 _ rfl
      have a3 := FA.out _ HU2.out 3 _ rfl
      have a4 := FA.out _ HU2.out 4 _ rfl
      have a5 := FA.out _ HU2.out 5 _ rfl
      have a6 := FA.out _ HU2.out 6 _ rfl
      have a7 := FA.out _ HU2.out 7 _ rfl
      have HK9 := hide (HK1.out v2 HV2.out)
      have HV2a := hide (fun o => bl_alloc HV2.out o)
      have HV2b := hide (fun o o2 => bl_alloc (bl_alloc HV2.out o) o2)
      have HCQ := hide (show Calls Tryd.prog 7 #[.agg #[.int .i64 7, .string ⟨#[]⟩, .bool false, .slice none 0 0, .int .i64 0, .int .i64 1, .bool true, .slice (some ⟨v2.heap.size + 1, 0, none⟩) 1 1]] ((v2.alloc (.cells #[.int .i64 1, .string ch0, .bool nt0, .slice rA0 rl0 rc0, .int .i64 mi0, .int .i64 ma0, .bool lz0, .slice kA0 kl0 kc0] 25)).alloc (.cells #[.int .i64 6, .string ⟨#[]⟩, .bool false, .slice none 0 0, .int .i64 0, .int .i64 0, .bool false, .slice (some ⟨v2.heap.size, 0, none⟩) 1 1] 25)) (fun e w' => e = .returned (.tuple #[.string ((⟨#[40, 63, 58]⟩ : ByteArray) ++ A ++ (⟨#[41, 63, 63]⟩ : ByteArray)), .int .i64 0]) ∧ Below ((v2.alloc (.cells #[.int .i64 1, .string ch0, .bool nt0, .slice rA0 rl0 rc0, .int .i64 mi0, .int .i64 ma0, .bool lz0, .slice kA0 kl0 kc0] 25)).alloc (.cells #[.int .i64 6, .string ⟨#[]⟩, .bool false, .slice none 0 0, .int .i64 0, .int .i64 0, .bool false, .slice (some ⟨v2.heap.size, 0, none⟩) 1 1] 25)).heap.size ((v2.alloc (.cells #[.int .i64 1, .string ch0, .bool nt0, .slice rA0 rl0 rc0, .int .i64 mi0, .int .i64 ma0, .bool lz0, .slice kA0 kl0 kc0] 25)).alloc (.cells #[.int .i64 6, .string ⟨#[]⟩, .bool false, .slice none 0 0, .int .i64 0, .int .i64 0, .bool false, .slice (some ⟨v2.heap.size, 0, none⟩) 1 1] 25)) w') from by
        have hk9 := ksat_below HK9.out (bl_alloc (bl_refl _) (.cells #[.int .i64 6, .string ⟨#[]⟩, .bool false, .slice none 0 0, .int .i64 0, .int .i64 0, .bool false, .slice (some ⟨v2.heap.size, 0, none⟩) 1 1] 25))
        have hkb := ks_lit (w := v2.alloc (.cells #[.int .i64 1, .string ch0, .bool nt0, .slice rA0 rl0 rc0, .int .i64 mi0, .int .i64 ma0, .bool lz0, .slice kA0 kl0 kc0] 25)) (l := [gpR 6 (.slice (some ⟨v2.heap.size, 0, none⟩) 1 1) t0]) (n := 1) rfl (by decide) #[.int .i64 6, .string ⟨#[]⟩, .bool false, .slice none 0 0, .int .i64 0, .int .i64 0, .bool false, .slice (some ⟨v2.heap.size, 0, none⟩) 1 1] rfl
        rw [show (v2.alloc (.cells #[.int .i64 1, .string ch0, .bool nt0, .slice rA0 rl0 rc0, .int .i64 mi0, .int .i64 ma0, .bool lz0, .slice kA0 kl0 kc0] 25)).heap.size = v2.heap.size + 1 by simp] at hkb
        refine show_of (t := lzR (.slice (some ⟨v2.heap.size + 1, 0, none⟩) 1 1) (gpR 6 (.slice (some ⟨v2.heap.size, 0, none⟩) 1 1) t0)) HTAB.out (HV2b.out _ _) (.mk _ (.inl ⟨rfl, rfl⟩) hkb (fun i hi => ?_)) (HLZ3.out _ _).1 (by have := (HLZ3.out (.slice (some ⟨v2.heap.size + 1, 0, none⟩) 1 1) (.slice (some ⟨v2.heap.size, 0, none⟩) 1 1)).2.2; omega) ((⟨#[40, 63, 58]⟩ : ByteArray) ++ A ++ (⟨#[41, 63, 63]⟩ : ByteArray)) (by rw [(HLZ3.out _ _).2.1, dat_app, dat_app, HAD.out])
        have : i = 0 := by simpa [lzR, Rt.kids] using hi
        subst this
        refine .mk _ (.inl ⟨rfl, rfl⟩) hk9 (fun i hi => ?_)
        have : i = 0 := by simpa [lzR, gpR, Rt.kids] using hi
        subst this
        exact rx_below HX0.out (HV2b.out _ _))
      go_wp2_with fail
      refine HCQ.out.mono ?_
      rintro e v3 ⟨rfl, hv3⟩
      have HV3 := hide (bl_trans (HV2b.out _ _) hv3)
      clear hv3 a0 a1 a2 a3 a4 a5 a6 a7 HCQ HK9
      have u1 : ((⟨#[40]⟩ : ByteArray) ++ A).size ≤ 2000 := by rw [ByteArray.size_append]; show 1 + _ ≤ _; omega
      have u2 : ((⟨#[40]⟩ : ByteArray) ++ A ++ (⟨#[41]⟩ : ByteArray)).size ≤ 2001 := by rw [ByteArray.size_append]; show _ + 1 ≤ _; omega
      have u3 : ((⟨#[40, 63, 58]⟩ : ByteArray) ++ A).size ≤ 2000 := by rw [ByteArray.size_append]; show 3 + _ ≤ _; omega
      have u4 : ((⟨#[40, 63, 58]⟩ : ByteArray) ++ A ++ (⟨#[41, 63, 63]⟩ : ByteArray)).size ≤ 2003 := by rw [ByteArray.size_append]; show _ + 3 ≤ _; omega
      go_wp2_with fail
      refine (HAW.out _ HV3.out).mono ?_
      rintro e wz ⟨rfl, hbz⟩
      have HBZ := hide (bl_trans HV3.out hbz)
      clear hbz u1 u2 u3 u4
      go_wp2
      go_ret
      exact ⟨rfl, HBZ.out⟩
    have y0 : (k0 == 1) = false := beq_eq_false_iff_ne.2 qk0
    have y0b : (k0 != 1) = true := by rw [bne, y0]; rfl
    obtain rfl : k1 = 1 := by omega
    clear qk qk0 a0
    have a0 := FA.out _ HY9.out 0 _ rfl
    have a1 := FA.out _ HY9.out 1 _ rfl
    have a2 := FA.out _ HY9.out 2 _ rfl
    have a3 := FA.out _ HY9.out 3 _ rfl
    have a4 := FA.out _ HY9.out 4 _ rfl
    have a5 := FA.out _ HY9.out 5 _ rfl
    have a6 := FA.out _ HY9.out 6 _ rfl
    have a7 := FA.out _ HY9.out 7 _ rfl
    go_wp2_with fail
    refine (HDP2.out _ HB9.out).mono ?_
    rintro e v1 ⟨rfl, hv1⟩
    have HV1 := hide (bl_trans HB9.out hv1)
    have HU1 := hide (bl_trans HY9.out hv1)
    clear hv1 a0 a1 a2 a3 a4 a5 a6 a7
    by_cases hd : dm < 16
    case neg =>
      have z1 : decide ((dm : Int) < 16) = false := decide_eq_false (by omega)
      have z2 : decide (dm < 16) = false := decide_eq_false hd
      clear hd
      go_wp2_with fail
      refine (HAW.out _ HV1.out).mono ?_
      rintro e wz ⟨rfl, hbz⟩
      have HBZ := hide (bl_trans HV1.out hbz)
      clear hbz
      go_wp2
      go_ret
      exact ⟨rfl, HBZ.out⟩
    have z1 : decide ((dm : Int) < 16) = true := decide_eq_true (by omega)
    have z2 : decide (dm < 16) = true := decide_eq_true hd
    have HGP3 := hide (HGP2.out hd)
    have HLZ3 := hide (HLZ2.out hd)
    clear hd
    have a0 := FA.out _ HU1.out 0 _ rfl
    have a1 := FA.out _ HU1.out 1 _ rfl
    have a2 := FA.out _ HU1.out 2 _ rfl
    have a3 := FA.out _ HU1.out 3 _ rfl
    have a4 := FA.out _ HU1.out 4 _ rfl
    have a5 := FA.out _ HU1.out 5 _ rfl
    have a6 := FA.out _ HU1.out 6 _ rfl
    have a7 := FA.out _ HU1.out 7 _ rfl
    have HK8 := hide (HK1.out v1 HV1.out)
    have HV1a := hide (fun o => bl_alloc HV1.out o)
    have HU1a := hide (fun o => bl_alloc HU1.out o)
    have HCP := hide (show Calls Tryd.prog 7 #[.agg #[.int .i64 5, .string ⟨#[]⟩, .bool false, .slice none 0 0, .int .i64 0, .int .i64 0, .bool false, .slice (some ⟨v1.heap.size, 0, none⟩) 1 1]] (v1.alloc (.cells #[.int .i64 k0, .string ch0, .bool nt0, .slice rA0 rl0 rc0, .int .i64 mi0, .int .i64 ma0, .bool lz0, .slice kA0 kl0 kc0] 25)) (fun e w' => e = .returned (.tuple #[.string ((⟨#[40]⟩ : ByteArray) ++ A ++ (⟨#[41]⟩ : ByteArray)), .int .i64 0]) ∧ Below (v1.alloc (.cells #[.int .i64 k0, .string ch0, .bool nt0, .slice rA0 rl0 rc0, .int .i64 mi0, .int .i64 ma0, .bool lz0, .slice kA0 kl0 kc0] 25)).heap.size (v1.alloc (.cells #[.int .i64 k0, .string ch0, .bool nt0, .slice rA0 rl0 rc0, .int .i64 mi0, .int .i64 ma0, .bool lz0, .slice kA0 kl0 kc0] 25)) w') from
      show_of (t := gpR 5 (.slice (some ⟨v1.heap.size, 0, none⟩) 1 1) t0) HTAB.out (HV1a.out _) (.mk _ (.inl ⟨rfl, rfl⟩) HK8.out (fun i hi => by
        have : i = 0 := by simpa [gpR, Rt.kids] using hi
        subst this
        exact rx_below HX0.out (HV1a.out _))) (HGP3.out _).1 (by have := (HGP3.out (.slice (some ⟨v1.heap.size, 0, none⟩) 1 1)).2.2.1; omega) ((⟨#[40]⟩ : ByteArray) ++ A ++ (⟨#[41]⟩ : ByteArray)) (by rw [(HGP3.out _).2.1, dat_app, dat_app, HAD.out]; rfl))
    go_wp2_with fail
    refine HCP.out.mono ?_
    rintro e v2 ⟨rfl, hv2⟩
    have HV2 := hide (bl_trans (HV1a.out _) hv2)
    have HU2 := hide (bl_trans (HU1a.out _) hv2)
    clear hv2 a0 a1 a2 a3 a4 a5 a6 a7 HCP HK8
    have a0 := FA.out _ HU2.out 0 _ rfl
    have a1 := FA.out _ HU2.out 1 _ rfl
    have a2 := FA.out _ HU2.out 2 _ rfl
    have a3 := FA.out _ HU2.out 3 _ rfl
    have a4 := FA.out _ HU2.out 4 _ rfl
    have a5 := FA.out _ HU2.out 5 _ rfl
    have a6 := FA.out _ HU2.out 6 _ rfl
    have a7 := FA.out _ HU2.out 7 _ rfl
    have HK9 := hide (HK1.out v2 HV2.out)
    have HV2a := hide (fun o => bl_alloc HV2.out o)
    have HV2b := hide (fun o o2 => bl_alloc (bl_alloc HV2.out o) o2)
    have HCQ := hide (show Calls Tryd.prog 7 #[.agg #[.int .i64 7, .string ⟨#[]⟩, .bool false, .slice none 0 0, .int .i64 0, .int .i64 1, .bool true, .slice (some ⟨v2.heap.size + 1, 0, none⟩) 1 1]] ((v2.alloc (.cells #[.int .i64 k0, .string ch0, .bool nt0, .slice rA0 rl0 rc0, .int .i64 mi0, .int .i64 ma0, .bool lz0, .slice kA0 kl0 kc0] 25)).alloc (.cells #[.int .i64 6, .string ⟨#[]⟩, .bool false, .slice none 0 0, .int .i64 0, .int .i64 0, .bool false, .slice (some ⟨v2.heap.size, 0, none⟩) 1 1] 25)) (fun e w' => e = .returned (.tuple #[.string ((⟨#[40, 63, 58]⟩ : ByteArray) ++ A ++ (⟨#[41, 63, 63]⟩ : ByteArray)), .int .i64 0]) ∧ Below ((v2.alloc (.cells #[.int .i64 k0, .string ch0, .bool nt0, .slice rA0 rl0 rc0, .int .i64 mi0, .int .i64 ma0, .bool lz0, .slice kA0 kl0 kc0] 25)).alloc (.cells #[.int .i64 6, .string ⟨#[]⟩, .bool false, .slice none 0 0, .int .i64 0, .int .i64 0, .bool false, .slice (some ⟨v2.heap.size, 0, none⟩) 1 1] 25)).heap.size ((v2.alloc (.cells #[.int .i64 k0, .string ch0, .bool nt0, .slice rA0 rl0 rc0, .int .i64 mi0, .int .i64 ma0, .bool lz0, .slice kA0 kl0 kc0] 25)).alloc (.cells #[.int .i64 6, .string ⟨#[]⟩, .bool false, .slice none 0 0, .int .i64 0, .int .i64 0, .bool false, .slice (some ⟨v2.heap.size, 0, none⟩) 1 1] 25)) w') from by
      have hk9 := ksat_below HK9.out (bl_alloc (bl_refl _) (.cells #[.int .i64 6, .string ⟨#[]⟩, .bool false, .slice none 0 0, .int .i64 0, .int .i64 0, .bool false, .slice (some ⟨v2.heap.size, 0, none⟩) 1 1] 25))
      have hkb := ks_lit (w := v2.alloc (.cells #[.int .i64 k0, .string ch0, .bool nt0, .slice rA0 rl0 rc0, .int .i64 mi0, .int .i64 ma0, .bool lz0, .slice kA0 kl0 kc0] 25)) (l := [gpR 6 (.slice (some ⟨v2.heap.size, 0, none⟩) 1 1) t0]) (n := 1) rfl (by decide) #[.int .i64 6, .string ⟨#[]⟩, .bool false, .slice none 0 0, .int .i64 0, .int .i64 0, .bool false, .slice (some ⟨v2.heap.size, 0, none⟩) 1 1] rfl
      rw [show (v2.alloc (.cells #[.int .i64 k0, .string ch0, .bool nt0, .slice rA0 rl0 rc0, .int .i64 mi0, .int .i64 ma0, .bool lz0, .slice kA0 kl0 kc0] 25)).heap.size = v2.heap.size + 1 by simp] at hkb
      refine show_of (t := lzR (.slice (some ⟨v2.heap.size + 1, 0, none⟩) 1 1) (gpR 6 (.slice (some ⟨v2.heap.size, 0, none⟩) 1 1) t0)) HTAB.out (HV2b.out _ _) (.mk _ (.inl ⟨rfl, rfl⟩) hkb (fun i hi => ?_)) (HLZ3.out _ _).1 (by have := (HLZ3.out (.slice (some ⟨v2.heap.size + 1, 0, none⟩) 1 1) (.slice (some ⟨v2.heap.size, 0, none⟩) 1 1)).2.2; omega) ((⟨#[40, 63, 58]⟩ : ByteArray) ++ A ++ (⟨#[41, 63, 63]⟩ : ByteArray)) (by rw [(HLZ3.out _ _).2.1, dat_app, dat_app, HAD.out])
      have : i = 0 := by simpa [lzR, Rt.kids] using hi
      subst this
      refine .mk _ (.inl ⟨rfl, rfl⟩) hk9 (fun i hi => ?_)
      have : i = 0 := by simpa [lzR, gpR, Rt.kids] using hi
      subst this
      exact rx_below HX0.out (HV2b.out _ _))
    go_wp2_with fail
    refine HCQ.out.mono ?_
    rintro e v3 ⟨rfl, hv3⟩
    have HV3 := hide (bl_trans (HV2b.out _ _) hv3)
    clear hv3 a0 a1 a2 a3 a4 a5 a6 a7 HCQ HK9
    have u1 : ((⟨#[40]⟩ : ByteArray) ++ A).size ≤ 2000 := by rw [ByteArray.size_append]; show 1 + _ ≤ _; omega
    have u2 : ((⟨#[40]⟩ : ByteArray) ++ A ++ (⟨#[41]⟩ : ByteArray)).size ≤ 2001 := by rw [ByteArray.size_append]; show _ + 1 ≤ _; omega
    have u3 : ((⟨#[40, 63, 58]⟩ : ByteArray) ++ A).size ≤ 2000 := by rw [ByteArray.size_append]; show 3 + _ ≤ _; omega
    have u4 : ((⟨#[40, 63, 58]⟩ : ByteArray) ++ A ++ (⟨#[41, 63, 63]⟩ : ByteArray)).size ≤ 2003 := by rw [ByteArray.size_append]; show _ + 3 ≤ _; omega
    go_wp2_with fail
    refine (HAW.out _ HV3.out).mono ?_
    rintro e wz ⟨rfl, hbz⟩
    have HBZ := hide (bl_trans HV3.out hbz)
    clear hbz u1 u2 u3 u4
    go_wp2
    go_ret
    exact ⟨rfl, HBZ.out⟩
  have y0 : (k0 == 1) = false := beq_eq_false_iff_ne.2 qk.1
  have y0b : (k0 != 1) = true := by rw [bne, y0]; rfl
  have y1 : (k1 == 1) = false := beq_eq_false_iff_ne.2 qk.2
  have y1b : (k1 != 1) = true := by rw [bne, y1]; rfl
  have HSQ3 := hide (HSQ2.out qk.1 qk.2)
  clear qk a0 d0
  have a0 := FA.out _ HY9.out 0 _ rfl
  have a1 := FA.out _ HY9.out 1 _ rfl
  have a2 := FA.out _ HY9.out 2 _ rfl
  have a3 := FA.out _ HY9.out 3 _ rfl
  have a4 := FA.out _ HY9.out 4 _ rfl
  have a5 := FA.out _ HY9.out 5 _ rfl
  have a6 := FA.out _ HY9.out 6 _ rfl
  have a7 := FA.out _ HY9.out 7 _ rfl
  have d0 := FB.out _ HY9.out 0 _ rfl
  have d1 := FB.out _ HY9.out 1 _ rfl
  have d2 := FB.out _ HY9.out 2 _ rfl
  have d3 := FB.out _ HY9.out 3 _ rfl
  have d4 := FB.out _ HY9.out 4 _ rfl
  have d5 := FB.out _ HY9.out 5 _ rfl
  have d6 := FB.out _ HY9.out 6 _ rfl
  have d7 := FB.out _ HY9.out 7 _ rfl
  have HK9s := hide (HKL.out w9 HB9.out)
  have HCS := hide (seq_any _ [t0, t1] _ HK9s.out (fun i hi => by
    have hi2 : i < 2 := hi
    match i, hi2 with
    | 0, _ => exact rx_below HX0.out (bl_alloc HB9.out _)
    | 1, _ => exact rx_below HX1.out (bl_alloc HB9.out _)) HSL.out)
  unfold SqPost at HCS
  have HB9a := hide (fun o => bl_alloc HB9.out o)
  have HY9a := hide (fun o => bl_alloc HY9.out o)
  go_wp2_with fail
  refine HCS.out.mono ?_
  rintro e w10 ⟨t3, rfl, hb10, hx3, he3⟩
  have HB10 := hide (bl_trans (HB9a.out _) hb10)
  have HY10 := hide (bl_trans (HY9a.out _) hb10)
  have HC3 := hide (show_of HTAB.out HB10.out hx3 ((cnB_er he3 16 512).trans HSQ3.out.1) (by rw [← sM_er, he3]; have := HSQ3.out.2.2; omega) (A ++ B) (by rw [← shX_er, he3, HSQ3.out.2.1, dat_app, HAD.out, HBD.out]))
  clear hb10 hx3 he3 a0 a1 a2 a3 a4 a5 a6 a7 d0 d1 d2 d3 d4 d5 d6 d7 HCS HK9s
  go_wp2_with fail
  refine HC3.out.mono ?_
  rintro e w11 ⟨rfl, hb11⟩
  have HB11 := hide (bl_trans HB10.out hb11)
  have HY11 := hide (bl_trans HY10.out hb11)
  have q5 : (A ++ B).size ≤ 3000 := by rw [ByteArray.size_append]; omega
  clear hb11 HC3
  have a0 := FA.out _ HY11.out 0 _ rfl
  have a1 := FA.out _ HY11.out 1 _ rfl
  have a2 := FA.out _ HY11.out 2 _ rfl
  have a3 := FA.out _ HY11.out 3 _ rfl
  have a4 := FA.out _ HY11.out 4 _ rfl
  have a5 := FA.out _ HY11.out 5 _ rfl
  have a6 := FA.out _ HY11.out 6 _ rfl
  have a7 := FA.out _ HY11.out 7 _ rfl
  go_wp2_with fail
  refine (HDP2.out _ HB11.out).mono ?_
  rintro e v1 ⟨rfl, hv1⟩
  have HV1 := hide (bl_trans HB11.out hv1)
  have HU1 := hide (bl_trans HY11.out hv1)
  clear hv1 a0 a1 a2 a3 a4 a5 a6 a7
  by_cases hd : dm < 16
  case neg =>
    have z1 : decide ((dm : Int) < 16) = false := decide_eq_false (by omega)
    have z2 : decide (dm < 16) = false := decide_eq_false hd
    clear hd
    go_wp2_with fail
    refine (HAW.out _ HV1.out).mono ?_
    rintro e wz ⟨rfl, hbz⟩
    have HBZ := hide (bl_trans HV1.out hbz)
    clear hbz
    go_wp2
    go_ret
    exact ⟨rfl, HBZ.out⟩
  have z1 : decide ((dm : Int) < 16) = true := decide_eq_true (by omega)
  have z2 : decide (dm < 16) = true := decide_eq_true hd
  have HGP3 := hide (HGP2.out hd)
  have HLZ3 := hide (HLZ2.out hd)
  clear hd
  have a0 := FA.out _ HU1.out 0 _ rfl
  have a1 := FA.out _ HU1.out 1 _ rfl
  have a2 := FA.out _ HU1.out 2 _ rfl
  have a3 := FA.out _ HU1.out 3 _ rfl
  have a4 := FA.out _ HU1.out 4 _ rfl
  have a5 := FA.out _ HU1.out 5 _ rfl
  have a6 := FA.out _ HU1.out 6 _ rfl
  have a7 := FA.out _ HU1.out 7 _ rfl
  have HK8 := hide (HK1.out v1 HV1.out)
  have HV1a := hide (fun o => bl_alloc HV1.out o)
  have HU1a := hide (fun o => bl_alloc HU1.out o)
  have HCP := hide (show Calls Tryd.prog 7 #[.agg #[.int .i64 5, .string ⟨#[]⟩, .bool false, .slice none 0 0, .int .i64 0, .int .i64 0, .bool false, .slice (some ⟨v1.heap.size, 0, none⟩) 1 1]] (v1.alloc (.cells #[.int .i64 k0, .string ch0, .bool nt0, .slice rA0 rl0 rc0, .int .i64 mi0, .int .i64 ma0, .bool lz0, .slice kA0 kl0 kc0] 25)) (fun e w' => e = .returned (.tuple #[.string ((⟨#[40]⟩ : ByteArray) ++ A ++ (⟨#[41]⟩ : ByteArray)), .int .i64 0]) ∧ Below (v1.alloc (.cells #[.int .i64 k0, .string ch0, .bool nt0, .slice rA0 rl0 rc0, .int .i64 mi0, .int .i64 ma0, .bool lz0, .slice kA0 kl0 kc0] 25)).heap.size (v1.alloc (.cells #[.int .i64 k0, .string ch0, .bool nt0, .slice rA0 rl0 rc0, .int .i64 mi0, .int .i64 ma0, .bool lz0, .slice kA0 kl0 kc0] 25)) w') from
    show_of (t := gpR 5 (.slice (some ⟨v1.heap.size, 0, none⟩) 1 1) t0) HTAB.out (HV1a.out _) (.mk _ (.inl ⟨rfl, rfl⟩) HK8.out (fun i hi => by
      have : i = 0 := by simpa [gpR, Rt.kids] using hi
      subst this
      exact rx_below HX0.out (HV1a.out _))) (HGP3.out _).1 (by have := (HGP3.out (.slice (some ⟨v1.heap.size, 0, none⟩) 1 1)).2.2.1; omega) ((⟨#[40]⟩ : ByteArray) ++ A ++ (⟨#[41]⟩ : ByteArray)) (by rw [(HGP3.out _).2.1, dat_app, dat_app, HAD.out]; rfl))
  go_wp2_with fail
  refine HCP.out.mono ?_
  rintro e v2 ⟨rfl, hv2⟩
  have HV2 := hide (bl_trans (HV1a.out _) hv2)
  have HU2 := hide (bl_trans (HU1a.out _) hv2)
  clear hv2 a0 a1 a2 a3 a4 a5 a6 a7 HCP HK8
  have a0 := FA.out _ HU2.out 0 _ rfl
  have a1 := FA.out _ HU2.out 1 _ rfl
  have a2 := FA.out _ HU2.out 2 _ rfl
  have a3 := FA.out _ HU2.out 3 _ rfl
  have a4 := FA.out _ HU2.out 4 _ rfl
  have a5 := FA.out _ HU2.out 5 _ rfl
  have a6 := FA.out _ HU2.out 6 _ rfl
  have a7 := FA.out _ HU2.out 7 _ rfl
  have HK9 := hide (HK1.out v2 HV2.out)
  have HV2a := hide (fun o => bl_alloc HV2.out o)
  have HV2b := hide (fun o o2 => bl_alloc (bl_alloc HV2.out o) o2)
  have HCQ := hide (show Calls Tryd.prog 7 #[.agg #[.int .i64 7, .string ⟨#[]⟩, .bool false, .slice none 0 0, .int .i64 0, .int .i64 1, .bool true, .slice (some ⟨v2.heap.size + 1, 0, none⟩) 1 1]] ((v2.alloc (.cells #[.int .i64 k0, .string ch0, .bool nt0, .slice rA0 rl0 rc0, .int .i64 mi0, .int .i64 ma0, .bool lz0, .slice kA0 kl0 kc0] 25)).alloc (.cells #[.int .i64 6, .string ⟨#[]⟩, .bool false, .slice none 0 0, .int .i64 0, .int .i64 0, .bool false, .slice (some ⟨v2.heap.size, 0, none⟩) 1 1] 25)) (fun e w' => e = .returned (.tuple #[.string ((⟨#[40, 63, 58]⟩ : ByteArray) ++ A ++ (⟨#[41, 63, 63]⟩ : ByteArray)), .int .i64 0]) ∧ Below ((v2.alloc (.cells #[.int .i64 k0, .string ch0, .bool nt0, .slice rA0 rl0 rc0, .int .i64 mi0, .int .i64 ma0, .bool lz0, .slice kA0 kl0 kc0] 25)).alloc (.cells #[.int .i64 6, .string ⟨#[]⟩, .bool false, .slice none 0 0, .int .i64 0, .int .i64 0, .bool false, .slice (some ⟨v2.heap.size, 0, none⟩) 1 1] 25)).heap.size ((v2.alloc (.cells #[.int .i64 k0, .string ch0, .bool nt0, .slice rA0 rl0 rc0, .int .i64 mi0, .int .i64 ma0, .bool lz0, .slice kA0 kl0 kc0] 25)).alloc (.cells #[.int .i64 6, .string ⟨#[]⟩, .bool false, .slice none 0 0, .int .i64 0, .int .i64 0, .bool false, .slice (some ⟨v2.heap.size, 0, none⟩) 1 1] 25)) w') from by
    have hk9 := ksat_below HK9.out (bl_alloc (bl_refl _) (.cells #[.int .i64 6, .string ⟨#[]⟩, .bool false, .slice none 0 0, .int .i64 0, .int .i64 0, .bool false, .slice (some ⟨v2.heap.size, 0, none⟩) 1 1] 25))
    have hkb := ks_lit (w := v2.alloc (.cells #[.int .i64 k0, .string ch0, .bool nt0, .slice rA0 rl0 rc0, .int .i64 mi0, .int .i64 ma0, .bool lz0, .slice kA0 kl0 kc0] 25)) (l := [gpR 6 (.slice (some ⟨v2.heap.size, 0, none⟩) 1 1) t0]) (n := 1) rfl (by decide) #[.int .i64 6, .string ⟨#[]⟩, .bool false, .slice none 0 0, .int .i64 0, .int .i64 0, .bool false, .slice (some ⟨v2.heap.size, 0, none⟩) 1 1] rfl
    rw [show (v2.alloc (.cells #[.int .i64 k0, .string ch0, .bool nt0, .slice rA0 rl0 rc0, .int .i64 mi0, .int .i64 ma0, .bool lz0, .slice kA0 kl0 kc0] 25)).heap.size = v2.heap.size + 1 by simp] at hkb
    refine show_of (t := lzR (.slice (some ⟨v2.heap.size + 1, 0, none⟩) 1 1) (gpR 6 (.slice (some ⟨v2.heap.size, 0, none⟩) 1 1) t0)) HTAB.out (HV2b.out _ _) (.mk _ (.inl ⟨rfl, rfl⟩) hkb (fun i hi => ?_)) (HLZ3.out _ _).1 (by have := (HLZ3.out (.slice (some ⟨v2.heap.size + 1, 0, none⟩) 1 1) (.slice (some ⟨v2.heap.size, 0, none⟩) 1 1)).2.2; omega) ((⟨#[40, 63, 58]⟩ : ByteArray) ++ A ++ (⟨#[41, 63, 63]⟩ : ByteArray)) (by rw [(HLZ3.out _ _).2.1, dat_app, dat_app, HAD.out])
    have : i = 0 := by simpa [lzR, Rt.kids] using hi
    subst this
    refine .mk _ (.inl ⟨rfl, rfl⟩) hk9 (fun i hi => ?_)
    have : i = 0 := by simpa [lzR, gpR, Rt.kids] using hi
    subst this
    exact rx_below HX0.out (HV2b.out _ _))
  go_wp2_with fail
  refine HCQ.out.mono ?_
  rintro e v3 ⟨rfl, hv3⟩
  have HV3 := hide (bl_trans (HV2b.out _ _) hv3)
  clear hv3 a0 a1 a2 a3 a4 a5 a6 a7 HCQ HK9
  have u1 : ((⟨#[40]⟩ : ByteArray) ++ A).size ≤ 2000 := by rw [ByteArray.size_append]; show 1 + _ ≤ _; omega
  have u2 : ((⟨#[40]⟩ : ByteArray) ++ A ++ (⟨#[41]⟩ : ByteArray)).size ≤ 2001 := by rw [ByteArray.size_append]; show _ + 1 ≤ _; omega
  have u3 : ((⟨#[40, 63, 58]⟩ : ByteArray) ++ A).size ≤ 2000 := by rw [ByteArray.size_append]; show 3 + _ ≤ _; omega
  have u4 : ((⟨#[40, 63, 58]⟩ : ByteArray) ++ A ++ (⟨#[41, 63, 63]⟩ : ByteArray)).size ≤ 2003 := by rw [ByteArray.size_append]; show _ + 3 ≤ _; omega
  go_wp2_with fail
  refine (HAW.out _ HV3.out).mono ?_
  rintro e wz ⟨rfl, hbz⟩
  have HBZ := hide (bl_trans HV3.out hbz)
  clear hbz u1 u2 u3 u4
  go_wp2
  go_ret
  exact ⟨rfl, HBZ.out⟩

set_option maxRecDepth 100000 in
theorem lifted (os : Os) (started : os.Started) (H : Type) (enc : TypeId × Value → H) :
    ReturnsInHanded {} Tryd.checked os 4 .any (fun w args => (Rows.showPartsSpec.pre enc Tryd.prog Tryd.f4 Rows.showPartsRow.domain false w args ∧ laidMetH Tryd.prog Rows.showPartsRow.laid w) ∧ sizedMet enc Tryd.prog Tryd.f4 (OpenSpec.ofChange Rows.showPartsSpec) false w args) (Rows.showPartsSpec.post enc Tryd.prog Tryd.f4 false true false false) := by
  refine returnsInHanded_of_change_and (C := Tryd.checked) (X := fun w _ => laidMetH Tryd.prog Rows.showPartsRow.laid w) (fun _ _ _ hh h => h.of_heap hh) own started (by kernel_rfl) Tryd.func4
    (ChangeSpec.witness_shaped (enc := enc) (C := Tryd.checked) (os := os) (X := fun w _ => laidMetH Tryd.prog Rows.showPartsRow.laid w) false (World.laidAll Tryd.prog os Rows.showPartsRow.laid) #[.agg #[.int .i64 0, .string ByteArray.empty, .bool false, .slice none 0 0, .int .i64 0, .int .i64 0, .bool false, .slice none 0 0], .agg #[.int .i64 0, .string ByteArray.empty, .bool false, .slice none 0 0, .int .i64 0, .int .i64 0, .bool false, .slice none 0 0]] 8 (World.laidAll_os _ _ _)
      (World.shaped_of_ZipB (by kernel_rfl) (by kernel_rfl)) (by kernel_rfl) (by kernel_rfl) (by kernel_rfl)
      (by rw [MakeChecks.laidMetH_plain _ _ _ (by kernel_rfl)]; exact laidMet_laidAll _ (by kernel_rfl) (by kernel_rfl))) ?_
  intro W base args ds gs before hval0 hW hcnd _ hL _
  have hval : ∀ (j : Nat) t v, Tryd.f4.params[j]? = some t → args[j]? = some v → Value.okWide Tryd.prog W .any base t v := hval0
  have hW' := hW
  obtain ⟨p, q, hA0, hV, rfl, hfz, hnd⟩ := hW
  have hA : DataW.TrodAll enc Tryd.prog W 0 (fun _ => true) true Tryd.f4.params.toList args.toList ds p := hA0
  rw [Tryd.params4] at hA hval
  obtain ⟨v0, vs0, d0, ds0, p0, q0, hargs, rfl, rfl, h0, r0⟩ := trodAll_cons hA
  obtain ⟨v1, vs1, d1, ds1, p1, q1, rfl, rfl, rfl, h1, r1⟩ := trodAll_cons r0
  obtain ⟨rfl, rfl, rfl⟩ := trodAll_nil r1
  obtain rfl : args = #[v0, v1] := by cases args; simp_all
  obtain ⟨rfl, rfl⟩ := trodVars_none hV
  have k0 := h0
  have lt0 : ∀ x ∈ p0, x.block < W.heap.size := by obtain ⟨m, hm⟩ := k0; exact DataW.trod_lt m _ _ _ hm
  obtain ⟨t0, rfl, w0, b0⟩ := open_rx (hval 0 25 v0 rfl rfl) h0
  have k1 := h1
  have lt1 : ∀ x ∈ p1, x.block < W.heap.size := by obtain ⟨m, hm⟩ := k1; exact DataW.trod_lt m _ _ _ hm
  obtain ⟨t1, rfl, w1, b1⟩ := open_rx (hval 1 25 v1 rfl rfl) h1
  clear hA0 hval0
  refine (walk t0 t1 W w0 b0 w1 b1 hL).mono fun e W' ⟨he, bel⟩ => ?_
  subst he
  exact ⟨_, rfl, _, _, _, [], _, [], hW', trodAll_mk1 (shut_bool Tryd.underlying4 _), (trodAll_cons_mk (Below.trod laidOut (by kernel_rfl) (of_decide_eq_true (by kernel_rfl)) k0 bel lt0) (trodAll_cons_mk (Below.trod laidOut (by kernel_rfl) (of_decide_eq_true (by kernel_rfl)) k1 bel lt1) trodAll_mk0)), rfl, bel.frame _, fun h => by cases h⟩

theorem over : Rows.showPartsRow.holds Tryd.pinned (OpenSpec.ofChange Rows.showPartsSpec) :=
  OpenClaim.holds_of_wide 4 Tryd.f4 rfl rfl rfl rfl rfl rfl rfl ⟨rfl, rfl, rfl, rfl, rfl⟩ rfl rfl rfl rfl rfl (by kernel_rfl) Tryd.func4 (by kernel_rfl)
    (of_decide_eq_true (by kernel_rfl)) (by unfold Func.isWrapper; first | (rw [if_pos (by decide +kernel)]; kernel_rfl) | (rw [if_neg (by decide +kernel)]; exact ⟨rfl, rfl⟩))
    (fun os started H enc _ => lifted os started H enc)

set_option maxRecDepth 100000 in
theorem proved : Rows.ShowPartsCardSaid :=
  Claim7.holds_tied_plain_at .later [] [.data, .data, .data] true (true, "5f8b7e080724bfa6da048938558aad72fafb59dbed73610bee2d8fe9f8ba4dcb") false
    over (fun _ h => by cases h) (by kernel_rfl) (fun _ h => by cases h) showParts_row_tie rfl ⟨rfl, rfl⟩ (by kernel_rfl) rfl
    (fun f fn hf hfn => by
      obtain rfl : f = 4 := Option.some.inj ((show Tryd.prog.funcNamed "gimlet/gimletlaw15.ShowParts" = some 4 by kernel_rfl).symm.trans hf) |>.symm
      obtain rfl : fn = Tryd.f4 := (Option.some.inj (Tryd.func4.symm.trans hfn)).symm
      refine ⟨by kernel_rfl, fun j t ht => ?_⟩
      rw [Tryd.params4] at ht
      have hm := Array.mem_of_getElem? ht
      simp at hm
      first
        | (rcases hm with rfl <;> first  | exact (show Tryd.prog.wantsStandIn 25 = false by kernel_rfl))
        | (rcases hm with rfl | rfl <;> first  | exact (show Tryd.prog.wantsStandIn 25 = false by kernel_rfl)))
    (by kernel_rfl)
end Go.Proofs.YtmacpmblodhcpaaDoor.showParts
