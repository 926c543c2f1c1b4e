/- Groups within one another are let up to MaxGroups, parts up to twice MaxRx, and no more. Conditions: none beyond the form's own. -/
import Derived.Test.YtmfaeonlmfejdaaRows
import Derived.Test.YtmfaeonlmfejdaaArgs
import Derived.Test.YtmfaeonlmfejdaaRyJ
import Derived.Test.YtmfaeonlmfejdaaLow
import Derived.Deep.RegionLaw
import Derived.RegionTactic
namespace Go.Proofs.Ytmfaeonlmfejdaa.treeLimits
open Go.Proofs.Ytmfaeonlmfejdaa
open Go.ChangeShapes Go.WideShapes Go.ChangeAt Go.RowKit Go.Deep
open Go.ChangeMaps (open_string shut_string)
set_option linter.unusedVariables false

theorem own : ownKnob Try.prog.godebug = none := by kernel_rfl
theorem laidOut : laidOutB Try.prog = true := by kernel_rfl
open SetM
attribute [local go_sem ↓] Go.wp_at_zero Go.wp_at_succ
theorem low5 (x : Int) (n : Nat) (w : World) (h : lowN x 5 = n) : Calls Try.prog 27 #[.int .i64 x, .int .i64 5] w fun e w' => e = .returned (.int .i64 (n : Int)) ∧ w = w' := by
  subst h; exact low_any x 5 w (by decide) (by decide)
set_option maxRecDepth 100000 in
set_option maxHeartbeats 1000000 in
theorem walk (a0 : Int) (a1 : Bool) (a2 : Int) (w : World) (w0 : (Lit.int .i64 a0).wf = true) (w2 : (Lit.int .i64 a2).wf = true) :
    Calls Try.prog 8 #[.int .i64 a0, .bool a1, .int .i64 a2] w fun e w' => e = .returned (.bool true) ∧ Below w.heap.size w w' := by
  obtain ⟨p, hp⟩ : ∃ p, lowN a0 5 = p := ⟨_, rfl⟩
  obtain ⟨q, hq⟩ : ∃ q, lowN a2 5 = q := ⟨_, rfl⟩
  have hp5 : p < 5 := by rw [← hp]; exact lowN_lt _ _ (by decide)
  have hq5 : q < 5 := by rw [← hq]; exact lowN_lt _ _ (by decide)
  obtain ⟨N, hN⟩ : ∃ N, 14 + p = N := ⟨_, rfl⟩
  obtain ⟨M, hM⟩ : ∃ M, 509 + q = M := ⟨_, rfl⟩
  have HP := hide hp
  have HQ := hide hq
  have e1 : IntKind.i64.wrap (14 + (p : Int)) = (N : Int) := by rw [IntKind.wrap_i64]; omega
  have e2 : IntKind.i64.wrap (509 + (q : Int)) = (M : Int) := by rw [IntKind.wrap_i64]; omega
  have HNN := hide (show 14 ≤ N ∧ N ≤ 18 ∧ 509 ≤ M ∧ M ≤ 513 by omega)
  have E2 := hide e2
  clear hp hq hN hM hp5 hq5 e2
  go_enter Try.func8, Try.ntmps8
  go_wp2_with fail
  refine (low5 _ p _ HP.out).mono ?_
  rintro e _ ⟨rfl, rfl⟩
  go_wp2_with fail
  refine (char13_v 97 _).mono ?_
  rintro e w1 ⟨rfl, hb1⟩
  have HB1 := hide (bl_alloc hb1 (.cells #[.int .i64 2, .string ⟨#[97]⟩, .bool false, .slice none 0 0, .int .i64 0, .int .i64 0, .bool false, .slice none 0 0] 25))
  have HSZ := hide hb1.size
  have HNI := hide (show NInv (w1.alloc (.cells #[.int .i64 2, .string ⟨#[97]⟩, .bool false, .slice none 0 0, .int .i64 0, .int .i64 0, .bool false, .slice none 0 0] 25)) w1.heap.size a1 0 from ⟨lA, fun j u hu => lit_at w1 _ 25 j u hu, lf_rx _ _, .mk _ (frv_nil _) (frv_nil _) (fun x hx => by cases hx), er_lf _, by simp, fun o => by go_simp⟩)
  clear hb1 e1
  go_wp2
  go_loopw [9] (fun i wr => ∃ k : Nat, i = .int .i64 k ∧ k ≤ N ∧ Hid (Below w.heap.size w wr) ∧ Hid (NInv wr w1.heap.size a1 k)) (fun i _ => N - (intOf i).toNat)
  case atStart => exact ⟨0, rfl, Nat.zero_le _, HB1, HNI⟩
  case round =>
    obtain ⟨k, rfl, hk, HBL, HNK⟩ := hrel
    by_cases hlt : k < N
    case pos =>
      obtain ⟨t, hc, hx, hf, he, hB, hz⟩ := HNK.out
      obtain ⟨rA, rc, kA, kc, hr, hkv, hv⟩ := rx_v hx
      have c0 := hc 0 _ rfl
      have c1 := hc 1 _ rfl
      have c2 := hc 2 _ rfl
      have c3 := hc 3 _ rfl
      have c4 := hc 4 _ rfl
      have c5 := hc 5 _ rfl
      have c6 := hc 6 _ rfl
      have c7 := hc 7 _ rfl
      rw [hr] at c3
      rw [hkv] at c7
      have HST := hide (fun o kk hkk => nest_step hr hkv hc hx hf he hB hz o kk hkk)
      have HBB := hide (fun o1 o2 u0 u1 u2 u3 u4 u5 u6 u7 => nest_bl HBL.out HSZ.out o1 o2 u0 u1 u2 u3 u4 u5 u6 u7)
      have gl : decide ((k : Int) < (N : Int)) = true := decide_eq_true (by omega)
      have gl' : decide (k < N) = true := decide_eq_true hlt
      have e5 : IntKind.i64.wrap ((k : Int) + 1) = (k : Int) + 1 := by have := HNN.out; rw [IntKind.wrap_i64]; omega
      have HK1 := hide (show k + 1 ≤ N by omega)
      have h0 := hz 0
      have h1 := hz 1
      have h2 := hz 2
      have h3 := hz 3
      have h4 := hz 4
      have h5 := hz 5
      have h6 := hz 6
      have h7 := hz 7
      clear hc hx hf he hr hkv hv hz
      cases a1 with
      | false =>
        have HS2 := hide (fun o => HST.out o 5 rfl)
        clear HST
        go_wp2
        refine ⟨?_, by first | (simp [intOf]; done) | (simp [intOf]; omega)⟩
        exact ⟨k + 1, by go_num, HK1.out, hide (HBB.out _ _ _ _ _ _ _ _ _ _), hide (HS2.out _)⟩
      | true =>
        by_cases hk2 : k % 2 = 0
        · have HS2 := hide (fun o => HST.out o 6 (by rw [decide_eq_true hk2]; rfl))
          have em : (k : Int).tmod 2 = 0 := by rw [Int.tmod_eq_emod_of_nonneg (by omega)]; omega
          have em2 : ((k % 2 : Nat) : Int) = 0 := by omega
          clear HST
          go_wp2
          refine ⟨?_, by first | (simp [intOf]; done) | (simp [intOf]; omega)⟩
          exact ⟨k + 1, by go_num, HK1.out, hide (HBB.out _ _ _ _ _ _ _ _ _ _), hide (HS2.out _)⟩
        · have HS2 := hide (fun o => HST.out o 5 (by rw [decide_eq_false hk2]; rfl))
          have em : (k : Int).tmod 2 = 1 := by rw [Int.tmod_eq_emod_of_nonneg (by omega)]; omega
          have em2 : ((k % 2 : Nat) : Int) = 1 := by omega
          clear HST
          go_wp2
          refine ⟨?_, by first | (simp [intOf]; done) | (simp [intOf]; omega)⟩
          exact ⟨k + 1, by go_num, HK1.out, hide (HBB.out _ _ _ _ _ _ _ _ _ _), hide (HS2.out _)⟩
    case neg =>
      obtain rfl : k = N := by omega
      have gl : decide ((k : Int) < (k : Int)) = false := by simp
      have gl' : decide (k < k) = false := by simp
      rename World => wr0
      obtain ⟨t, hc, hx, hf, he, hB, hz⟩ := HNK.out
      have HCX := hide hc
      have HRX := hide hx
      have HE := hide he
      have hba := bl_alloc (bl_refl wr0) (.cells #[.int .i64 0, .string ⟨#[]⟩, .bool false, .slice none 0 0, .int .i64 0, .int .i64 0, .bool false, .slice none 0 0] 25)
      have HY0 := hide (show YInv (wr0.alloc (.cells #[.int .i64 0, .string ⟨#[]⟩, .bool false, .slice none 0 0, .int .i64 0, .int .i64 0, .bool false, .slice none 0 0] 25)) wr0.heap.size (.slice none 0 0) 0 from ⟨lit_at wr0 _ _ 0 _ rfl, lit_at wr0 _ _ 1 _ rfl, lit_at wr0 _ _ 2 _ rfl, lit_at wr0 _ _ 3 _ rfl, lit_at wr0 _ _ 4 _ rfl, lit_at wr0 _ _ 5 _ rfl, lit_at wr0 _ _ 6 _ rfl, lit_at wr0 _ _ 7 _ rfl, fun o => by go_simp, World.ownsRow_nil _ _ _ _⟩)
      have HBY := hide hba
      clear hc hx hf he hB hz hlt hba HNK
      go_wp2_with fail
      refine (low5 _ q _ HQ.out).mono ?_
      rintro e _ ⟨rfl, rfl⟩
      have e2 := E2.out
      go_wp2
      clear gl gl' e2
      go_loopw [13] (fun i wq => ∃ (m : Nat) (v : Value), i = .int .i64 m ∧ m ≤ M ∧ Hid (Below wr0.heap.size wr0 wq) ∧ Hid (YInv wq wr0.heap.size v m)) (fun i _ => M - (intOf i).toNat)
      case atStart => exact ⟨0, _, rfl, Nat.zero_le _, HBY, HY0⟩
      case round =>
        obtain ⟨m, v, rfl, hm, HBQ, HY⟩ := hrel
        by_cases hlt : m < M
        case pos =>
          obtain ⟨i0, hi0, hz0', hz1, hz2⟩ := info_parts info_rx
          have HYB := hide (show wr0.heap.size < wr.heap.size from World.block_lt_of_cell? wr ⟨wr0.heap.size, 0, none⟩ HY.out.a0)
          obtain ⟨A, cc, rfl⟩ := own_slice HY.out.own
          have y7 := HY.out.a7
          have hfz := HY.out.f 7
          have gl : decide ((m : Int) < (M : Int)) = true := decide_eq_true (by omega)
          have gl' : decide (m < M) = true := decide_eq_true hlt
          have e5 : IntKind.i64.wrap ((m : Int) + 1) = (m : Int) + 1 := by have := HNN.out; rw [IntKind.wrap_i64]; omega
          have HK1 := hide (show m + 1 ≤ M by omega)
          have hm5 : m ≤ 600 := by have := HNN.out; omega
          go_wp2
          go_region_law (first
            | (go_simp; go_at_call 28; refine (char13_v 98 _).mono ?_; rintro e w5 ⟨rfl, hb5⟩; have hbw5 := bl_trans (show Below wr.heap.size wr _ from bl_drew (bl_refl wr)) hb5; have y75 := cell_later hbw5 y7; have hq5 : wr0.heap.size < w5.heap.size := Nat.lt_of_lt_of_le HYB.out hbw5.size)
            | (refine step_append_lies _ (by rfl) (.tmp 44) (.tmp 46) 23 (by rfl) (wr0.heap.size + 1) 25 i0 rt0.v 8 104 Try.underlying23 hi0 hz0' hz1 hz2 rfl (by decide) (.slice A m cc) m (flatX (List.replicate m lB)) (by rfl) (own_below HY.out.own (bl_alloc hbw5 _)) ⟨w5.heap.size, 0, none⟩ 1 1 [.int .i64 2, .string ⟨#[98]⟩, .bool false, .slice none 0 0, .int .i64 0, .int .i64 0, .bool false, .slice none 0 0] (by rfl) (by rfl) (World.news_of_block (heap_alloc_new w5 _)) (by simp [Value.oneCell']) (by decide) (by unfold maxLen; omega) (by omega) (by have h11 := hbw5.size; have h12 := HYB.out; simp; omega) (w5.heap.size + 1) (by simp) ?_; intro g3 cap3 w8 ho8 hg8 ha8 hlt8; obtain ⟨kf, k7, HYN, HBN⟩ := yinv_app HY.out HBQ.out (bl_alloc hbw5 _) hg8 ho8))
          all_goals
            have HYN2 := hide HYN
            have HBN2 := hide HBN
            clear HYN HBN
            clear ho8 hg8 ha8 hlt8 hb5 hbw5 y75 y7 hfz kf k7 hm5 hq5
            go_wp2
            refine ⟨?_, by first | (simp [intOf]; done) | (simp [intOf]; omega)⟩
            exact ⟨m + 1, _, by go_num, HK1.out, HBN2, HYN2⟩
        case neg =>
          obtain rfl : m = M := by omega
          have gl : decide ((m : Int) < (m : Int)) = false := by simp
          have gl' : decide (m < m) = false := by simp
          obtain ⟨rA, rc, kA, kc, hr, hkv, hv⟩ := rx_v HRX.out
          obtain ⟨A, cc, rfl⟩ := own_slice HY.out.own
          have FX := hide (fun W (hb : Below wr.heap.size wr W) j u (hu : ([.int .i64 t.k, .string t.ch, .bool t.nt, .slice rA t.rows.length rc, .int .i64 t.mi, .int .i64 t.ma, .bool t.lz, .slice kA t.kids.length kc] : List Value)[j]? = some u) => (show W.cell? ⟨w1.heap.size, j, none⟩ = some u from cell_later (bl_trans HBQ.out hb) (HCX.out j u (by unfold Rt.cs; rw [hr, hkv]; exact hu))))
          have hdm : dM t = k := by rw [← dM_er, HE.out, nest_d]
          have hpm : pM t = k + 1 := by rw [← pM_er, HE.out, nest_p]
          have hsm : sM t = k + 2 := by rw [← sM_er, HE.out, nest_s]
          have hcn := cn_nest HE.out
          obtain ⟨b1, hb1⟩ : ∃ x, decide ((k : Int) ≤ 16) = x := ⟨_, rfl⟩
          obtain ⟨b2, hb2⟩ : ∃ x, decide ((m : Int) + 1 ≤ 512) = x := ⟨_, rfl⟩
          have hcn2 : cnB t 16 512 = b1 := by
            rw [hcn, ← hb1, decide_eq_true (show k + 1 ≤ 512 by have := HNN.out; omega), Bool.and_true]
            exact decide_eq_decide.2 (by omega)
          have hcr : cnB (rowM (.slice A m cc) m) 16 512 = b2 := by
            rw [cn_row _ _ (by have := HNN.out; omega), ← hb2]
            exact decide_eq_decide.2 (by omega)
          have hvy : (rowM (.slice A m cc) m).v = .agg #[.int .i64 0, .string ⟨#[]⟩, .bool false, .slice none 0 0, .int .i64 0, .int .i64 0, .bool false, .slice A m cc] := rfl
          have HD := hide (fun W (hb : Below wr.heap.size wr W) => (show Calls Try.prog 17 #[.agg #[.int .i64 t.k, .string t.ch, .bool t.nt, .slice rA t.rows.length rc, .int .i64 t.mi, .int .i64 t.ma, .bool t.lz, .slice kA t.kids.length kc]] W (fun e w' => e = .returned (.int .i64 k) ∧ Below W.heap.size W w') from by
            have := deep_any HRX.out (by rw [hpm]; have := HNN.out; omega) W (bl_trans HBQ.out hb)
            rw [hv, hdm] at this
            exact this))
          have HM := hide (fun W (hb : Below wr.heap.size wr W) => (show Calls Try.prog 11 #[.agg #[.int .i64 t.k, .string t.ch, .bool t.nt, .slice rA t.rows.length rc, .int .i64 t.mi, .int .i64 t.ma, .bool t.lz, .slice kA t.kids.length kc]] W (fun e w' => e = .returned (.bool b1) ∧ Below W.heap.size W w') from by
            have := rxmay_any HRX.out (by rw [hsm]; have := HNN.out; omega) W (bl_trans HBQ.out hb)
            rw [hv, hcn2] at this
            exact this))
          have HPY := hide (fun W (hb : Below wr.heap.size wr W) => (show Calls Try.prog 13 #[.agg #[.int .i64 0, .string ⟨#[]⟩, .bool false, .slice none 0 0, .int .i64 0, .int .i64 0, .bool false, .slice A m cc]] W (fun e w' => e = .returned (.int .i64 ((m : Int) + 1)) ∧ Below W.heap.size W w') from by
            have := parts_any (yinv_rx HY.out) (by rw [row_p]; have := HNN.out; omega) W hb
            rw [hvy, row_p] at this
            exact this))
          have HMY := hide (fun W (hb : Below wr.heap.size wr W) => (show Calls Try.prog 11 #[.agg #[.int .i64 0, .string ⟨#[]⟩, .bool false, .slice none 0 0, .int .i64 0, .int .i64 0, .bool false, .slice A m cc]] W (fun e w' => e = .returned (.bool b2) ∧ Below W.heap.size W w') from by
            have := rxmay_any (yinv_rx HY.out) (by rw [row_s]; have := HNN.out; omega) W hb
            rw [hvy, hcr] at this
            exact this))
          have e6 : IntKind.i64.wrap ((m : Int) + 1) = (m : Int) + 1 := by have := HNN.out; rw [IntKind.wrap_i64]; omega
          have hb1' : decide (k ≤ 16) = b1 := by rw [← hb1]; exact decide_eq_decide.2 (by omega)
          have hbb : b1 = b1 := rfl
          clear hdm hpm hsm hcn hcn2 hcr hvy hlt hm
          have k0 : wr.cell? ⟨w1.heap.size, 0, none⟩ = some (.int .i64 t.k) := FX.out wr (bl_refl wr) 0 _ rfl
          have k1 : wr.cell? ⟨w1.heap.size, 1, none⟩ = some (.string t.ch) := FX.out wr (bl_refl wr) 1 _ rfl
          have k2 : wr.cell? ⟨w1.heap.size, 2, none⟩ = some (.bool t.nt) := FX.out wr (bl_refl wr) 2 _ rfl
          have k3 : wr.cell? ⟨w1.heap.size, 3, none⟩ = some (.slice rA t.rows.length rc) := FX.out wr (bl_refl wr) 3 _ rfl
          have k4 : wr.cell? ⟨w1.heap.size, 4, none⟩ = some (.int .i64 t.mi) := FX.out wr (bl_refl wr) 4 _ rfl
          have k5 : wr.cell? ⟨w1.heap.size, 5, none⟩ = some (.int .i64 t.ma) := FX.out wr (bl_refl wr) 5 _ rfl
          have k6 : wr.cell? ⟨w1.heap.size, 6, none⟩ = some (.bool t.lz) := FX.out wr (bl_refl wr) 6 _ rfl
          have k7 : wr.cell? ⟨w1.heap.size, 7, none⟩ = some (.slice kA t.kids.length kc) := FX.out wr (bl_refl wr) 7 _ rfl
          go_wp2_with fail
          refine (HD.out _ (bl_refl wr)).mono ?_
          rintro e x1 ⟨rfl, hx1⟩
          have HX1 := hide hx1
          clear hx1
          clear k0 k1 k2 k3 k4 k5 k6 k7
          have k0 : x1.cell? ⟨w1.heap.size, 0, none⟩ = some (.int .i64 t.k) := FX.out x1 HX1.out 0 _ rfl
          have k1 : x1.cell? ⟨w1.heap.size, 1, none⟩ = some (.string t.ch) := FX.out x1 HX1.out 1 _ rfl
          have k2 : x1.cell? ⟨w1.heap.size, 2, none⟩ = some (.bool t.nt) := FX.out x1 HX1.out 2 _ rfl
          have k3 : x1.cell? ⟨w1.heap.size, 3, none⟩ = some (.slice rA t.rows.length rc) := FX.out x1 HX1.out 3 _ rfl
          have k4 : x1.cell? ⟨w1.heap.size, 4, none⟩ = some (.int .i64 t.mi) := FX.out x1 HX1.out 4 _ rfl
          have k5 : x1.cell? ⟨w1.heap.size, 5, none⟩ = some (.int .i64 t.ma) := FX.out x1 HX1.out 5 _ rfl
          have k6 : x1.cell? ⟨w1.heap.size, 6, none⟩ = some (.bool t.lz) := FX.out x1 HX1.out 6 _ rfl
          have k7 : x1.cell? ⟨w1.heap.size, 7, none⟩ = some (.slice kA t.kids.length kc) := FX.out x1 HX1.out 7 _ rfl
          go_wp2_with fail
          refine (HM.out _ HX1.out).mono ?_
          rintro e x2 ⟨rfl, hx2⟩
          have HX2 := hide (bl_trans HX1.out hx2)
          clear hx2
          clear k0 k1 k2 k3 k4 k5 k6 k7
          have k0 := cell_later HX2.out HY.out.a0
          have k1 := cell_later HX2.out HY.out.a1
          have k2 := cell_later HX2.out HY.out.a2
          have k3 := cell_later HX2.out HY.out.a3
          have k4 := cell_later HX2.out HY.out.a4
          have k5 := cell_later HX2.out HY.out.a5
          have k6 := cell_later HX2.out HY.out.a6
          have k7 := cell_later HX2.out HY.out.a7
          go_wp2_with fail
          refine (HPY.out _ HX2.out).mono ?_
          rintro e x3 ⟨rfl, hx3⟩
          have HX3 := hide (bl_trans HX2.out hx3)
          clear hx3
          clear k0 k1 k2 k3 k4 k5 k6 k7
          have k0 := cell_later HX3.out HY.out.a0
          have k1 := cell_later HX3.out HY.out.a1
          have k2 := cell_later HX3.out HY.out.a2
          have k3 := cell_later HX3.out HY.out.a3
          have k4 := cell_later HX3.out HY.out.a4
          have k5 := cell_later HX3.out HY.out.a5
          have k6 := cell_later HX3.out HY.out.a6
          have k7 := cell_later HX3.out HY.out.a7
          go_wp2_with fail
          refine (HMY.out _ HX3.out).mono ?_
          rintro e x4 ⟨rfl, hx4⟩
          have HX4 := hide (bl_trans HX3.out hx4)
          clear hx4
          clear k0 k1 k2 k3 k4 k5 k6 k7
          go_wp2_with fail
          refine (awake13_any _).mono ?_
          rintro e x5 ⟨rfl, hx5⟩
          have HX5 := hide (bl_trans HBL.out (bl_trans HBQ.out (bl_trans HX4.out hx5)))
          clear hx5
          go_wp2
          go_ret
          exact ⟨rfl, HX5.out⟩

set_option maxRecDepth 100000 in
theorem lifted (os : Os) (started : os.Started) (H : Type) (enc : TypeId × Value → H) :
    ReturnsInHanded {} Try.checked os 8 .any (Rows.treeLimitsSpec.pre6 enc Try.prog Try.f8 Rows.treeLimitsRow.domain false) (Rows.treeLimitsSpec.post enc Try.prog Try.f8 false true false false) := by
  refine returnsInHanded_of_change (C := Try.checked) own started (by kernel_rfl) Try.func8
    (ChangeSpec.witness6 (enc := enc) (C := Try.checked) false ⟨#[], #[.int .i64 0, .bool false, .int .i64 0], []⟩ 8 (by kernel_rfl) (by kernel_rfl) (by kernel_rfl) (by kernel_rfl)) ?_
  intro W base args ds gs before hval0 hW hcnd _
  have hval : ∀ (j : Nat) t v, Try.f8.params[j]? = some t → args[j]? = some v → Value.okWide Try.prog W .any base t v := hval0
  have hW' := hW
  obtain ⟨p, q, hA0, hV, rfl, hfz, hnd⟩ := hW
  have hA : DataW.TrodAll enc Try.prog W 0 (fun _ => true) true Try.f8.params.toList args.toList ds p := hA0
  rw [Try.params8] at hA hval
  obtain ⟨v0, vs0, d0, ds0, p0, q0, hargs, rfl, rfl, h0, r0⟩ := trodAll_cons hA
  obtain ⟨v1, vs1, d1, ds1, p1, q1, rfl, rfl, rfl, h1, r1⟩ := trodAll_cons r0
  obtain ⟨v2, vs2, d2, ds2, p2, q2, rfl, rfl, rfl, h2, r2⟩ := trodAll_cons r1
  obtain ⟨rfl, rfl, rfl⟩ := trodAll_nil r2
  obtain rfl : args = #[v0, v1, v2] := by cases args; simp_all
  obtain ⟨rfl, rfl⟩ := trodVars_none hV
  have k0 := h0
  have lt0 : ∀ x ∈ p0, x.block < W.heap.size := by obtain ⟨m, hm⟩ := k0; exact DataW.trod_lt m _ _ _ hm
  obtain ⟨a0, rfl, hd0, hp0, w0⟩ := open_int Try.underlying3 (hval 0 3 v0 rfl rfl) h0
  have k1 := h1
  have lt1 : ∀ x ∈ p1, x.block < W.heap.size := by obtain ⟨m, hm⟩ := k1; exact DataW.trod_lt m _ _ _ hm
  obtain ⟨a1, rfl, hd1, hp1⟩ := open_bool Try.underlying4 (hval 1 4 v1 rfl rfl) h1
  have k2 := h2
  have lt2 : ∀ x ∈ p2, x.block < W.heap.size := by obtain ⟨m, hm⟩ := k2; exact DataW.trod_lt m _ _ _ hm
  obtain ⟨a2, rfl, hd2, hp2, w2⟩ := open_int Try.underlying3 (hval 2 3 v2 rfl rfl) h2
  clear hA0 hval0
  refine (walk a0 a1 a2 W w0 w2).mono fun e W' ⟨he, bel⟩ => ?_
  subst he
  exact ⟨_, rfl, _, _, _, [], _, [], hW', trodAll_mk1 (shut_bool Try.underlying4 _), (trodAll_cons_mk (Below.trod laidOut (by kernel_rfl) (of_decide_eq_true (by kernel_rfl)) k0 bel lt0) (trodAll_cons_mk (Below.trod laidOut (by kernel_rfl) (of_decide_eq_true (by kernel_rfl)) k1 bel lt1) (trodAll_cons_mk (Below.trod laidOut (by kernel_rfl) (of_decide_eq_true (by kernel_rfl)) k2 bel lt2) trodAll_mk0))), rfl, bel.frame _, fun h => by cases h⟩

theorem over : Rows.treeLimitsRow.holds Try.pinned (OpenSpec.ofChange Rows.treeLimitsSpec) :=
  OpenClaim.holds_of_wide 8 Try.f8 rfl rfl rfl rfl rfl rfl rfl ⟨rfl, rfl, rfl, rfl, rfl⟩ rfl rfl rfl rfl rfl (by kernel_rfl) Try.func8 (by kernel_rfl)
    (of_decide_eq_true (by kernel_rfl)) (by unfold Func.isWrapper; first | (rw [if_pos (by decide +kernel)]; kernel_rfl) | (rw [if_neg (by decide +kernel)]; exact ⟨rfl, rfl⟩))
    (fun os started H enc _ => lifted os started H enc)

theorem proved : Rows.TreeLimitsSaid := over
end Go.Proofs.Ytmfaeonlmfejdaa.treeLimits
