/- What is read may be; it has no more groups than the text has brackets, and no more parts than twice its bytes, and one. Conditions: none beyond the form's own. -/
import Derived.Test.YtcgphknnnjpbkaaRows
import Derived.Test.YtcgphknnnjpbkaaArgs
import Derived.Test.YtcgphknnnjpbkaaPaY
namespace Go.Proofs.Ytcgphknnnjpbkaa.readMay
open Go.Proofs.Ytcgphknnnjpbkaa
open Go.ChangeShapes Go.WideShapes Go.ChangeAt Go.RowKit Go.Deep
open Go.ChangeMaps (open_string shut_string)
set_option linter.unusedVariables false

theorem own : ownKnob Try.prog.godebug = none := by kernel_rfl
theorem laidOut : laidOutB Try.prog = true := by kernel_rfl
open SetM
attribute [local go_sem ↓] Go.wp_at_zero Go.wp_at_succ
attribute [local go_sem] later_cell later_frozen
set_option maxRecDepth 100000 in
set_option maxHeartbeats 1000000 in
theorem walk (a0 : ByteArray) (w : World) (w0 : a0.size ≤ maxLen) :
    Calls Try.prog 4 #[.string a0] w fun e w' => e = .returned (.bool true) ∧ Below w.heap.size w w' := by
  by_cases h1 : 260 < a0.size
  case pos =>
    have g1 : decide (260 < a0.size) = true := decide_eq_true h1
    have g1' : decide (260 < (a0.size : Int)) = true := decide_eq_true (by omega)
    go_enter Try.func4, Try.ntmps4
    go_wp2_with fail
    refine (awake14_any _).mono ?_
    rintro e w1 ⟨rfl, hb1⟩
    go_wp2
    go_ret
    exact ⟨rfl, hb1⟩
  case neg =>
  have g1 : decide (260 < a0.size) = false := decide_eq_false h1
  have g1' : decide (260 < (a0.size : Int)) = false := decide_eq_false (by omega)
  rcases readP_cases a0.data.toList with ⟨n, hn, hnn⟩ | ⟨x, hx⟩
  · have HR := hide (fun W => read_any a0 (by omega) W _ hn)
    unfold RdPost at HR
    have HSM := hide (fun W => same_any (rx_leaf W rt0 rfl rfl rfl rfl) (rx_leaf W rt0 rfl rfl rfl rfl) W (bl_refl W))
    rw [sameM_refl, show rt0.v = .agg #[.int .i64 0, .string ⟨#[]⟩, .bool false, .slice none 0 0, .int .i64 0, .int .i64 0, .bool false, .slice none 0 0] from rfl] at HSM
    rw [show rt0.v = .agg #[.int .i64 0, .string ⟨#[]⟩, .bool false, .slice none 0 0, .int .i64 0, .int .i64 0, .bool false, .slice none 0 0] from rfl] at HR
    unfold SmPost at HSM
    have k0 : (n == 0) = false := by rw [Bool.eq_false_iff]; intro h; have := beq_iff_eq.1 h; omega
    clear hn hnn h1
    go_enter Try.func4, Try.ntmps4
    go_wp2_with fail
    refine (HR.out _).mono ?_
    rintro e w1 ⟨rfl, hb1⟩
    go_wp2_with fail
    refine (HSM.out _).mono ?_
    rintro e w2 ⟨rfl, hb2⟩
    go_wp2_with fail
    refine (awake14_any _).mono ?_
    rintro e w3 ⟨rfl, hb3⟩
    have HB := hide (bl_trans (bl_trans (bl_alloc hb1 _) hb2) hb3)
    clear hb1 hb2 hb3
    go_wp2
    go_ret
    exact ⟨rfl, HB.out⟩
  · obtain ⟨-, -, -, -, -, v6, v7, v8, v9, v10, v11⟩ := readP_va hx
    have HR := hide (fun W => read_any a0 (by omega) W _ hx)
    unfold RdPost at HR
    have hl : a0.data.toList.length = a0.size := Array.length_toList
    rw [hl] at v7 v10
    have HV := hide (And.intro v6 (And.intro v7 (And.intro v8 (And.intro v9 v10))))
    have HP5 := hide v11
    have HH1 := hide h1
    clear hx v6 v7 v8 v9 v10 v11 hl h1
    go_enter Try.func4, Try.ntmps4
    go_wp2_with fail
    refine (HR.out _).mono ?_
    rintro e w1 ⟨t, rfl, hb1, hrx, hfr, her⟩
    obtain ⟨tA, tc, htrv⟩ := rwat_len hrx.rows
    obtain ⟨tB, td, htkv⟩ := ksat_len hrx.ks
    have HTV := hide (show t.v = .agg #[.int .i64 t.k, .string t.ch, .bool t.nt, .slice tA t.rows.length tc, .int .i64 t.mi, .int .i64 t.ma, .bool t.lz, .slice tB t.kids.length td] by unfold Rt.v Rt.cs; rw [htrv, htkv])
    rw [HTV.out]
    have hst : sM t ≤ 100000 := by rw [← sM_er, her]; have := HV.out.2.2.2.2; have := HH1.out; omega
    have hpt : pM t = pM x := by rw [← pM_er, her]
    have hgt : gM t = gM x := by rw [← gM_er, her]
    have hcn : cnB t 16 512 = true := by
      refine cnB_of ?_ ?_ ?_
      · rw [hpt]; have := HP5.out; omega
      · rw [← dM_er, her]; have := HV.out.2.2.2.1; omega
      · rw [← okM_er, her]; exact HV.out.1
    have HM := hide (fun W hb => rxmay_any hrx hst W hb)
    have HG := hide (fun W hb => groups_any hrx (by have := pM_sM t; omega) W hb)
    have HP := hide (fun W hb => parts_any hrx (by have := pM_sM t; omega) W hb)
    rw [hcn] at HM
    rw [hpt] at HP
    rw [hgt] at HG
    unfold SmPost at HM
    rw [HTV.out] at HM HG HP
    have HB1 := hide hb1
    clear hrx hfr her htrv htkv hst hpt hgt hcn hb1
    generalize t.k = tk at *
    generalize t.ch = tch at *
    generalize t.nt = tnt at *
    generalize t.rows.length = trl at *
    generalize t.mi = tmi at *
    generalize t.ma = tma at *
    generalize t.lz = tlz at *
    generalize t.kids.length = tkl at *
    go_wp2
    go_loopw [5, 6] (fun m i wr => ∃ k : Nat, i = .int .i64 k ∧ m = .int .i64 ((a0.data.toList.take k).count 40 : Nat) ∧ k ≤ a0.size ∧ Hid (wr = w1.alloc (.cells #[.int .i64 tk, .string tch, .bool tnt, .slice tA trl tc, .int .i64 tmi, .int .i64 tma, .bool tlz, .slice tB tkl td] 26))) (fun _ i _ => a0.size - (intOf i).toNat)
    case atStart => exact ⟨0, rfl, rfl, Nat.zero_le _, hide rfl⟩
    case round =>
      obtain ⟨k, rfl, rfl, hk, HW⟩ := hrel
      have HAL := hide (bl_alloc (bl_refl w1) (.cells #[.int .i64 tk, .string tch, .bool tnt, .slice tA trl tc, .int .i64 tmi, .int .i64 tma, .bool tlz, .slice tB tkl td] 26))
      have hw := HW.out
      subst hw
      by_cases hlt : k < a0.size
      case pos =>
        have gl : decide (k < a0.size) = true := decide_eq_true hlt
        have gl' : decide ((k : Int) < (a0.size : Int)) = true := decide_eq_true (by omega)
        have i0 : (k : Int) < (a0.size : Int) := by omega
        have hsz := HH1.out
        have e5 : IntKind.i64.wrap ((k : Int) + 1) = (k : Int) + 1 := by rw [IntKind.wrap_i64]; omega
        have hel : a0.data.toList[k]? = some (a0[k]'hlt) := by rw [List.getElem?_eq_getElem (by rw [show a0.data.toList.length = a0.size from Array.length_toList]; exact hlt)]; rfl
        have hcn : (a0.data.toList.take (k + 1)).count 40 = (a0.data.toList.take k).count 40 + (if (a0[k]'hlt) = 40 then 1 else 0) := by
          rw [List.take_add_one, hel, Option.toList_some, List.count_append, List.count_singleton]
          congr 1
          by_cases h : a0[k] = 40 <;> simp [h]
        have hcb : (a0.data.toList.take k).count 40 ≤ 1000 := by
          have h1 := List.count_le_length (a := (40 : UInt8)) (l := a0.data.toList.take k)
          have h2 : (a0.data.toList.take k).length ≤ k := by rw [List.length_take]; exact Nat.min_le_left _ _
          omega
        obtain ⟨m, hm⟩ : ∃ m, (a0.data.toList.take k).count 40 = m := ⟨_, rfl⟩
        rw [hm] at hcn hcb ⊢
        have e6 : IntKind.i64.wrap ((m : Int) + 1) = (m : Int) + 1 := by rw [IntKind.wrap_i64]; omega
        have HCN := hide hcn
        clear hcn hcb hsz hel hm
        rcases hq : (a0[k]'hlt == 40) with _ | _
        · have hq1 : ((((a0[k]'hlt).toNat : Int)) == 40) = false := by
            rw [Bool.eq_false_iff] at hq ⊢
            intro h
            exact hq (beq_iff_eq.2 (UInt8.toNat_inj.1 (by have := beq_iff_eq.1 h; show _ = 40; omega)))
          have hcn2 : (a0.data.toList.take (k + 1)).count 40 = m := by rw [HCN.out, if_neg (by intro h; rw [h] at hq; cases hq)]; omega
          have HC2 := hide hcn2
          clear hq hcn2 HCN
          go_wp2
          refine ⟨?_, by simp [intOf]; omega⟩
          first
            | exact ⟨k + 1, rfl, by rw [HC2.out], by omega, hide (by first | rfl | trivial)⟩
            | exact ⟨k + 1, by simp, by rw [HC2.out], by omega, hide (by first | rfl | trivial)⟩
        · have hq1 : ((((a0[k]'hlt).toNat : Int)) == 40) = true := by
            rw [beq_iff_eq.1 hq]; decide
          have hcn2 : (a0.data.toList.take (k + 1)).count 40 = m + 1 := by rw [HCN.out, if_pos (beq_iff_eq.1 hq)]
          have HC2 := hide hcn2
          clear hq hcn2 HCN
          go_wp2
          refine ⟨?_, by simp [intOf]; omega⟩
          first
            | exact ⟨k + 1, rfl, by rw [HC2.out]; rfl, by omega, hide (by first | rfl | trivial)⟩
            | exact ⟨k + 1, by simp, by rw [HC2.out]; simp, by omega, hide (by first | rfl | trivial)⟩
      case neg =>
        have hka : k = a0.size := by omega
        have HCT := hide (show gM x ≤ (a0.data.toList.take k).count 40 by
          rw [hka, List.take_of_length_le (by rw [show a0.data.toList.length = a0.size from Array.length_toList]; exact Nat.le_refl _)]; exact HV.out.2.2.1)
        have gl : decide (k < a0.size) = false := decide_eq_false hlt
        have gl' : decide ((k : Int) < (a0.size : Int)) = false := decide_eq_false (by omega)
        obtain ⟨m, hm⟩ : ∃ m, (a0.data.toList.take k).count 40 = m := ⟨_, rfl⟩
        rw [hm] at HCT ⊢
        obtain ⟨gx, hgx⟩ : ∃ gx, gM x = gx := ⟨_, rfl⟩
        obtain ⟨px, hpx⟩ : ∃ px, pM x = px := ⟨_, rfl⟩
        have hpv := HV.out.2.1
        have hgm := HCT.out
        have hsz := HH1.out
        rw [hgx] at HG hgm
        rw [hpx] at HP hpv
        have d1 : decide ((gx : Int) ≤ (m : Int)) = true := decide_eq_true (by omega)
        have d1' : decide (gx ≤ m) = true := decide_eq_true hgm
        have e7 : IntKind.i64.wrap (2 * (a0.size : Int)) = 2 * (a0.size : Int) := by rw [IntKind.wrap_i64]; omega
        have e8 : IntKind.i64.wrap (2 * (a0.size : Int) + 1) = 2 * (a0.size : Int) + 1 := by rw [IntKind.wrap_i64]; omega
        have d2 : decide ((px : Int) ≤ 2 * (a0.size : Int) + 1) = true := decide_eq_true (by omega)
        have d2' : decide (px ≤ 2 * a0.size + 1) = true := decide_eq_true hpv
        clear hm hka hlt hgx hpx hpv hgm hsz HW hk
        go_wp2_with fail
        refine (HM.out _ HAL.out).mono ?_
        rintro e w2 ⟨rfl, hb2⟩
        have HB2 := hide (bl_trans HAL.out hb2)
        have y0 : w2.cell? ⟨w1.heap.size, 0, none⟩ = some (.int .i64 tk) := cell_later hb2 (ks_alloc (W := w1) (T := 26) (cs := [.int .i64 tk, .string tch, .bool tnt, .slice tA trl tc, .int .i64 tmi, .int .i64 tma, .bool tlz, .slice tB tkl td]) rfl 0 _ rfl)
        have y1 : w2.cell? ⟨w1.heap.size, 1, none⟩ = some (.string tch) := cell_later hb2 (ks_alloc (W := w1) (T := 26) (cs := [.int .i64 tk, .string tch, .bool tnt, .slice tA trl tc, .int .i64 tmi, .int .i64 tma, .bool tlz, .slice tB tkl td]) rfl 1 _ rfl)
        have y2 : w2.cell? ⟨w1.heap.size, 2, none⟩ = some (.bool tnt) := cell_later hb2 (ks_alloc (W := w1) (T := 26) (cs := [.int .i64 tk, .string tch, .bool tnt, .slice tA trl tc, .int .i64 tmi, .int .i64 tma, .bool tlz, .slice tB tkl td]) rfl 2 _ rfl)
        have y3 : w2.cell? ⟨w1.heap.size, 3, none⟩ = some (.slice tA trl tc) := cell_later hb2 (ks_alloc (W := w1) (T := 26) (cs := [.int .i64 tk, .string tch, .bool tnt, .slice tA trl tc, .int .i64 tmi, .int .i64 tma, .bool tlz, .slice tB tkl td]) rfl 3 _ rfl)
        have y4 : w2.cell? ⟨w1.heap.size, 4, none⟩ = some (.int .i64 tmi) := cell_later hb2 (ks_alloc (W := w1) (T := 26) (cs := [.int .i64 tk, .string tch, .bool tnt, .slice tA trl tc, .int .i64 tmi, .int .i64 tma, .bool tlz, .slice tB tkl td]) rfl 4 _ rfl)
        have y5 : w2.cell? ⟨w1.heap.size, 5, none⟩ = some (.int .i64 tma) := cell_later hb2 (ks_alloc (W := w1) (T := 26) (cs := [.int .i64 tk, .string tch, .bool tnt, .slice tA trl tc, .int .i64 tmi, .int .i64 tma, .bool tlz, .slice tB tkl td]) rfl 5 _ rfl)
        have y6 : w2.cell? ⟨w1.heap.size, 6, none⟩ = some (.bool tlz) := cell_later hb2 (ks_alloc (W := w1) (T := 26) (cs := [.int .i64 tk, .string tch, .bool tnt, .slice tA trl tc, .int .i64 tmi, .int .i64 tma, .bool tlz, .slice tB tkl td]) rfl 6 _ rfl)
        have y7 : w2.cell? ⟨w1.heap.size, 7, none⟩ = some (.slice tB tkl td) := cell_later hb2 (ks_alloc (W := w1) (T := 26) (cs := [.int .i64 tk, .string tch, .bool tnt, .slice tA trl tc, .int .i64 tmi, .int .i64 tma, .bool tlz, .slice tB tkl td]) rfl 7 _ rfl)
        have HC2 := hide hb2
        clear hb2
        go_wp2_with fail
        refine (HG.out _ HB2.out).mono ?_
        rintro e w3 ⟨rfl, hb3⟩
        have HB3 := hide (bl_trans HB2.out hb3)
        have hc3 := bl_trans HC2.out hb3
        replace y0 : w3.cell? ⟨w1.heap.size, 0, none⟩ = some (.int .i64 tk) := cell_later hc3 (ks_alloc (W := w1) (T := 26) (cs := [.int .i64 tk, .string tch, .bool tnt, .slice tA trl tc, .int .i64 tmi, .int .i64 tma, .bool tlz, .slice tB tkl td]) rfl 0 _ rfl)
        replace y1 : w3.cell? ⟨w1.heap.size, 1, none⟩ = some (.string tch) := cell_later hc3 (ks_alloc (W := w1) (T := 26) (cs := [.int .i64 tk, .string tch, .bool tnt, .slice tA trl tc, .int .i64 tmi, .int .i64 tma, .bool tlz, .slice tB tkl td]) rfl 1 _ rfl)
        replace y2 : w3.cell? ⟨w1.heap.size, 2, none⟩ = some (.bool tnt) := cell_later hc3 (ks_alloc (W := w1) (T := 26) (cs := [.int .i64 tk, .string tch, .bool tnt, .slice tA trl tc, .int .i64 tmi, .int .i64 tma, .bool tlz, .slice tB tkl td]) rfl 2 _ rfl)
        replace y3 : w3.cell? ⟨w1.heap.size, 3, none⟩ = some (.slice tA trl tc) := cell_later hc3 (ks_alloc (W := w1) (T := 26) (cs := [.int .i64 tk, .string tch, .bool tnt, .slice tA trl tc, .int .i64 tmi, .int .i64 tma, .bool tlz, .slice tB tkl td]) rfl 3 _ rfl)
        replace y4 : w3.cell? ⟨w1.heap.size, 4, none⟩ = some (.int .i64 tmi) := cell_later hc3 (ks_alloc (W := w1) (T := 26) (cs := [.int .i64 tk, .string tch, .bool tnt, .slice tA trl tc, .int .i64 tmi, .int .i64 tma, .bool tlz, .slice tB tkl td]) rfl 4 _ rfl)
        replace y5 : w3.cell? ⟨w1.heap.size, 5, none⟩ = some (.int .i64 tma) := cell_later hc3 (ks_alloc (W := w1) (T := 26) (cs := [.int .i64 tk, .string tch, .bool tnt, .slice tA trl tc, .int .i64 tmi, .int .i64 tma, .bool tlz, .slice tB tkl td]) rfl 5 _ rfl)
        replace y6 : w3.cell? ⟨w1.heap.size, 6, none⟩ = some (.bool tlz) := cell_later hc3 (ks_alloc (W := w1) (T := 26) (cs := [.int .i64 tk, .string tch, .bool tnt, .slice tA trl tc, .int .i64 tmi, .int .i64 tma, .bool tlz, .slice tB tkl td]) rfl 6 _ rfl)
        replace y7 : w3.cell? ⟨w1.heap.size, 7, none⟩ = some (.slice tB tkl td) := cell_later hc3 (ks_alloc (W := w1) (T := 26) (cs := [.int .i64 tk, .string tch, .bool tnt, .slice tA trl tc, .int .i64 tmi, .int .i64 tma, .bool tlz, .slice tB tkl td]) rfl 7 _ rfl)
        clear hb3 hc3
        go_wp2_with fail
        refine (HP.out _ HB3.out).mono ?_
        rintro e w4 ⟨rfl, hb4⟩
        have HB4 := hide (bl_trans HB3.out hb4)
        clear hb4 y0 y1 y2 y3 y4 y5 y6 y7
        go_wp2_with fail
        refine (awake14_any _).mono ?_
        rintro e w5 ⟨rfl, hb5⟩
        have HB5 := hide (bl_trans HB1.out (bl_trans HB4.out hb5))
        clear hb5
        go_wp2
        go_ret
        exact ⟨rfl, HB5.out⟩

set_option maxRecDepth 100000 in
theorem lifted (os : Os) (started : os.Started) (H : Type) (enc : TypeId × Value → H) :
    ReturnsInHanded {} Try.checked os 4 .any (Rows.readMaySpec.pre6 enc Try.prog Try.f4 Rows.readMayRow.domain false) (Rows.readMaySpec.post enc Try.prog Try.f4 false true false false) := by
  refine returnsInHanded_of_change (C := Try.checked) own started (by kernel_rfl) Try.func4
    (ChangeSpec.witness6 (enc := enc) (C := Try.checked) false ⟨#[], #[.string ByteArray.empty], []⟩ 8 (by kernel_rfl) (by kernel_rfl) (by kernel_rfl) (by kernel_rfl)) ?_
  intro W base args ds gs before hval0 hW hcnd _
  have hval : ∀ (j : Nat) t v, Try.f4.params[j]? = some t → args[j]? = some v → Value.okWide Try.prog W .any base t v := hval0
  have hW' := hW
  obtain ⟨p, q, hA0, hV, rfl, hfz, hnd⟩ := hW
  have hA : DataW.TrodAll enc Try.prog W 0 (fun _ => true) true Try.f4.params.toList args.toList ds p := hA0
  rw [Try.params4] at hA hval
  obtain ⟨v0, vs0, d0, ds0, p0, q0, hargs, rfl, rfl, h0, r0⟩ := trodAll_cons hA
  obtain ⟨rfl, rfl, rfl⟩ := trodAll_nil r0
  obtain rfl : args = #[v0] := by cases args; simp_all
  obtain ⟨rfl, rfl⟩ := trodVars_none hV
  have k0 := h0
  have lt0 : ∀ x ∈ p0, x.block < W.heap.size := by obtain ⟨m, hm⟩ := k0; exact DataW.trod_lt m _ _ _ hm
  obtain ⟨a0, rfl, hd0, hp0, w0⟩ := open_string Try.underlying9 (hval 0 9 v0 rfl rfl) h0
  clear hA0 hval0
  refine (walk a0 W w0).mono fun e W' ⟨he, bel⟩ => ?_
  subst he
  exact ⟨_, rfl, _, _, _, [], _, [], hW', trodAll_mk1 (shut_bool Try.underlying4 _), (trodAll_cons_mk (Below.trod laidOut (by kernel_rfl) (of_decide_eq_true (by kernel_rfl)) k0 bel lt0) trodAll_mk0), rfl, bel.frame _, fun h => by cases h⟩

theorem over : Rows.readMayRow.holds Try.pinned (OpenSpec.ofChange Rows.readMaySpec) :=
  OpenClaim.holds_of_wide 4 Try.f4 rfl rfl rfl rfl rfl rfl rfl ⟨rfl, rfl, rfl, rfl, rfl⟩ rfl rfl rfl rfl rfl (by kernel_rfl) Try.func4 (by kernel_rfl)
    (of_decide_eq_true (by kernel_rfl)) (by unfold Func.isWrapper; first | (rw [if_pos (by decide +kernel)]; kernel_rfl) | (rw [if_neg (by decide +kernel)]; exact ⟨rfl, rfl⟩))
    (fun os started H enc _ => lifted os started H enc)

theorem proved : Rows.ReadMaySaid := over
end Go.Proofs.Ytcgphknnnjpbkaa.readMay
