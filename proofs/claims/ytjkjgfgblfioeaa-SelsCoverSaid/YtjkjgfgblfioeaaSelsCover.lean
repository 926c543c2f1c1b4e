/- Put in order selections have the same places between their ends, rise, and no two of them touch; put in order again they are the same. Conditions: none beyond the form's own. -/
import Derived.Test.YtjkjgfgblfioeaaRows
import Derived.Test.YtjkjgfgblfioeaaArgs
import Derived.Test.YtjkjgfgblfioeaaSelX
import Derived.Test.YtjkjgfgblfioeaaSelZ
import Derived.Test.YtjkjgfgblfioeaaSymU
import Derived.Test.YtjkjgfgblfioeaaSelQ
import Derived.Test.YtjkjgfgblfioeaaPrArgs
import Derived.Deep.RegionHeld3
import Derived.BigQuiet
namespace Go.Proofs.Ytjkjgfgblfioeaa.selsCover
open Go.Proofs.Ytjkjgfgblfioeaa
open Go.ChangeShapes Go.WideShapes Go.ChangeAt Go.RowKit Go.Deep
open Go.ChangeMaps (open_string shut_string)
set_option linter.unusedVariables false

theorem own : ownKnob Try.prog.godebug = none := by kernel_rfl
theorem laidOut : laidOutB Try.prog = true := by kernel_rfl
-- opt:8000000
open SpanM SelM
attribute [local go_sem ↓] Go.wp_at_zero Go.wp_at_succ
attribute [local go_sem] later_cell later_frozen fld_sp0 fld_sp1
def inS (l : List Sp) (k : Int) (n : Nat) : Bool := (l.take n).any fun s => hasB (ky s) k
theorem inS_zero (l : List Sp) (k : Int) : inS l k 0 = false := by simp [inS]
theorem inS_next (l : List Sp) (k : Int) (n : Nat) (h : n < l.length) : inS l k (n + 1) = (inS l k n || hasB (ky l[n]) k) := by
  unfold inS
  rw [List.take_succ_eq_append_getElem h, List.any_append]; simp
theorem inS_iff (l : List Sp) (k : Int) : inS l k l.length = true ↔ InL l k := by
  unfold inS InL hasB
  rw [List.take_of_length_le (Nat.le_refl _), List.any_eq_true]
  simp only [decide_eq_true_eq]
theorem inS_same (l : List Sp) (k : Int) : inS (mrgF (sortL l)) k (mrgF (sortL l)).length = inS l k l.length := by
  rw [Bool.eq_iff_iff, inS_iff, inS_iff]; exact norm_in l k
theorem low_wi (s : Sp) : Wi 0 60 (low2 s) := by
  have h1 := lowN_lt s.1 61 (by omega)
  have h2 := lowN_lt s.2 61 (by omega)
  unfold Wi low2 ky
  dsimp only
  omega
theorem may_wi {s : Sp} {n : Int} (h : Wi 0 n s) : mayB (ky s) n = true := by
  have := ky_le s
  unfold Wi at h
  unfold mayB
  exact decide_eq_true (by omega)
theorem has_l (a : Sp) (x : Int) (r : Bool) (h : hasB a x = r) (w : World) : Calls Try.prog 15 #[.agg #[.int .i64 a.1, .int .i64 a.2], .int .i64 x] w fun e w' => e = .returned (.bool r) ∧ Below w.heap.size w w' := by subst h; exact has_any a x w
set_option maxRecDepth 100000 in
set_option maxHeartbeats 8000000 in
theorem walk (a0 : Value) (l0 : List SpanM.Sp) (a1 : Int) (w : World) (w0 : SpAt w a0 l0) (b0 : ∀ s ∈ l0, Wf s) (w1 : (Lit.int .i64 a1).wf = true) :
    Calls Try.prog 4 #[a0, .int .i64 a1] w fun e w' => e = .returned (.bool true) ∧ Below w.heap.size w w' := by
  have hlow := low_any a1 61
  have HLOW := hide (fun W => hlow W (by omega) (by omega))
  clear hlow
  obtain ⟨vA, vc, rfl⟩ := spat_len w0
  by_cases h0 : l0.length = 0
  · have g0 : ((l0.length : Int) == 0) = true := beq_iff_eq.2 (by omega)
    have g0' : (l0.length == 0) = true := beq_iff_eq.2 (by omega)
    clear w0 b0 h0
    go_enter Try.func4, Try.ntmps4
    go_wp2_with fail
    refine (awake8_any _).mono ?_
    rintro e w9 ⟨rfl, hb9⟩
    go_wp2
    go_ret
    exact ⟨rfl, hb9⟩
  by_cases h64 : 64 < l0.length
  · have g0 : ((l0.length : Int) == 0) = false := beq_eq_false_iff_ne.2 (by omega)
    have g0' : (l0.length == 0) = false := beq_eq_false_iff_ne.2 (by omega)
    have g1 : decide ((64 : Int) < (l0.length : Int)) = true := decide_eq_true (by omega)
    have g1' : decide (64 < l0.length) = true := decide_eq_true (by omega)
    clear w0 b0 h0 h64
    go_enter Try.func4, Try.ntmps4
    go_wp2_with fail
    refine (awake8_any _).mono ?_
    rintro e w9 ⟨rfl, hb9⟩
    go_wp2
    go_ret
    exact ⟨rfl, hb9⟩
  have g0 : ((l0.length : Int) == 0) = false := beq_eq_false_iff_ne.2 (by omega)
  have g0' : (l0.length == 0) = false := beq_eq_false_iff_ne.2 (by omega)
  have g1 : decide ((64 : Int) < (l0.length : Int)) = false := decide_eq_false (by omega)
  have g1' : decide (64 < l0.length) = false := decide_eq_false (by omega)
  have hsome := some_any _ l0 w w0 (by omega)
  obtain ⟨l, hl⟩ : ∃ l, l0.map low2 = l := ⟨_, rfl⟩
  have hll : l.length = l0.length := by rw [← hl]; simp
  have hwi : ∀ s ∈ l, Wi 0 60 s := by
    rw [← hl]
    intro s hs
    obtain ⟨t, _, rfl⟩ := List.mem_map.1 hs
    exact low_wi t
  rw [hl] at hsome
  have HLL := hide hll
  have hwu := norm_wi 0 60 l hwi
  have hap := norm_apt l
  have hse := norm_self _ hap
  have hle := norm_len l
  have hpo := norm_pos l (by omega)
  have hsm := inS_same l (lowN a1 61 : Nat)
  obtain ⟨e1, e2⟩ := nr_good 60 l (by omega) (by omega) (fun k hk => may_wi (hwi _ (List.getElem_mem hk)))
  have hn1 := fun (W : World) (v : Value) (h : SpAt W v l) => norm_any stab79 v l 60 W h (.inl (by omega))
  rw [e1, e2] at hn1
  obtain ⟨U, hU⟩ : ∃ U, mrgF (sortL l) = U := ⟨_, rfl⟩
  rw [hU] at hwu hap hse hle hpo hn1 hsm
  obtain ⟨e3, e4⟩ := nr_good 60 U (by omega) (by omega) (fun k hk => may_wi (hwu _ (List.getElem_mem hk)))
  have hn2 := fun (W : World) (v : Value) (h : SpAt W v U) => norm_any stab79 v U 60 W h (.inl (by omega))
  rw [e3, e4, hse] at hn2
  have hq := fun (W : World) (v u : Value) (h : SpAt W v U) (g : SpAt W u U) => sels_any v u U U W h g (by omega) (by omega)
  rw [show decide (U = U) = true by simp] at hq
  generalize lowN a1 61 = k at *
  have HS := hide hsome
  have HN1 := hide hn1
  have HN2 := hide hn2
  have HQ := hide hq
  have HAP := hide hap
  have HSM := hide hsm
  have hl64 : l.length ≤ 64 := by omega
  have t1 : ((U.length : Int) == 0) = false := beq_eq_false_iff_ne.2 (by omega)
  have t1' : (U.length == 0) = false := beq_eq_false_iff_ne.2 (by omega)
  clear hsome hn1 hn2 hq hap hse hwu hwi hU e1 e2 e3 e4 hl hll h0 h64 w0 b0 hsm
  go_enter Try.func4, Try.ntmps4
  go_wp2_with fail
  refine HS.out.mono ?_
  rintro e w1 ⟨v1, rfl, hb1, ho1⟩
  rw [← HLL.out] at ho1
  have S1 := own_spatL ho1
  obtain ⟨aS, cS, rfl⟩ := own_slice ho1
  clear ho1 g0 g0' g1 g1'
  go_wp2_with fail
  refine (HN1.out _ _ S1).mono ?_
  rintro e w2 ⟨v2, rfl, hb2, ho2⟩
  have S1 := spat_below S1 hb2
  have S2 := own_spatL ho2
  obtain ⟨aU, cU, rfl⟩ := own_slice ho2
  clear ho2
  go_wp2_with fail
  refine (HN2.out _ _ S2).mono ?_
  rintro e w3 ⟨v3, rfl, hb3, ho3⟩
  have S1 := spat_below S1 hb3
  have S2 := spat_below S2 hb3
  have S3 := own_spatL ho3
  obtain ⟨aV, cV, rfl⟩ := own_slice ho3
  have B3 := hide (bl_trans (bl_trans hb1 hb2) hb3)
  clear ho3 hb1 hb2 hb3
  go_wp2_with fail
  refine (HQ.out _ _ _ S2 S3).mono ?_
  rintro e w4 ⟨rfl, nd, rfl⟩
  have hbd : Below w3.heap.size w3 (w3.drewN nd) := bl_drewN (bl_refl w3) nd
  have S1 := spat_below S1 hbd
  have S2 := spat_below S2 hbd
  have B4 := hide (bl_trans B3.out hbd)
  generalize w3.drewN nd = w4 at *
  clear hbd S3 HS HN1 HN2 HQ B3
  go_wp2_with fail
  refine (HLOW.out _).mono ?_
  rintro e wl ⟨rfl, hwl⟩
  subst hwl
  go_wp2
  have HS1 := hide S1
  have HS2 := hide S2
  clear S1 S2
  go_loopw [11, 13] (fun f i wr => ∃ n : Nat, i = .int .i64 n ∧ n ≤ l.length ∧ f = .bool (inS l k n) ∧ Hid (Below w4.heap.size w4 wr)) (fun _ i _ => l.length - (intOf i).toNat)
  case atStart => exact ⟨0, rfl, Nat.zero_le _, by rw [inS_zero], hide (bl_refl w4)⟩
  case round =>
    obtain ⟨n, rfl, hn, rfl, HB⟩ := hrel
    by_cases hlt : n < l.length
    · have gl : decide (n < l.length) = true := decide_eq_true hlt
      have hnx := inS_next l k n hlt
      rcases hf : inS l k n with _ | _
      · rw [hf, Bool.false_or] at hnx
        obtain ⟨x', o', c', hv', _, _, _, hcell⟩ := spat_some (spat_below HS1.out HB.out) (by omega)
        injection hv' with hv' _ hvc'
        subst hv' hvc'
        obtain ⟨y1, y2⟩ := hcell n hlt
        clear hcell
        obtain ⟨s, hs⟩ : ∃ s, l[n] = s := ⟨_, rfl⟩
        rw [hs] at y1 y2 hnx
        obtain ⟨ks, hks⟩ : ∃ ks, ky (s.1, s.2) = ks := ⟨_, rfl⟩
        have hks' : ky s = ks := hks
        rw [hks'] at hnx
        obtain ⟨r, hr⟩ : ∃ r, hasB ks k = r := ⟨_, rfl⟩
        rw [hr] at hnx
        have HA := hide (fun W => span_b s.1 s.2 ks hks W)
        have HH := hide (fun W => has_l ks k r hr W)
        have HNX := hide hnx
        clear hnx hr hks hks' hs hf
        go_wp2_with fail
        refine (HA.out _).mono ?_
        rintro e w5 ⟨rfl, hb5⟩
        go_wp2_with fail
        refine (HH.out _).mono ?_
        rintro e w6 ⟨rfl, hb6⟩
        have HB6 := hide (bl_trans (bl_trans HB.out hb5) hb6)
        clear hb5 hb6 y1 y2
        go_wp2
        refine ⟨?_, by first | (simp [intOf]; done) | (simp [intOf]; omega)⟩
        exact ⟨n + 1, by go_num, by omega, by rw [HNX.out], HB6⟩
      · rw [hf, Bool.true_or] at hnx
        have HNX := hide hnx
        clear hnx hf
        go_wp2
        refine ⟨?_, by first | (simp [intOf]; done) | (simp [intOf]; omega)⟩
        exact ⟨n + 1, by go_num, by omega, by rw [HNX.out], HB⟩
    · obtain rfl : n = l.length := by omega
      have gl : decide (l.length < l.length) = false := by simp
      have HS2 := hide (spat_below HS2.out HB.out)
      have B5 := hide (bl_trans B4.out HB.out)
      rw [← HSM.out]
      obtain ⟨b, hb⟩ : ∃ b, inS U k U.length = b := ⟨_, rfl⟩
      rw [hb]
      have HBB := hide hb
      clear hb HB HS1 B4 HSM hlt
      go_wp2
      go_loopw [12, 14] (fun f i w' => ∃ n : Nat, i = .int .i64 n ∧ n ≤ U.length ∧ f = .bool (inS U k n) ∧ Hid (Below wr.heap.size wr w')) (fun _ i _ => U.length - (intOf i).toNat)
      case atStart => exact ⟨0, rfl, Nat.zero_le _, by rw [inS_zero], hide (bl_refl wr)⟩
      case round =>
        obtain ⟨n, rfl, hn, rfl, HB⟩ := hrel
        by_cases hlt : n < U.length
        · have gl : decide (n < U.length) = true := decide_eq_true hlt
          have hnx := inS_next U k n hlt
          obtain ⟨x', o', c', hv', _, _, _, hcell⟩ := spat_some (spat_below HS2.out HB.out) (by omega)
          injection hv' with hv' _ hvc'
          subst hv' hvc'
          obtain ⟨y1, y2⟩ := hcell n hlt
          obtain ⟨s, hs⟩ : ∃ s, U[n] = s := ⟨_, rfl⟩
          obtain ⟨ks, hks⟩ : ∃ ks, ky (s.1, s.2) = ks := ⟨_, rfl⟩
          have hks' : ky s = ks := hks
          have HA := hide (fun W => span_b s.1 s.2 ks hks W)
          by_cases hn0 : n = 0
          · subst hn0
            simp only [Nat.zero_mul, Nat.add_zero] at y1 y2
            rw [hs] at y1 y2 hnx
            rw [hks'] at hnx
            clear hcell hs
            rcases hf : inS U k 0 with _ | _
            · rw [hf, Bool.false_or] at hnx
              obtain ⟨r, hr⟩ : ∃ r, hasB ks k = r := ⟨_, rfl⟩
              rw [hr] at hnx
              have HH := hide (fun W => has_l ks k r hr W)
              have HNX := hide hnx
              clear hnx hr hks hks' hf
              go_wp2_with fail
              refine (HA.out _).mono ?_
              rintro e w5 ⟨rfl, hb5⟩
              go_wp2_with fail
              refine (HH.out _).mono ?_
              rintro e w6 ⟨rfl, hb6⟩
              have hb56 := bl_trans hb5 hb6
              have HBX := hide (bl_trans HB.out hb56)
              replace y1 := cell_later hb56 y1
              replace y2 := cell_later hb56 y2
              clear hb5 hb6 hb56 HB
              have gz : decide ((0 : Int) < ((0 : Nat) : Int)) = false := by decide
              have gz' : decide (0 < 0) = false := by decide
              go_wp2
              go_quiet (fail)
              go_wp2
              refine ⟨?_, by first | (simp [intOf]; done) | (simp [intOf]; omega)⟩
              exact ⟨1, by go_num, by omega, by rw [HNX.out], by first | exact HBX | exact hide (bl_drewN HBX.out _)⟩
            · rw [hf, Bool.true_or] at hnx
              have HNX := hide hnx
              have HBX := hide HB.out
              clear hnx hf hks hks' HB
              have gz : decide ((0 : Int) < ((0 : Nat) : Int)) = false := by decide
              have gz' : decide (0 < 0) = false := by decide
              go_wp2
              go_quiet (fail)
              go_wp2
              refine ⟨?_, by first | (simp [intOf]; done) | (simp [intOf]; omega)⟩
              exact ⟨1, by go_num, by omega, by rw [HNX.out], by first | exact HBX | exact hide (bl_drewN HBX.out _)⟩
          · obtain ⟨m, hnm⟩ : ∃ m, m + 1 = n := ⟨n - 1, by omega⟩
            obtain ⟨z1, z2⟩ := hcell m (by omega)
            obtain ⟨t, ht⟩ : ∃ t, U[m] = t := ⟨_, rfl⟩
            obtain ⟨kt, hkt⟩ : ∃ kt, ky (t.1, t.2) = kt := ⟨_, rfl⟩
            have hkt' : ky t = kt := hkt
            have HC := hide (fun W => span_b t.1 t.2 kt hkt W)
            have hpw := List.pairwise_iff_getElem.1 HAP.out m n (by omega) hlt (by omega)
            rw [hs] at y1 y2 hnx hpw
            rw [ht] at z1 z2 hpw
            rw [hks'] at hnx hpw
            rw [hkt'] at hpw
            have gle : decide (ks.1 ≤ kt.2) = false := decide_eq_false (by omega)
            have gz : decide ((0 : Int) < (n : Int)) = true := decide_eq_true (by omega)
            have gz' : decide (0 < n) = true := decide_eq_true (by omega)
            have gw : IntKind.i64.wrap ((n : Int) - 1) = (m : Int) := by rw [IntKind.wrap_i64]; omega
            have hm1 : m < U.length := by omega
            clear hcell hs ht hpw hkt hkt' hnm hn0
            rcases hf : inS U k n with _ | _
            · rw [hf, Bool.false_or] at hnx
              obtain ⟨r, hr⟩ : ∃ r, hasB ks k = r := ⟨_, rfl⟩
              rw [hr] at hnx
              have HH := hide (fun W => has_l ks k r hr W)
              have HNX := hide hnx
              clear hnx hr hks hks' hf
              go_wp2_with fail
              refine (HA.out _).mono ?_
              rintro e w5 ⟨rfl, hb5⟩
              go_wp2_with fail
              refine (HH.out _).mono ?_
              rintro e w6 ⟨rfl, hb6⟩
              have hb56 := bl_trans hb5 hb6
              have HBX := hide (bl_trans HB.out hb56)
              replace y1 := cell_later hb56 y1
              replace y2 := cell_later hb56 y2
              replace z1 := cell_later hb56 z1
              replace z2 := cell_later hb56 z2
              clear hb5 hb6 hb56 HB
              go_wp2
              have nb1 := World.block_lt_of_cell? _ _ y1
              refine wp_region_later (by kernel_rfl) (by kernel_rfl) ?_
              repeat (go_big_quiet_step (first
                | (go_at_call_of 16 (Value.agg #[Value.int IntKind.i64 s.1, Value.int IntKind.i64 s.2]); exact later_call (HA.out _))
                | (go_at_call_of 16 (Value.agg #[Value.int IntKind.i64 t.1, Value.int IntKind.i64 t.2]); exact later_call (HC.out _))
                | exact rfl))
              refine wpQuiet_nil ?_
              rintro w9 ⟨⟨_, hb9⟩, rfl⟩
              have HB9 := hide (bl_trans HBX.out hb9)
              clear hb9 y1 y2 z1 z2
              go_wp2
              refine ⟨?_, by first | (simp [intOf]; done) | (simp [intOf]; omega)⟩
              exact ⟨n + 1, by go_num, by omega, by rw [HNX.out], HB9⟩
            · rw [hf, Bool.true_or] at hnx
              have HNX := hide hnx
              have HBX := hide HB.out
              clear hnx hf hks hks' HB
              go_wp2
              have nb1 := World.block_lt_of_cell? _ _ y1
              refine wp_region_later (by kernel_rfl) (by kernel_rfl) ?_
              repeat (go_big_quiet_step (first
                | (go_at_call_of 16 (Value.agg #[Value.int IntKind.i64 s.1, Value.int IntKind.i64 s.2]); exact later_call (HA.out _))
                | (go_at_call_of 16 (Value.agg #[Value.int IntKind.i64 t.1, Value.int IntKind.i64 t.2]); exact later_call (HC.out _))
                | exact rfl))
              refine wpQuiet_nil ?_
              rintro w9 ⟨⟨_, hb9⟩, rfl⟩
              have HB9 := hide (bl_trans HBX.out hb9)
              clear hb9 y1 y2 z1 z2
              go_wp2
              refine ⟨?_, by first | (simp [intOf]; done) | (simp [intOf]; omega)⟩
              exact ⟨n + 1, by go_num, by omega, by rw [HNX.out], HB9⟩
        · obtain rfl : n = U.length := by omega
          have gl : decide (U.length < U.length) = false := by simp
          rw [HBB.out]
          have gb : (b == b) = true := beq_self_eq_true b
          have B6 := hide (bl_trans B5.out HB.out)
          clear HB B5 HBB
          go_wp2_with fail
          refine (awake8_any _).mono ?_
          rintro e w9 ⟨rfl, hb9⟩
          go_wp2
          go_ret
          exact ⟨rfl, bl_trans B6.out hb9⟩

set_option maxRecDepth 100000 in
theorem lifted (os : Os) (started : os.Started) (H : Type) (enc : TypeId × Value → H) :
    ReturnsInHanded {} Try.checked os 4 .any (Rows.selsCoverSpec.pre6 enc Try.prog Try.f4 Rows.selsCoverRow.domain false) (Rows.selsCoverSpec.post enc Try.prog Try.f4 false true false false) := by
  refine returnsInHanded_of_change (C := Try.checked) own started (by kernel_rfl) Try.func4
    (ChangeSpec.witness6 (enc := enc) (C := Try.checked) false ⟨#[], #[.slice none 0 0, .int .i64 0], []⟩ 8 (by kernel_rfl) (by kernel_rfl) (by kernel_rfl) (by kernel_rfl)) ?_
  intro W base args ds gs before hval0 hW hcnd _
  have hval : ∀ (j : Nat) t v, Try.f4.params[j]? = some t → args[j]? = some v → Value.okWide Try.prog W .any base t v := hval0
  have hW' := hW
  obtain ⟨p, q, hA0, hV, rfl, hfz, hnd⟩ := hW
  have hA : DataW.TrodAll enc Try.prog W 0 (fun _ => true) true Try.f4.params.toList args.toList ds p := hA0
  rw [Try.params4] at hA hval
  obtain ⟨v0, vs0, d0, ds0, p0, q0, hargs, rfl, rfl, h0, r0⟩ := trodAll_cons hA
  obtain ⟨v1, vs1, d1, ds1, p1, q1, rfl, rfl, rfl, h1, r1⟩ := trodAll_cons r0
  obtain ⟨rfl, rfl, rfl⟩ := trodAll_nil r1
  obtain rfl : args = #[v0, v1] := by cases args; simp_all
  obtain ⟨rfl, rfl⟩ := trodVars_none hV
  have k0 := h0
  have lt0 : ∀ x ∈ p0, x.block < W.heap.size := by obtain ⟨m, hm⟩ := k0; exact DataW.trod_lt m _ _ _ hm
  obtain ⟨l0, w0, b0⟩ := open_pairs (hval 0 23 v0 rfl rfl) h0
  have k1 := h1
  have lt1 : ∀ x ∈ p1, x.block < W.heap.size := by obtain ⟨m, hm⟩ := k1; exact DataW.trod_lt m _ _ _ hm
  obtain ⟨a1, rfl, hd1, hp1, w1⟩ := open_int Try.underlying3 (hval 1 3 v1 rfl rfl) h1
  clear hA0 hval0
  refine (walk v0 l0 a1 W w0 b0 w1).mono fun e W' ⟨he, bel⟩ => ?_
  subst he
  exact ⟨_, rfl, _, _, _, [], _, [], hW', trodAll_mk1 (shut_bool Try.underlying4 _), (trodAll_cons_mk (Below.trod laidOut (by kernel_rfl) (of_decide_eq_true (by kernel_rfl)) k0 bel lt0) (trodAll_cons_mk (Below.trod laidOut (by kernel_rfl) (of_decide_eq_true (by kernel_rfl)) k1 bel lt1) trodAll_mk0)), rfl, bel.frame _, fun h => by cases h⟩

theorem over : Rows.selsCoverRow.holds Try.pinned (OpenSpec.ofChange Rows.selsCoverSpec) :=
  OpenClaim.holds_of_wide 4 Try.f4 rfl rfl rfl rfl rfl rfl rfl ⟨rfl, rfl, rfl, rfl, rfl⟩ rfl rfl rfl rfl rfl (by kernel_rfl) Try.func4 (by kernel_rfl)
    (of_decide_eq_true (by kernel_rfl)) (by unfold Func.isWrapper; first | (rw [if_pos (by decide +kernel)]; kernel_rfl) | (rw [if_neg (by decide +kernel)]; exact ⟨rfl, rfl⟩))
    (fun os started H enc _ => lifted os started H enc)

theorem proved : Rows.SelsCoverSaid := over
end Go.Proofs.Ytjkjgfgblfioeaa.selsCover
