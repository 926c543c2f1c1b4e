/- Lines of a nil rope have no place: ErrNil; a selection out of the text has none: ErrRange; beside either there are no variables. Conditions: none beyond the form's own. -/
import Derived.Test.YtmjadcjpgcbalaaDoorRows
import Derived.Test.YtmjadcjpgcbalaaDoorCards
import Derived.Test.YtmjadcjpgcbalaaDoorTie
import Derived.Lay
import Derived.LaidMore
import Derived.MakeChecks
import Derived.Stop.Joined
import Derived.SevenTiedAt
import Derived.Test.YtmjadcjpgcbalaaDoorArgs
import Derived.Test.YtmjadcjpgcbalaaDoorVarD
import Derived.Test.YtmjadcjpgcbalaaDoorSelArgs
namespace Go.Proofs.YtmjadcjpgcbalaaDoor.varsNil
open Go.Proofs.YtmjadcjpgcbalaaDoor
open Go.ChangeShapes Go.WideShapes Go.ChangeAt Go.RowKit Go.Deep
open Go.ChangeMaps (open_string shut_string)
set_option linter.unusedVariables false

theorem own : ownKnob Tryd.prog.godebug = none := by kernel_rfl
theorem laidOut : laidOutB Tryd.prog = true := by kernel_rfl
-- opt:8000000
open SpanM SetM
attribute [local go_sem ↓] Go.wp_at_zero Go.wp_at_succ
attribute [local go_sem] later_cell later_frozen
theorem pl_len (x : ByteArray) (p q : Nat) (line wd pa : ByteArray) (idx : Nat) (b : Bool) (env : List Rw) : ∃ k, (plAll x p q line wd idx b pa ++ env).length = k + 1 := by
  refine ⟨(plAll x p q line wd idx b pa ++ env).length - 1, ?_⟩
  have : 0 < (plAll x p q line wd idx b pa ++ env).length := by unfold plAll; simp; omega
  omega
set_option maxRecDepth 100000 in
set_option maxHeartbeats 8000000 in
theorem walk (a0 : ByteArray) (s1 : SpanM.Sp) (a2 : Value) (l2 : List SetM.Rw) (w : World) (w0 : a0.size ≤ maxLen) (b1 : Wf s1) (w2 : RwAt w a2 l2) (b2 : ∀ s ∈ l2, WfR s) :
    Calls Tryd.prog 8 #[.string a0, .agg #[.int .i64 s1.1, .int .i64 s1.2], a2] w fun e w' => e = .returned (.bool true) ∧ Below w.heap.size w w' := by
  obtain ⟨x1, x2⟩ := s1
  have hbw : Below w.heap.size w (w.alloc (.cells #[.int .i64 x1, .int .i64 x2] 39)) := bl_alloc (bl_refl w) _
  have HENV : Hid (∀ W, Below w.heap.size w W → Calls Tryd.prog 10 #[.int .i64 8, .int .i64 100, a2] W (MuchPost l2 8 100 W)) := hide (fun W hb => env_any a2 l2 8 100 W (rwat_below w2 hb) (by decide) (by decide) b2)
  obtain ⟨vA, vc, rfl⟩ := rwat_len w2
  have H2 := hide w2
  have HBW := hide hbw
  have c1 : (w.alloc (.cells #[.int .i64 x1, .int .i64 x2] 39)).cell? ⟨w.heap.size, 0, none⟩ = some (.int .i64 x1) := by go_simp
  have c2 : (w.alloc (.cells #[.int .i64 x1, .int .i64 x2] 39)).cell? ⟨w.heap.size, 1, none⟩ = some (.int .i64 x2) := by go_simp
  clear w2 b2 hbw
  by_cases h50 : 50 < a0.size
  · have g0 : decide ((50 : Int) < (a0.size : Int)) = true := decide_eq_true (by omega)
    have g0' : decide (50 < a0.size) = true := decide_eq_true h50
    clear c1 c2 h50
    go_enter Tryd.func8, Tryd.ntmps8
    go_wp2_with fail
    refine (awake23_any _).mono ?_
    rintro e w9 ⟨rfl, hb9⟩
    go_wp2
    go_ret
    exact ⟨rfl, bl_trans HBW.out hb9⟩
  have g0 : decide ((50 : Int) < (a0.size : Int)) = false := decide_eq_false (by omega)
  have g0' : decide (50 < a0.size) = false := decide_eq_false h50
  have hs50 : a0.size ≤ 50 := by omega
  obtain ⟨w0, hw0⟩ : ∃ w0, w.alloc (.cells #[.int .i64 x1, .int .i64 x2] 39) = w0 := ⟨_, rfl⟩
  rw [hw0] at HBW c1 c2
  clear h50
  have hsz := HBW.out.size
  by_cases hc0 : x1 < 0
  · have r0 : decide (x1 < 0) = true := decide_eq_true hc0
    go_enter Tryd.func8, Tryd.ntmps8
    go_wp2_with fail
    refine (HENV.out _ HBW.out).mono ?_
    rintro e w1 ⟨rr, rfl, hb1, hr⟩
    cases rr
    case true =>
      go_wp2_with fail
      refine (awake23_any _).mono ?_
      rintro e w9 ⟨rfl, hb9⟩
      go_wp2
      go_ret
      exact ⟨rfl, bl_trans HBW.out (bl_trans hb1 hb9)⟩
    have hl8 : l2.length ≤ 8 := (hr.out rfl).1
    have hz := (hr.out rfl).2
    have HB1 := hide (bl_trans HBW.out hb1)
    have c1 := cell_later hb1 c1
    have c2 := cell_later hb1 c2
    have HO := hide (of23_b a0 w1 (by omega))
    clear hr hb1
    go_wp2_with fail
    refine HO.out.mono ?_
    rintro e w2 ⟨r, rfl, hL, hb2, _⟩
    have c1 := cell_later hb2 c1
    have c2 := cell_later hb2 c2
    have c0 := ln_c0 w2 r
    have c1 := cell_later (ln_b0 w2 r) c1
    have c2 := cell_later (ln_b0 w2 r) c2
    have HB2 := hide (bl_trans HB1.out (bl_trans hb2 (ln_b0 w2 r)))
    have HL := hide (hL.bl (ln_b0 w2 r))
    have HOF := hide (fun W => lnOf_any (.pointer none) ⟨none, rfl⟩ W)
    have HPN := hide (fun W (hb : Below w.heap.size w W) => place_nil x1 x2 _ l2 W (rwat_below H2.out hb))
    clear hL hb2 HO HB1 HENV
    go_wp2
    generalize (w2.alloc (.cells #[.pointer (some ⟨r, 0, none⟩)] 42)) = w3 at *
    have n1 := World.block_lt_of_cell? _ _ c1
    refine wp_region_later (by kernel_rfl) (by kernel_rfl) ?_
    repeat (go_big_quiet_step (first
      | (go_at_call 28; exact later_call (HOF.out _))
      | (go_at_call 22; exact later_call (HPN.out _ (bl_trans HB2.out (Later.below _))))
      | exact rfl))
    refine wpQuiet_nil ?_
    rintro w4 ⟨⟨_, hb4⟩, rfl⟩
    have c0 := cell_later hb4 c0
    have c1 := cell_later hb4 c1
    have c2 := cell_later hb4 c2
    have HB4 := hide (bl_trans HB2.out hb4)
    have HL4 := hide (HL.out.bl hb4)
    have HE4 := hide (rwat_below H2.out HB4.out)
    clear hb4 n1 HB2 HL HOF HPN
    have HPL := hide (place_no HL4.out x1 x2 (by omega) _ l2 HE4.out)
    go_wp2_with fail
    refine HPL.out.mono ?_
    rintro e w5 ⟨rfl, hb5⟩
    have c1 := cell_later hb5 c1
    have c2 := cell_later hb5 c2
    go_wp2_with fail
    refine (awake23_any _).mono ?_
    rintro e w9 ⟨rfl, hb9⟩
    go_wp2
    go_ret
    exact ⟨rfl, bl_trans HB4.out (bl_trans hb5 hb9)⟩
  by_cases hc1 : x2 < 0
  · have r0 : decide (x1 < 0) = false := decide_eq_false hc0
    have r1 : decide (x2 < 0) = true := decide_eq_true hc1
    go_enter Tryd.func8, Tryd.ntmps8
    go_wp2_with fail
    refine (HENV.out _ HBW.out).mono ?_
    rintro e w1 ⟨rr, rfl, hb1, hr⟩
    cases rr
    case true =>
      go_wp2_with fail
      refine (awake23_any _).mono ?_
      rintro e w9 ⟨rfl, hb9⟩
      go_wp2
      go_ret
      exact ⟨rfl, bl_trans HBW.out (bl_trans hb1 hb9)⟩
    have hl8 : l2.length ≤ 8 := (hr.out rfl).1
    have hz := (hr.out rfl).2
    have HB1 := hide (bl_trans HBW.out hb1)
    have c1 := cell_later hb1 c1
    have c2 := cell_later hb1 c2
    have HO := hide (of23_b a0 w1 (by omega))
    clear hr hb1
    go_wp2_with fail
    refine HO.out.mono ?_
    rintro e w2 ⟨r, rfl, hL, hb2, _⟩
    have c1 := cell_later hb2 c1
    have c2 := cell_later hb2 c2
    have c0 := ln_c0 w2 r
    have c1 := cell_later (ln_b0 w2 r) c1
    have c2 := cell_later (ln_b0 w2 r) c2
    have HB2 := hide (bl_trans HB1.out (bl_trans hb2 (ln_b0 w2 r)))
    have HL := hide (hL.bl (ln_b0 w2 r))
    have HOF := hide (fun W => lnOf_any (.pointer none) ⟨none, rfl⟩ W)
    have HPN := hide (fun W (hb : Below w.heap.size w W) => place_nil x1 x2 _ l2 W (rwat_below H2.out hb))
    clear hL hb2 HO HB1 HENV
    go_wp2
    generalize (w2.alloc (.cells #[.pointer (some ⟨r, 0, none⟩)] 42)) = w3 at *
    have n1 := World.block_lt_of_cell? _ _ c1
    refine wp_region_later (by kernel_rfl) (by kernel_rfl) ?_
    repeat (go_big_quiet_step (first
      | (go_at_call 28; exact later_call (HOF.out _))
      | (go_at_call 22; exact later_call (HPN.out _ (bl_trans HB2.out (Later.below _))))
      | exact rfl))
    refine wpQuiet_nil ?_
    rintro w4 ⟨⟨_, hb4⟩, rfl⟩
    have c0 := cell_later hb4 c0
    have c1 := cell_later hb4 c1
    have c2 := cell_later hb4 c2
    have HB4 := hide (bl_trans HB2.out hb4)
    have HL4 := hide (HL.out.bl hb4)
    have HE4 := hide (rwat_below H2.out HB4.out)
    clear hb4 n1 HB2 HL HOF HPN
    have HPL := hide (place_no HL4.out x1 x2 (by omega) _ l2 HE4.out)
    go_wp2_with fail
    refine HPL.out.mono ?_
    rintro e w5 ⟨rfl, hb5⟩
    have c1 := cell_later hb5 c1
    have c2 := cell_later hb5 c2
    go_wp2_with fail
    refine (awake23_any _).mono ?_
    rintro e w9 ⟨rfl, hb9⟩
    go_wp2
    go_ret
    exact ⟨rfl, bl_trans HB4.out (bl_trans hb5 hb9)⟩
  by_cases hc2 : (a0.size : Int) < x1
  · have r0 : decide (x1 < 0) = false := decide_eq_false hc0
    have r1 : decide (x2 < 0) = false := decide_eq_false hc1
    have r2 : decide ((a0.size : Int) < x1) = true := decide_eq_true hc2
    go_enter Tryd.func8, Tryd.ntmps8
    go_wp2_with fail
    refine (HENV.out _ HBW.out).mono ?_
    rintro e w1 ⟨rr, rfl, hb1, hr⟩
    cases rr
    case true =>
      go_wp2_with fail
      refine (awake23_any _).mono ?_
      rintro e w9 ⟨rfl, hb9⟩
      go_wp2
      go_ret
      exact ⟨rfl, bl_trans HBW.out (bl_trans hb1 hb9)⟩
    have hl8 : l2.length ≤ 8 := (hr.out rfl).1
    have hz := (hr.out rfl).2
    have HB1 := hide (bl_trans HBW.out hb1)
    have c1 := cell_later hb1 c1
    have c2 := cell_later hb1 c2
    have HO := hide (of23_b a0 w1 (by omega))
    clear hr hb1
    go_wp2_with fail
    refine HO.out.mono ?_
    rintro e w2 ⟨r, rfl, hL, hb2, _⟩
    have c1 := cell_later hb2 c1
    have c2 := cell_later hb2 c2
    have c0 := ln_c0 w2 r
    have c1 := cell_later (ln_b0 w2 r) c1
    have c2 := cell_later (ln_b0 w2 r) c2
    have HB2 := hide (bl_trans HB1.out (bl_trans hb2 (ln_b0 w2 r)))
    have HL := hide (hL.bl (ln_b0 w2 r))
    have HOF := hide (fun W => lnOf_any (.pointer none) ⟨none, rfl⟩ W)
    have HPN := hide (fun W (hb : Below w.heap.size w W) => place_nil x1 x2 _ l2 W (rwat_below H2.out hb))
    clear hL hb2 HO HB1 HENV
    go_wp2
    generalize (w2.alloc (.cells #[.pointer (some ⟨r, 0, none⟩)] 42)) = w3 at *
    have n1 := World.block_lt_of_cell? _ _ c1
    refine wp_region_later (by kernel_rfl) (by kernel_rfl) ?_
    repeat (go_big_quiet_step (first
      | (go_at_call 28; exact later_call (HOF.out _))
      | (go_at_call 22; exact later_call (HPN.out _ (bl_trans HB2.out (Later.below _))))
      | exact rfl))
    refine wpQuiet_nil ?_
    rintro w4 ⟨⟨_, hb4⟩, rfl⟩
    have c0 := cell_later hb4 c0
    have c1 := cell_later hb4 c1
    have c2 := cell_later hb4 c2
    have HB4 := hide (bl_trans HB2.out hb4)
    have HL4 := hide (HL.out.bl hb4)
    have HE4 := hide (rwat_below H2.out HB4.out)
    clear hb4 n1 HB2 HL HOF HPN
    have HPL := hide (place_no HL4.out x1 x2 (by omega) _ l2 HE4.out)
    go_wp2_with fail
    refine HPL.out.mono ?_
    rintro e w5 ⟨rfl, hb5⟩
    have c1 := cell_later hb5 c1
    have c2 := cell_later hb5 c2
    go_wp2_with fail
    refine (awake23_any _).mono ?_
    rintro e w9 ⟨rfl, hb9⟩
    go_wp2
    go_ret
    exact ⟨rfl, bl_trans HB4.out (bl_trans hb5 hb9)⟩
  by_cases hc3 : (a0.size : Int) < x2
  · have r0 : decide (x1 < 0) = false := decide_eq_false hc0
    have r1 : decide (x2 < 0) = false := decide_eq_false hc1
    have r2 : decide ((a0.size : Int) < x1) = false := decide_eq_false hc2
    have r3 : decide ((a0.size : Int) < x2) = true := decide_eq_true hc3
    go_enter Tryd.func8, Tryd.ntmps8
    go_wp2_with fail
    refine (HENV.out _ HBW.out).mono ?_
    rintro e w1 ⟨rr, rfl, hb1, hr⟩
    cases rr
    case true =>
      go_wp2_with fail
      refine (awake23_any _).mono ?_
      rintro e w9 ⟨rfl, hb9⟩
      go_wp2
      go_ret
      exact ⟨rfl, bl_trans HBW.out (bl_trans hb1 hb9)⟩
    have hl8 : l2.length ≤ 8 := (hr.out rfl).1
    have hz := (hr.out rfl).2
    have HB1 := hide (bl_trans HBW.out hb1)
    have c1 := cell_later hb1 c1
    have c2 := cell_later hb1 c2
    have HO := hide (of23_b a0 w1 (by omega))
    clear hr hb1
    go_wp2_with fail
    refine HO.out.mono ?_
    rintro e w2 ⟨r, rfl, hL, hb2, _⟩
    have c1 := cell_later hb2 c1
    have c2 := cell_later hb2 c2
    have c0 := ln_c0 w2 r
    have c1 := cell_later (ln_b0 w2 r) c1
    have c2 := cell_later (ln_b0 w2 r) c2
    have HB2 := hide (bl_trans HB1.out (bl_trans hb2 (ln_b0 w2 r)))
    have HL := hide (hL.bl (ln_b0 w2 r))
    have HOF := hide (fun W => lnOf_any (.pointer none) ⟨none, rfl⟩ W)
    have HPN := hide (fun W (hb : Below w.heap.size w W) => place_nil x1 x2 _ l2 W (rwat_below H2.out hb))
    clear hL hb2 HO HB1 HENV
    go_wp2
    generalize (w2.alloc (.cells #[.pointer (some ⟨r, 0, none⟩)] 42)) = w3 at *
    have n1 := World.block_lt_of_cell? _ _ c1
    refine wp_region_later (by kernel_rfl) (by kernel_rfl) ?_
    repeat (go_big_quiet_step (first
      | (go_at_call 28; exact later_call (HOF.out _))
      | (go_at_call 22; exact later_call (HPN.out _ (bl_trans HB2.out (Later.below _))))
      | exact rfl))
    refine wpQuiet_nil ?_
    rintro w4 ⟨⟨_, hb4⟩, rfl⟩
    have c0 := cell_later hb4 c0
    have c1 := cell_later hb4 c1
    have c2 := cell_later hb4 c2
    have HB4 := hide (bl_trans HB2.out hb4)
    have HL4 := hide (HL.out.bl hb4)
    have HE4 := hide (rwat_below H2.out HB4.out)
    clear hb4 n1 HB2 HL HOF HPN
    have HPL := hide (place_no HL4.out x1 x2 (by omega) _ l2 HE4.out)
    go_wp2_with fail
    refine HPL.out.mono ?_
    rintro e w5 ⟨rfl, hb5⟩
    have c1 := cell_later hb5 c1
    have c2 := cell_later hb5 c2
    go_wp2_with fail
    refine (awake23_any _).mono ?_
    rintro e w9 ⟨rfl, hb9⟩
    go_wp2
    go_ret
    exact ⟨rfl, bl_trans HB4.out (bl_trans hb5 hb9)⟩
  have r0 : decide (x1 < 0) = false := decide_eq_false hc0
  have r1 : decide (x2 < 0) = false := decide_eq_false hc1
  have r2 : decide ((a0.size : Int) < x1) = false := decide_eq_false hc2
  have r3 : decide ((a0.size : Int) < x2) = false := decide_eq_false hc3
  go_enter Tryd.func8, Tryd.ntmps8
  go_wp2_with fail
  refine (HENV.out _ HBW.out).mono ?_
  rintro e w1 ⟨rr, rfl, hb1, hr⟩
  cases rr
  case true =>
    go_wp2_with fail
    refine (awake23_any _).mono ?_
    rintro e w9 ⟨rfl, hb9⟩
    go_wp2
    go_ret
    exact ⟨rfl, bl_trans HBW.out (bl_trans hb1 hb9)⟩
  have hl8 : l2.length ≤ 8 := (hr.out rfl).1
  have hz := (hr.out rfl).2
  have HB1 := hide (bl_trans HBW.out hb1)
  have c1 := cell_later hb1 c1
  have c2 := cell_later hb1 c2
  have HO := hide (of23_b a0 w1 (by omega))
  clear hr hb1
  go_wp2_with fail
  refine HO.out.mono ?_
  rintro e w2 ⟨r, rfl, hL, hb2, _⟩
  have c1 := cell_later hb2 c1
  have c2 := cell_later hb2 c2
  have c0 := ln_c0 w2 r
  have c1 := cell_later (ln_b0 w2 r) c1
  have c2 := cell_later (ln_b0 w2 r) c2
  have HB2 := hide (bl_trans HB1.out (bl_trans hb2 (ln_b0 w2 r)))
  have HL := hide (hL.bl (ln_b0 w2 r))
  have HOF := hide (fun W => lnOf_any (.pointer none) ⟨none, rfl⟩ W)
  have HPN := hide (fun W (hb : Below w.heap.size w W) => place_nil x1 x2 _ l2 W (rwat_below H2.out hb))
  clear hL hb2 HO HB1 HENV
  go_wp2
  generalize (w2.alloc (.cells #[.pointer (some ⟨r, 0, none⟩)] 42)) = w3 at *
  have n1 := World.block_lt_of_cell? _ _ c1
  refine wp_region_later (by kernel_rfl) (by kernel_rfl) ?_
  repeat (go_big_quiet_step (first
    | (go_at_call 28; exact later_call (HOF.out _))
    | (go_at_call 22; exact later_call (HPN.out _ (bl_trans HB2.out (Later.below _))))
    | exact rfl))
  refine wpQuiet_nil ?_
  rintro w4 ⟨⟨_, hb4⟩, rfl⟩
  have c0 := cell_later hb4 c0
  have c1 := cell_later hb4 c1
  have c2 := cell_later hb4 c2
  have HB4 := hide (bl_trans HB2.out hb4)
  have HL4 := hide (HL.out.bl hb4)
  have HE4 := hide (rwat_below H2.out HB4.out)
  clear hb4 n1 HB2 HL HOF HPN
  obtain ⟨A, hA⟩ : ∃ A : Nat, (A : Int) = x1 := ⟨x1.toNat, by omega⟩
  obtain ⟨H, hH⟩ : ∃ H : Nat, (H : Int) = x2 := ⟨x2.toNat, by omega⟩
  obtain ⟨idx, S, E, d, k1, k2, k3, k4, k5, k6, k7, k8⟩ := ln_of a0 H (by omega)
  obtain ⟨p, hp⟩ : ∃ p, min A H = p := ⟨_, rfl⟩
  obtain ⟨q, hq⟩ : ∃ q, max A H = q := ⟨_, rfl⟩
  have hgz : ∀ l : List Rw, (∀ s ∈ l, s.1.size ≤ 100 ∧ s.2.size ≤ 100) → (getV ⟨#[84, 77, 95, 70, 73, 76, 69, 80, 65, 84, 72]⟩ l).size ≤ 1000000 := by
    intro l
    induction l with
    | nil => intro _; exact Nat.zero_le _
    | cons s t ih =>
      intro h
      unfold getV
      split
      · have := (h s (by simp)).2; omega
      · exact ih (fun u hu => h u (List.mem_cons_of_mem _ hu))
  have HPL := hide (place_any HL4.out (by omega) A H p q idx S E d _ l2 HE4.out (by omega) (by omega) (by omega) (by omega) k1 k2 k3 k4 k5 k6 (by omega) _ _ _ _ rfl rfl rfl rfl (hgz l2 hz) (it_small _ idx (by omega)) (it_small _ (idx + 1) (by omega)) k8)
  rw [hA, hH] at HPL
  obtain ⟨n, hn⟩ := pl_len a0 p q (a0.extract S E) (wrdF (a0.extract S E) d) (getV ⟨#[84, 77, 95, 70, 73, 76, 69, 80, 65, 84, 72]⟩ l2) idx (getB ⟨#[84, 77, 95, 70, 73, 76, 69, 80, 65, 84, 72]⟩ l2) l2
  have HN := hide hn
  clear k1 k2 k3 k4 k5 k6 k7 k8 hgz hz hA hH hn hp hq hc0 hc1 hc2 hc3
  go_wp2_with fail
  refine HPL.out.mono ?_
  rintro e w5 ⟨v5, rfl, hb5, ho5⟩
  rw [HN.out] at ho5
  obtain ⟨aX, cX, rfl⟩ := own_slice ho5
  have c1 := cell_later hb5 c1
  have c2 := cell_later hb5 c2
  have t1 : (((n + 1 : Nat) : Int) == 0) = false := beq_eq_false_iff_ne.2 (by omega)
  clear ho5 HPL
  go_wp2_with fail
  refine (awake23_any _).mono ?_
  rintro e w9 ⟨rfl, hb9⟩
  go_wp2
  go_ret
  exact ⟨rfl, bl_trans HB4.out (bl_trans hb5 hb9)⟩

set_option maxRecDepth 100000 in
theorem lifted (os : Os) (started : os.Started) (H : Type) (enc : TypeId × Value → H) :
    ReturnsInHanded {} Tryd.checked os 8 .any (fun w args => (Rows.varsNilSpec.pre enc Tryd.prog Tryd.f8 Rows.varsNilRow.domain false w args ∧ laidMetH Tryd.prog Rows.varsNilRow.laid w) ∧ sizedMet enc Tryd.prog Tryd.f8 (OpenSpec.ofChange Rows.varsNilSpec) false w args) (Rows.varsNilSpec.post enc Tryd.prog Tryd.f8 false true false false) := by
  refine returnsInHanded_of_change_and (C := Tryd.checked) (X := fun w _ => laidMetH Tryd.prog Rows.varsNilRow.laid w) (fun _ _ _ hh h => h.of_heap hh) own started (by kernel_rfl) Tryd.func8
    (ChangeSpec.witness_shaped (enc := enc) (C := Tryd.checked) (os := os) (X := fun w _ => laidMetH Tryd.prog Rows.varsNilRow.laid w) false (World.laidAll Tryd.prog os Rows.varsNilRow.laid) #[.string ByteArray.empty, .agg #[.int .i64 0, .int .i64 0], .slice none 0 0] 8 (World.laidAll_os _ _ _)
      (World.shaped_of_ZipB (by kernel_rfl) (by kernel_rfl)) (by kernel_rfl) (by kernel_rfl) (by kernel_rfl)
      (by rw [MakeChecks.laidMetH_plain _ _ _ (by kernel_rfl)]; exact laidMet_laidAll _ (by kernel_rfl) (by kernel_rfl))) ?_
  intro W base args ds gs before hval0 hW hcnd _ hL _
  have hval : ∀ (j : Nat) t v, Tryd.f8.params[j]? = some t → args[j]? = some v → Value.okWide Tryd.prog W .any base t v := hval0
  have hW' := hW
  obtain ⟨p, q, hA0, hV, rfl, hfz, hnd⟩ := hW
  have hA : DataW.TrodAll enc Tryd.prog W 0 (fun _ => true) true Tryd.f8.params.toList args.toList ds p := hA0
  rw [Tryd.params8] at hA hval
  obtain ⟨v0, vs0, d0, ds0, p0, q0, hargs, rfl, rfl, h0, r0⟩ := trodAll_cons hA
  obtain ⟨v1, vs1, d1, ds1, p1, q1, rfl, rfl, rfl, h1, r1⟩ := trodAll_cons r0
  obtain ⟨v2, vs2, d2, ds2, p2, q2, rfl, rfl, rfl, h2, r2⟩ := trodAll_cons r1
  obtain ⟨rfl, rfl, rfl⟩ := trodAll_nil r2
  obtain rfl : args = #[v0, v1, v2] := by cases args; simp_all
  obtain ⟨rfl, rfl⟩ := trodVars_none hV
  have k0 := h0
  have lt0 : ∀ x ∈ p0, x.block < W.heap.size := by obtain ⟨m, hm⟩ := k0; exact DataW.trod_lt m _ _ _ hm
  obtain ⟨a0, rfl, hd0, hp0, w0⟩ := open_string Tryd.underlying9 (hval 0 9 v0 rfl rfl) h0
  have k1 := h1
  have lt1 : ∀ x ∈ p1, x.block < W.heap.size := by obtain ⟨m, hm⟩ := k1; exact DataW.trod_lt m _ _ _ hm
  obtain ⟨s1, rfl, b1⟩ := open_span (hval 1 39 v1 rfl rfl) h1
  have k2 := h2
  have lt2 : ∀ x ∈ p2, x.block < W.heap.size := by obtain ⟨m, hm⟩ := k2; exact DataW.trod_lt m _ _ _ hm
  obtain ⟨l2, w2, b2⟩ := open_rows (hval 2 22 v2 rfl rfl) h2
  clear hA0 hval0
  refine (walk a0 s1 v2 l2 W w0 b1 w2 b2).mono fun e W' ⟨he, bel⟩ => ?_
  subst he
  exact ⟨_, rfl, _, _, _, [], _, [], hW', trodAll_mk1 (shut_bool Tryd.underlying4 _), (trodAll_cons_mk (Below.trod laidOut (by kernel_rfl) (of_decide_eq_true (by kernel_rfl)) k0 bel lt0) (trodAll_cons_mk (Below.trod laidOut (by kernel_rfl) (of_decide_eq_true (by kernel_rfl)) k1 bel lt1) (trodAll_cons_mk (Below.trod laidOut (by kernel_rfl) (of_decide_eq_true (by kernel_rfl)) k2 bel lt2) trodAll_mk0))), rfl, bel.frame _, fun h => by cases h⟩

theorem over : Rows.varsNilRow.holds Tryd.pinned (OpenSpec.ofChange Rows.varsNilSpec) :=
  OpenClaim.holds_of_wide 8 Tryd.f8 rfl rfl rfl rfl rfl rfl rfl ⟨rfl, rfl, rfl, rfl, rfl⟩ rfl rfl rfl rfl rfl (by kernel_rfl) Tryd.func8 (by kernel_rfl)
    (of_decide_eq_true (by kernel_rfl)) (by unfold Func.isWrapper; first | (rw [if_pos (by decide +kernel)]; kernel_rfl) | (rw [if_neg (by decide +kernel)]; exact ⟨rfl, rfl⟩))
    (fun os started H enc _ => lifted os started H enc)

set_option maxRecDepth 100000 in
theorem proved : Rows.VarsNilCardSaid :=
  Claim7.holds_tied_plain_at .later [] [.data, .data, .data] true (true, "ad88b18fa5cecbf30a26213c9b87035bcf4c1f531589068041e55abbb04c666c") false
    over (fun _ h => by cases h) (by kernel_rfl) (fun _ h => by cases h) varsNil_row_tie rfl ⟨rfl, rfl⟩ (by kernel_rfl) rfl
    (fun f fn hf hfn => by
      obtain rfl : f = 8 := Option.some.inj ((show Tryd.prog.funcNamed "gimlet/gimletlaw23.VarsNil" = some 8 by kernel_rfl).symm.trans hf) |>.symm
      obtain rfl : fn = Tryd.f8 := (Option.some.inj (Tryd.func8.symm.trans hfn)).symm
      refine ⟨by kernel_rfl, fun j t ht => ?_⟩
      rw [Tryd.params8] at ht
      have hm := Array.mem_of_getElem? ht
      simp at hm
      rcases hm with rfl | rfl | rfl
      all_goals first | exact (show Tryd.prog.wantsStandIn 9 = false by kernel_rfl) | exact (show Tryd.prog.wantsStandIn 22 = false by kernel_rfl) | exact (show Tryd.prog.wantsStandIn 39 = false by kernel_rfl))
    (by kernel_rfl)
end Go.Proofs.YtmjadcjpgcbalaaDoor.varsNil
