/- What is put in at a place makes a range longer within it, moves it ahead of it, and at its ends goes by how these are posed. Conditions: none beyond the form's own. -/
import Derived.Test.YtjmoeahlbgdkbaaRows
import Derived.Test.YtjmoeahlbgdkbaaArgs
import Derived.Test.YtjmoeahlbgdkbaaTabArgs
import Derived.Test.YtjmoeahlbgdkbaaTabW
namespace Go.Proofs.Ytjmoeahlbgdkbaa.marksTyped
open Go.Proofs.Ytjmoeahlbgdkbaa
open Go.ChangeShapes Go.WideShapes Go.ChangeAt Go.RowKit Go.Deep
open Go.ChangeMaps (open_string shut_string)
set_option linter.unusedVariables false

theorem own : ownKnob Try.prog.godebug = none := by kernel_rfl
theorem laidOut : laidOutB Try.prog = true := by kernel_rfl
-- opt:8000000
open SpanM EdM
attribute [local go_sem ↓] Go.wp_at_zero Go.wp_at_succ
theorem mv1_put (r : Bool) (a P : Int) (s : ByteArray) : mv1 r a ((P, P), s) = if P < a ∨ (P = a ∧ r = true) then a + s.size else a := by
  have hdl : dl ((P, P), s) = s.size := by unfold dl EdM.len; simp only; omega
  rcases Int.lt_trichotomy P a with h | h | h
  · rw [if_pos (.inl h)]
    unfold mv1
    rw [if_neg (by simp only; omega), if_pos (by simp only; omega), hdl]
  · subst h
    unfold mv1
    rw [if_neg (by simp only; omega), if_neg (by simp only; omega)]
    cases r
    · rw [if_neg (by simp), if_neg (by simp)]
    · rw [if_pos rfl, if_pos (.inr ⟨rfl, rfl⟩)]
      rfl
  · rw [if_neg (by omega)]
    unfold mv1
    rw [if_pos (by simp only; omega)]
theorem typ (A B P : Int) (r0 r1 : Bool) (s : ByteArray) : mvAll (sortE [((P, P), s)]) [⟨1, A, B, r0, r1, 0⟩] = [⟨1, min (mv1 r0 A ((P, P), s)) (mv1 r1 B ((P, P), s)), mv1 r1 B ((P, P), s), r0, r1, 0⟩] := by rw [sort_one]; rfl
theorem pick3 (P A n : Int) (r : Bool) : (decide (P < A) = true ∧ (if P < A ∨ P = A ∧ r = true then A + n else A) = A + n) ∨ (decide (P < A) = false ∧ (P == A) = true ∧ r = true ∧ (if P < A ∨ P = A ∧ r = true then A + n else A) = A + n) ∨
    (decide (P < A) = false ∧ (P == A) = true ∧ r = false ∧ (if P < A ∨ P = A ∧ r = true then A + n else A) = A) ∨ (decide (P < A) = false ∧ (P == A) = false ∧ (if P < A ∨ P = A ∧ r = true then A + n else A) = A) := by
  by_cases h1 : P < A
  · exact .inl ⟨by simp [h1], if_pos (.inl h1)⟩
  · by_cases h2 : P = A
    · cases r
      · exact .inr (.inr (.inl ⟨by simp [h1], by simp [h2], rfl, if_neg (by simp [h1])⟩))
      · exact .inr (.inl ⟨by simp [h1], by simp [h2], rfl, if_pos (.inr ⟨h2, rfl⟩)⟩)
    · exact .inr (.inr (.inr ⟨by simp [h1], by simp [h2], if_neg (by simp [h1, h2])⟩))
theorem low_e (x : Int) (n : Nat) (A : Int) (w : World) (hn : 0 < n) (hn' : n < 1000000000) (hA : (lowN x n : Int) = A) : Calls Try.prog 24 #[.int .i64 x, .int .i64 n] w fun e w' => e = .returned (.int .i64 A) ∧ w = w' := by
  subst hA; exact low_any x n w hn hn'
set_option maxRecDepth 100000 in
set_option maxHeartbeats 8000000 in
theorem walk (a0 : Int) (a1 : Int) (a2 : Int) (a3_0 a3_1 : Bool) (a4 : ByteArray) (w : World) (w0 : (Lit.int .i64 a0).wf = true) (w1 : (Lit.int .i64 a1).wf = true) (w2 : (Lit.int .i64 a2).wf = true) (w4 : a4.size ≤ maxLen) :
    Calls Try.prog 8 #[.int .i64 a0, .int .i64 a1, .int .i64 a2, .agg #[.bool a3_0, .bool a3_1], .string a4] w fun e w' => e = .returned (.bool true) ∧ Below w.heap.size w w' := by
  by_cases hin : a4.size ≤ 50
  case neg =>
    have g1 : decide (50 < a4.size) = true := by simp; omega
    have g2 : decide ((50 : Int) < (a4.size : Int)) = true := by simp; omega
    clear hin
    go_enter Try.func8, Try.ntmps8
    go_wp2_with fail
    refine (awake7_any _).mono ?_
    rintro e w1 ⟨rfl, hb1⟩
    have hb := bl_trans (bl_alloc (bl_refl w) (.cells #[.bool a3_0, .bool a3_1] 64)) hb1
    go_wp2
    go_ret
    exact ⟨rfl, hb⟩
  have g1 : decide (50 < a4.size) = false := by simp; omega
  have g2 : decide ((50 : Int) < (a4.size : Int)) = false := by simp; omega
  obtain ⟨A, hA⟩ : ∃ A, (lowN a0 50 : Int) = A := ⟨_, rfl⟩
  obtain ⟨M, hM⟩ : ∃ A, (lowN a1 10 : Int) = A := ⟨_, rfl⟩
  obtain ⟨P, hP⟩ : ∃ A, (lowN a2 62 : Int) = A := ⟨_, rfl⟩
  have hA1 : 0 ≤ A ∧ A < 50 := by have := lowN_lt a0 50 (by omega); omega
  have hM1 : 0 ≤ M ∧ M < 10 := by have := lowN_lt a1 10 (by omega); omega
  have hP1 : 0 ≤ P ∧ P < 62 := by have := lowN_lt a2 62 (by omega); omega
  obtain ⟨hA1, hA2⟩ := hA1
  obtain ⟨hM1, hM2⟩ := hM1
  obtain ⟨hP1, hP2⟩ := hP1
  have HA := hide hA
  have HM := hide hM
  have HP := hide hP
  clear hA hM hP
  go_enter Try.func8, Try.ntmps8
  go_wp2_with fail
  refine (low_e a0 50 A _ (by omega) (by omega) HA.out).mono ?_
  rintro e wa ⟨rfl, rfl⟩
  go_wp2_with fail
  refine (low_e a1 10 M _ (by omega) (by omega) HM.out).mono ?_
  rintro e wb ⟨rfl, rfl⟩
  go_wp2_with fail
  refine (low_e a2 62 P _ (by omega) (by omega) HP.out).mono ?_
  rintro e wc ⟨rfl, rfl⟩
  have hb0 : Below w.heap.size w (w.alloc (.cells #[.bool a3_0, .bool a3_1] 64)) := bl_alloc (bl_refl w) _
  have hx0 := (World.cell?_alloc_mark w #[.bool a3_0, .bool a3_1] 64 (0, 0) 0)
  have hx1 := (World.cell?_alloc_mark w #[.bool a3_0, .bool a3_1] 64 (0, 0) 1)
  obtain ⟨w1, hw1⟩ : ∃ w1, w.alloc (.cells #[.bool a3_0, .bool a3_1] 64) = w1 := ⟨_, rfl⟩
  have hlt1 : w.heap.size < w1.heap.size := by rw [← hw1]; simp
  rw [hw1] at hb0 hx0 hx1 ⊢
  replace hx0 : w1.cell? ⟨w.heap.size, 0, none⟩ = some (.bool a3_0) := hx0
  replace hx1 : w1.cell? ⟨w.heap.size, 1, none⟩ = some (.bool a3_1) := hx1
  clear hw1
  have T0 := hide (tab_new w1)
  have B0 := hide (bl_alloc (bl_refl w1) (.cells #[.int .i64 0, .slice none 0 0] 75))
  have hsz : w1.heap.size ≤ (w1.alloc (.cells #[.int .i64 0, .slice none 0 0] 75)).heap.size := by simp
  go_wp2_with fail
  refine (mnew_any _).mono ?_
  rintro e w2 ⟨rfl, hw2⟩
  rw [hw2] at T0 B0 hsz
  clear hw2
  have hmay : mayB (A, A + M) 65536 = true := by unfold mayB; simp; omega
  go_wp2_with fail
  refine (add_any w1.heap.size w1.heap.size 0 _ [] A (A + M) false false _ T0.out (by omega) hsz hmay (by decide)).mono ?_
  rintro e w3 ⟨rfl, ⟨v3, T3⟩, B3⟩
  rw [List.nil_append] at T3
  have B4 := B0.out.trans B3
  have y0 := B4.cell (p := ⟨w.heap.size, 0, none⟩) hlt1
  have y1 := B4.cell (p := ⟨w.heap.size, 1, none⟩) hlt1
  rw [hx0] at y0
  rw [hx1] at y1
  have hlt3 : w.heap.size < w3.heap.size := Nat.lt_of_lt_of_le hlt1 B4.size
  have HPO := hide (pose_any w1.heap.size w1.heap.size _ v3 _ 1 a3_0 a3_1 w3 T3 (rise_one _) (by simp) B4.size)
  clear T3 T0 hmay
  go_wp2_with fail
  refine HPO.out.mono ?_
  rintro e w5 ⟨hpo, B5⟩
  have B6 := B4.trans B5
  have z0 := B6.cell (p := ⟨w.heap.size, 0, none⟩) hlt1
  have z1 := B6.cell (p := ⟨w.heap.size, 1, none⟩) hlt1
  rw [hx0] at z0
  rw [hx1] at z1
  rcases hpo with ⟨i, hi, hid, rfl, T6⟩ | ⟨hno, _⟩
  case inr => exact absurd rfl (hno _ (List.mem_singleton.2 rfl))
  obtain rfl : i = 0 := by simpa using hi
  replace T6 : Tab w5 w1.heap.size w1.heap.size (0 + 1) v3 [⟨0 + 1, A, A + M, a3_0, a3_1, 0⟩] := T6
  have hba : Below w5.heap.size w5 (w5.alloc (.cells #[.int .i64 P, .int .i64 P, .string a4] 61)) := bl_alloc (bl_refl w5) _
  have hE := alloc1 w5 P P a4
  have HMOVE := hide (tmove_any w1.heap.size w1.heap.size _ v3 _ _ _ _ (T6.later hba) (rise_one _) (by simp) (Nat.le_trans B6.size hba.size) hE (by simp) (by intro e he; rw [List.mem_singleton] at he; subst he; unfold Good; simp only; omega) (mayN_one P P _ (by omega) (by omega) (by omega)) (by intro r hr; rw [List.mem_singleton] at hr; subst hr; simp only; omega))
  have B7 := B6.trans (hba.mono B6.size)
  clear T6 hE HPO hid hi hba
  go_wp2_with fail
  refine HMOVE.out.mono ?_
  rintro e w8 ⟨rfl, T8, B8⟩
  have B9 := B7.trans B8
  have q0 := B9.cell (p := ⟨w.heap.size, 0, none⟩) hlt1
  have q1 := B9.cell (p := ⟨w.heap.size, 1, none⟩) hlt1
  rw [hx0] at q0
  rw [hx1] at q1
  rw [show (0 : Int) + 1 = 1 from rfl, typ, mv1_put, mv1_put] at T8
  have BW := bl_trans hb0 B9
  have hs9 : w.heap.size < w8.heap.size := Nat.lt_of_lt_of_le hlt1 B9.size
  clear HMOVE hx0 hx1 y0 y1 z0 z1 B5 B6 B7 B8 hb0
  have hA3 : (decide (P < A) = true ∧ (if P < A ∨ P = A ∧ a3_0 = true then A + (a4.size : Int) else A) = A + a4.size) ∨ (decide (P < A) = false ∧ (P == A) = true ∧ a3_0 = true ∧ (if P < A ∨ P = A ∧ a3_0 = true then A + (a4.size : Int) else A) = A + a4.size) ∨
      (decide (P < A) = false ∧ (P == A) = true ∧ a3_0 = false ∧ (if P < A ∨ P = A ∧ a3_0 = true then A + (a4.size : Int) else A) = A) ∨ (decide (P < A) = false ∧ (P == A) = false ∧ (if P < A ∨ P = A ∧ a3_0 = true then A + (a4.size : Int) else A) = A) := pick3 P A _ a3_0
  have hB3 : (decide (P < A + M) = true ∧ (if P < A + M ∨ P = A + M ∧ a3_1 = true then A + M + (a4.size : Int) else A + M) = A + M + a4.size) ∨ (decide (P < A + M) = false ∧ (P == A + M) = true ∧ a3_1 = true ∧ (if P < A + M ∨ P = A + M ∧ a3_1 = true then A + M + (a4.size : Int) else A + M) = A + M + a4.size) ∨
      (decide (P < A + M) = false ∧ (P == A + M) = true ∧ a3_1 = false ∧ (if P < A + M ∨ P = A + M ∧ a3_1 = true then A + M + (a4.size : Int) else A + M) = A + M) ∨ (decide (P < A + M) = false ∧ (P == A + M) = false ∧ (if P < A + M ∨ P = A + M ∧ a3_1 = true then A + M + (a4.size : Int) else A + M) = A + M) := pick3 P (A + M) _ a3_1
  rcases hA3 with ⟨k1, e1⟩ | ⟨k1, k2, rfl, e1⟩ | ⟨k1, k2, rfl, e1⟩ | ⟨k1, k2, e1⟩
  all_goals rcases hB3 with ⟨k3, e2⟩ | ⟨k3, k4, rfl, e2⟩ | ⟨k3, k4, rfl, e2⟩ | ⟨k3, k4, e2⟩
  all_goals
    rw [e1, e2] at T8
    have HT8 := hide T8
    clear T8 e1 e2
    go_wp2_with fail
    refine (get_any w1.heap.size w1.heap.size _ _ _ 1 _ HT8.out (rise_one _) (by simp)).mono ?_
    rintro e w10 ⟨⟨r, ok, rfl, hgot⟩, hb10⟩
    obtain ⟨rfl, rfl⟩ := got_one hgot rfl
    have BW2 := fun o => bl_alloc (bl_trans BW hb10) o
    clear hgot HT8
    unfold vR
    go_wp2_with fail
    refine (awake7_any _).mono ?_
    rintro e w12 ⟨rfl, hb12⟩
    have BW3 := bl_trans (BW2 _) hb12
    go_wp2
    go_ret
    exact ⟨rfl, BW3⟩

set_option maxRecDepth 100000 in
theorem lifted (os : Os) (started : os.Started) (H : Type) (enc : TypeId × Value → H) :
    ReturnsInHanded {} Try.checked os 8 .any (Rows.marksTypedSpec.pre6 enc Try.prog Try.f8 Rows.marksTypedRow.domain false) (Rows.marksTypedSpec.post enc Try.prog Try.f8 false true false false) := by
  refine returnsInHanded_of_change (C := Try.checked) own started (by kernel_rfl) Try.func8
    (ChangeSpec.witness6 (enc := enc) (C := Try.checked) false ⟨#[], #[.int .i64 0, .int .i64 0, .int .i64 0, .agg #[.bool false, .bool false], .string ByteArray.empty], []⟩ 8 (by kernel_rfl) (by kernel_rfl) (by kernel_rfl) (by kernel_rfl)) ?_
  intro W base args ds gs before hval0 hW hcnd _
  have hval : ∀ (j : Nat) t v, Try.f8.params[j]? = some t → args[j]? = some v → Value.okWide Try.prog W .any base t v := hval0
  have hW' := hW
  obtain ⟨p, q, hA0, hV, rfl, hfz, hnd⟩ := hW
  have hA : DataW.TrodAll enc Try.prog W 0 (fun _ => true) true Try.f8.params.toList args.toList ds p := hA0
  rw [Try.params8] at hA hval
  obtain ⟨v0, vs0, d0, ds0, p0, q0, hargs, rfl, rfl, h0, r0⟩ := trodAll_cons hA
  obtain ⟨v1, vs1, d1, ds1, p1, q1, rfl, rfl, rfl, h1, r1⟩ := trodAll_cons r0
  obtain ⟨v2, vs2, d2, ds2, p2, q2, rfl, rfl, rfl, h2, r2⟩ := trodAll_cons r1
  obtain ⟨v3, vs3, d3, ds3, p3, q3, rfl, rfl, rfl, h3, r3⟩ := trodAll_cons r2
  obtain ⟨v4, vs4, d4, ds4, p4, q4, rfl, rfl, rfl, h4, r4⟩ := trodAll_cons r3
  obtain ⟨rfl, rfl, rfl⟩ := trodAll_nil r4
  obtain rfl : args = #[v0, v1, v2, v3, v4] := by cases args; simp_all
  obtain ⟨rfl, rfl⟩ := trodVars_none hV
  have k0 := h0
  have lt0 : ∀ x ∈ p0, x.block < W.heap.size := by obtain ⟨m, hm⟩ := k0; exact DataW.trod_lt m _ _ _ hm
  obtain ⟨a0, rfl, hd0, hp0, w0⟩ := open_int Try.underlying3 (hval 0 3 v0 rfl rfl) h0
  have k1 := h1
  have lt1 : ∀ x ∈ p1, x.block < W.heap.size := by obtain ⟨m, hm⟩ := k1; exact DataW.trod_lt m _ _ _ hm
  obtain ⟨a1, rfl, hd1, hp1, w1⟩ := open_int Try.underlying3 (hval 1 3 v1 rfl rfl) h1
  have k2 := h2
  have lt2 : ∀ x ∈ p2, x.block < W.heap.size := by obtain ⟨m, hm⟩ := k2; exact DataW.trod_lt m _ _ _ hm
  obtain ⟨a2, rfl, hd2, hp2, w2⟩ := open_int Try.underlying3 (hval 2 3 v2 rfl rfl) h2
  have k3 := h3
  have lt3 : ∀ x ∈ p3, x.block < W.heap.size := by obtain ⟨m, hm⟩ := k3; exact DataW.trod_lt m _ _ _ hm
  obtain ⟨a3_0, a3_1, rfl⟩ := open_bools2 Try.underlying64 Try.underlying4 (by kernel_rfl) (by kernel_rfl) (hval 3 64 v3 rfl rfl) h3
  have k4 := h4
  have lt4 : ∀ x ∈ p4, x.block < W.heap.size := by obtain ⟨m, hm⟩ := k4; exact DataW.trod_lt m _ _ _ hm
  obtain ⟨a4, rfl, hd4, hp4, w4⟩ := open_string Try.underlying9 (hval 4 9 v4 rfl rfl) h4
  clear hA0 hval0
  refine (walk a0 a1 a2 a3_0 a3_1 a4 W w0 w1 w2 w4).mono fun e W' ⟨he, bel⟩ => ?_
  subst he
  exact ⟨_, rfl, _, _, _, [], _, [], hW', trodAll_mk1 (shut_bool Try.underlying4 _), (trodAll_cons_mk (Below.trod laidOut (by kernel_rfl) (of_decide_eq_true (by kernel_rfl)) k0 bel lt0) (trodAll_cons_mk (Below.trod laidOut (by kernel_rfl) (of_decide_eq_true (by kernel_rfl)) k1 bel lt1) (trodAll_cons_mk (Below.trod laidOut (by kernel_rfl) (of_decide_eq_true (by kernel_rfl)) k2 bel lt2) (trodAll_cons_mk (Below.trod laidOut (by kernel_rfl) (of_decide_eq_true (by kernel_rfl)) k3 bel lt3) (trodAll_cons_mk (Below.trod laidOut (by kernel_rfl) (of_decide_eq_true (by kernel_rfl)) k4 bel lt4) trodAll_mk0))))), rfl, bel.frame _, fun h => by cases h⟩

theorem over : Rows.marksTypedRow.holds Try.pinned (OpenSpec.ofChange Rows.marksTypedSpec) :=
  OpenClaim.holds_of_wide 8 Try.f8 rfl rfl rfl rfl rfl rfl rfl ⟨rfl, rfl, rfl, rfl, rfl⟩ rfl rfl rfl rfl rfl (by kernel_rfl) Try.func8 (by kernel_rfl)
    (of_decide_eq_true (by kernel_rfl)) (by unfold Func.isWrapper; first | (rw [if_pos (by decide +kernel)]; kernel_rfl) | (rw [if_neg (by decide +kernel)]; exact ⟨rfl, rfl⟩))
    (fun os started H enc _ => lifted os started H enc)

theorem proved : Rows.MarksTypedSaid := over
end Go.Proofs.Ytjmoeahlbgdkbaa.marksTyped
