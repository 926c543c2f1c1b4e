/- Edits that are apart lead an offset where each by itself does, from the last one to the first. Conditions: none beyond the form's own. -/
import Derived.Test.YtbaaciekjpadfaaRows
import Derived.Test.YtbaaciekjpadfaaArgs
import Derived.Test.YtbaaciekjpadfaaEdL
namespace Go.Proofs.Ytbaaciekjpadfaa.moveSingly
open Go.Proofs.Ytbaaciekjpadfaa
open Go.ChangeShapes Go.WideShapes Go.ChangeAt Go.RowKit Go.Deep
open Go.ChangeMaps (open_string shut_string)
set_option linter.unusedVariables false

theorem own : ownKnob Try.prog.godebug = none := by kernel_rfl
theorem laidOut : laidOutB Try.prog = true := by kernel_rfl
-- opt:4000000
open SpanM EdM
attribute [local go_sem ↓] Go.wp_at_zero Go.wp_at_succ
set_option maxRecDepth 100000 in
set_option maxHeartbeats 4000000 in
theorem walk (a0 : Int) (a1 : Bool) (a2 : Value) (l2 : List EdM.Ed) (a3 : Int) (w : World) (w0 : (Lit.int .i64 a0).wf = true) (w2 : EdAt w a2 l2) (b2 : ∀ e ∈ l2, WfE e) (w3 : (Lit.int .i64 a3).wf = true) :
    Calls Try.prog 7 #[.int .i64 a0, .bool a1, a2, .int .i64 a3] w fun e w' => e = .returned (.bool true) ∧ Below w.heap.size w w' := by
  by_cases hin : -1099511627776 ≤ a0 ∧ a0 ≤ 1099511627776
  · obtain ⟨hi1, hi2⟩ := hin
    have g1 : decide (a0 < -1099511627776) = false := by simp; omega
    have g2 : decide (1099511627776 < a0) = false := by simp; omega
    have W2 := hide w2
    have hP := hide (edat_long w2)
    clear w2 w0 w3
    go_enter Try.func7, Try.ntmps7
    go_wp2_with fail
    refine (apart6_any 100 a2 l2 _ W2.out (by omega) hP.out).mono ?_
    rintro e w1 ⟨v1, l, rfl, hap, hb1, ho1⟩
    have hll := hap.len
    have HE1 := hide (own_edat ho1)
    have HAP := hide hap
    have HAT := hide (ap_at hap (by omega))
    have HG := hide (ap_good hap (by omega) (.refl l))
    obtain ⟨aE, cE, rfl⟩ := edat_len HE1.out
    obtain ⟨i0, hi0⟩ : ∃ i0, IntKind.i64.wrap ((l.length : Int) - 1) = i0 := ⟨_, rfl⟩
    have hst : (l.length = 0 ∧ i0 = -1) ∨ ∃ q, l.length = q + 1 ∧ i0 = (q : Int) := by
      rw [IntWalk.i64_in _ (by omega)] at hi0
      rcases Nat.eq_zero_or_pos l.length with h | h
      · exact .inl ⟨h, by omega⟩
      · exact .inr ⟨l.length - 1, by omega, by omega⟩
    have HST := hide hst
    clear hst hap ho1
    go_wp2
    go_loopw [10, 11] (fun kv i wr => ∃ j : Nat, j ≤ l.length ∧ ((j = 0 ∧ i = .int .i64 (-1)) ∨ (∃ q : Nat, j = q + 1 ∧ i = .int .i64 q)) ∧ kv = .int .i64 (mvR a1 (l.drop j) a0) ∧ Below w1.heap.size w1 wr) (fun _ i _ => (intOf i + 1).toNat)
    case atStart =>
      refine ⟨l.length, Nat.le_refl _, ?_, by rw [List.drop_length]; rfl, bl_refl w1⟩
      rcases HST.out with ⟨h1, h2⟩ | ⟨q, h1, h2⟩
      · exact .inl ⟨h1, by rw [h2]⟩
      · exact .inr ⟨q, h1, by rw [h2]⟩
    case round =>
      obtain ⟨j, hj, hcase, rfl, hbl⟩ := hrel
      rcases hcase with ⟨rfl, rfl⟩ | ⟨q, rfl, rfl⟩
      · have HE2 := hide (edat_below HE1.out hbl)
        rw [List.drop_zero]
        obtain ⟨r, hr⟩ : ∃ r, mvR a1 l a0 = r := ⟨_, rfl⟩
        rw [hr]
        have HR := hide hr
        clear hr
        go_wp2_with fail
        refine (turned_any _ l a3 _ HE2.out hll).mono ?_
        rintro e w3 ⟨v3, k3, rfl, hk3, hb3, ho3⟩
        have HE3 := hide (edat_of ho3 (turn_len l k3))
        have HR3 : Hid (mvR a1 (sortE (turn l k3)) a0 = r) := hide (by rw [ap_sort HAP.out (turn_perm l k3)]; exact HR.out)
        have HG3 := hide (ap_good HAP.out (by omega) (turn_perm l k3))
        have hl3 : (turn l k3).length ≤ 20 := by rw [turn_len]; exact hll
        clear ho3
        go_wp2_with fail
        refine (move_good a0 r a1 _ (turn l k3) _ HE3.out hl3 HG3.out (by omega) HR3.out).mono ?_
        rintro e w4 ⟨rfl, hb4⟩
        clear HR HR3 HE3 HG3
        go_wp2_with fail
        refine (awake6_any _).mono ?_
        rintro e w5 ⟨rfl, hb5⟩
        go_wp2
        go_ret
        exact ⟨rfl, bl_trans hb1 (bl_trans hbl (bl_trans hb3 (bl_trans hb4 hb5)))⟩
      · have hq : q < l.length := by omega
        obtain ⟨b1', o1, c1', hv1, hc1, hm1, hlb1, hcell1⟩ := edat_some (edat_below HE1.out hbl) (by omega)
        injection hv1 with hv1 _ hv1c
        subst hv1 hv1c
        unfold maxLen at hm1
        obtain ⟨x1, x2, x3⟩ := hcell1 q hq
        have hstep := mvR_drop a1 l q hq a0
        have hwide := mv_wide a1 (l.drop (q + 1)) (fun e he => HG.out e (List.mem_of_mem_drop he)) a0 (by omega) (by rw [List.length_drop]; omega)
        have hge := HG.out l[q] (List.getElem_mem hq)
        have hone := mv_one a1 (mvR a1 (l.drop (q + 1)) a0) l[q]
        clear hcell1
        generalize l[q] = e0 at *
        obtain ⟨⟨f, t⟩, x⟩ := e0
        replace x1 : wr.cell? ⟨b1', o1 + q * 3, none⟩ = some (.int .i64 f) := x1
        replace x2 : wr.cell? ⟨b1', o1 + q * 3 + 1, none⟩ = some (.int .i64 t) := x2
        replace x3 : wr.cell? ⟨b1', o1 + q * 3 + 2, none⟩ = some (.string x) := x3
        generalize mvR a1 (l.drop (q + 1)) a0 = cur at *
        rw [← hstep] at hone
        obtain ⟨nx, hnx⟩ : ∃ nx, mvR a1 (l.drop q) a0 = nx := ⟨_, rfl⟩
        rw [hnx] at hone
        have HONE := hide hone
        have HNX := hide hnx
        have HGE := hide hge
        obtain ⟨hw1, hw2⟩ := hwide
        clear hstep hone hnx hge
        have hfin : ∀ W, Below w1.heap.size w1 W → ∀ i, ((q = 0 ∧ i = Value.int .i64 (-1)) ∨ (∃ p : Nat, q = p + 1 ∧ i = .int .i64 p)) → ∃ j : Nat, j ≤ l.length ∧ ((j = 0 ∧ i = .int .i64 (-1)) ∨ (∃ q : Nat, j = q + 1 ∧ i = .int .i64 q)) ∧ Value.int .i64 nx = .int .i64 (mvR a1 (l.drop j) a0) ∧ Below w1.heap.size w1 W := fun W hb i hi => ⟨q, by omega, hi, by rw [HNX.out], hb⟩
        have HFIN := hide hfin
        clear hfin
        have H1 := hide (alloc1 wr f t x)
        have hba : Below wr.heap.size wr (wr.alloc (.cells #[.int .i64 f, .int .i64 t, .string x] 45)) := bl_alloc (bl_refl wr) _
        rcases Nat.eq_zero_or_pos q with h0 | h0
        · subst h0
          rw [Nat.zero_mul, Nat.add_zero] at x1 x2 x3
          go_wp2_with fail
          refine (move_good cur nx a1 _ [((f, t), x)] _ H1.out (by simp) (fun e he => by rw [List.mem_singleton] at he; subst he; exact HGE.out) ⟨hw1, hw2⟩ HONE.out).mono ?_
          rintro e w4 ⟨rfl, hb4⟩
          have hb5 := bl_trans hbl (bl_trans hba hb4)
          clear x1 x2 x3
          go_wp2
          refine ⟨?_, by first | (simp [intOf]; done) | (simp [intOf]; omega)⟩
          exact HFIN.out _ hb5 _ (.inl ⟨by first | rfl | trivial, by first | rfl | trivial⟩)
        · obtain ⟨p, rfl⟩ : ∃ p, q = p + 1 := ⟨q - 1, by omega⟩
          have hwp : IntKind.i64.wrap ((p : Int) + 1 - 1) = (p : Int) := by rw [IntWalk.i64_in _ (by omega)]; omega
          go_wp2_with fail
          refine (move_good cur nx a1 _ [((f, t), x)] _ H1.out (by simp) (fun e he => by rw [List.mem_singleton] at he; subst he; exact HGE.out) ⟨hw1, hw2⟩ HONE.out).mono ?_
          rintro e w4 ⟨rfl, hb4⟩
          have hb5 := bl_trans hbl (bl_trans hba hb4)
          clear x1 x2 x3
          go_wp2
          refine ⟨?_, by first | (simp [intOf]; done) | (simp [intOf]; omega)⟩
          exact HFIN.out _ hb5 _ (.inr ⟨p, by first | rfl | trivial, by first | rfl | trivial⟩)
  · have g : decide (a0 < -1099511627776) = true ∨ (decide (a0 < -1099511627776) = false ∧ decide (1099511627776 < a0) = true) := by
      by_cases h : a0 < -1099511627776
      · exact .inl (by simpa using h)
      · exact .inr ⟨by simp; omega, by simp; omega⟩
    clear hin
    rcases g with g1 | ⟨g1, g2⟩
    all_goals
      go_enter Try.func7, Try.ntmps7
      go_wp2_with fail
      refine (awake6_any _).mono ?_
      rintro e w1 ⟨rfl, hb1⟩
      go_wp2
      go_ret
      exact ⟨rfl, hb1⟩

set_option maxRecDepth 100000 in
theorem lifted (os : Os) (started : os.Started) (H : Type) (enc : TypeId × Value → H) :
    ReturnsInHanded {} Try.checked os 7 .any (Rows.moveSinglySpec.pre6 enc Try.prog Try.f7 Rows.moveSinglyRow.domain false) (Rows.moveSinglySpec.post enc Try.prog Try.f7 false true false false) := by
  refine returnsInHanded_of_change (C := Try.checked) own started (by kernel_rfl) Try.func7
    (ChangeSpec.witness6 (enc := enc) (C := Try.checked) false ⟨#[], #[.int .i64 0, .bool false, .slice none 0 0, .int .i64 0], []⟩ 8 (by kernel_rfl) (by kernel_rfl) (by kernel_rfl) (by kernel_rfl)) ?_
  intro W base args ds gs before hval0 hW hcnd _
  have hval : ∀ (j : Nat) t v, Try.f7.params[j]? = some t → args[j]? = some v → Value.okWide Try.prog W .any base t v := hval0
  have hW' := hW
  obtain ⟨p, q, hA0, hV, rfl, hfz, hnd⟩ := hW
  have hA : DataW.TrodAll enc Try.prog W 0 (fun _ => true) true Try.f7.params.toList args.toList ds p := hA0
  rw [Try.params7] at hA hval
  obtain ⟨v0, vs0, d0, ds0, p0, q0, hargs, rfl, rfl, h0, r0⟩ := trodAll_cons hA
  obtain ⟨v1, vs1, d1, ds1, p1, q1, rfl, rfl, rfl, h1, r1⟩ := trodAll_cons r0
  obtain ⟨v2, vs2, d2, ds2, p2, q2, rfl, rfl, rfl, h2, r2⟩ := trodAll_cons r1
  obtain ⟨v3, vs3, d3, ds3, p3, q3, rfl, rfl, rfl, h3, r3⟩ := trodAll_cons r2
  obtain ⟨rfl, rfl, rfl⟩ := trodAll_nil r3
  obtain rfl : args = #[v0, v1, v2, v3] := by cases args; simp_all
  obtain ⟨rfl, rfl⟩ := trodVars_none hV
  have k0 := h0
  have lt0 : ∀ x ∈ p0, x.block < W.heap.size := by obtain ⟨m, hm⟩ := k0; exact DataW.trod_lt m _ _ _ hm
  obtain ⟨a0, rfl, hd0, hp0, w0⟩ := open_int Try.underlying3 (hval 0 3 v0 rfl rfl) h0
  have k1 := h1
  have lt1 : ∀ x ∈ p1, x.block < W.heap.size := by obtain ⟨m, hm⟩ := k1; exact DataW.trod_lt m _ _ _ hm
  obtain ⟨a1, rfl, hd1, hp1⟩ := open_bool Try.underlying4 (hval 1 4 v1 rfl rfl) h1
  have k2 := h2
  have lt2 : ∀ x ∈ p2, x.block < W.heap.size := by obtain ⟨m, hm⟩ := k2; exact DataW.trod_lt m _ _ _ hm
  obtain ⟨l2, w2, b2⟩ := open_pieces (hval 2 38 v2 rfl rfl) h2
  have k3 := h3
  have lt3 : ∀ x ∈ p3, x.block < W.heap.size := by obtain ⟨m, hm⟩ := k3; exact DataW.trod_lt m _ _ _ hm
  obtain ⟨a3, rfl, hd3, hp3, w3⟩ := open_int Try.underlying3 (hval 3 3 v3 rfl rfl) h3
  clear hA0 hval0
  refine (walk a0 a1 v2 l2 a3 W w0 w2 b2 w3).mono fun e W' ⟨he, bel⟩ => ?_
  subst he
  exact ⟨_, rfl, _, _, _, [], _, [], hW', trodAll_mk1 (shut_bool Try.underlying4 _), (trodAll_cons_mk (Below.trod laidOut (by kernel_rfl) (of_decide_eq_true (by kernel_rfl)) k0 bel lt0) (trodAll_cons_mk (Below.trod laidOut (by kernel_rfl) (of_decide_eq_true (by kernel_rfl)) k1 bel lt1) (trodAll_cons_mk (Below.trod laidOut (by kernel_rfl) (of_decide_eq_true (by kernel_rfl)) k2 bel lt2) (trodAll_cons_mk (Below.trod laidOut (by kernel_rfl) (of_decide_eq_true (by kernel_rfl)) k3 bel lt3) trodAll_mk0)))), rfl, bel.frame _, fun h => by cases h⟩

theorem over : Rows.moveSinglyRow.holds Try.pinned (OpenSpec.ofChange Rows.moveSinglySpec) :=
  OpenClaim.holds_of_wide 7 Try.f7 rfl rfl rfl rfl rfl rfl rfl ⟨rfl, rfl, rfl, rfl, rfl⟩ rfl rfl rfl rfl rfl (by kernel_rfl) Try.func7 (by kernel_rfl)
    (of_decide_eq_true (by kernel_rfl)) (by unfold Func.isWrapper; first | (rw [if_pos (by decide +kernel)]; kernel_rfl) | (rw [if_neg (by decide +kernel)]; exact ⟨rfl, rfl⟩))
    (fun os started H enc _ => lifted os started H enc)

theorem proved : Rows.MoveSinglySaid := over
end Go.Proofs.Ytbaaciekjpadfaa.moveSingly
