/- Edits that are apart come to the same as each by itself, from the last one to the first. Conditions: none beyond the form's own. -/
import Derived.Test.YtbaaciekjpadfaaRows
import Derived.Test.YtbaaciekjpadfaaArgs
import Derived.Test.YtbaaciekjpadfaaEdL
namespace Go.Proofs.Ytbaaciekjpadfaa.changeSingly
open Go.Proofs.Ytbaaciekjpadfaa
open Go.ChangeShapes Go.WideShapes Go.ChangeAt Go.RowKit Go.Deep
open Go.ChangeMaps (open_string shut_string)
set_option linter.unusedVariables false

theorem own : ownKnob Try.prog.godebug = none := by kernel_rfl
theorem laidOut : laidOutB Try.prog = true := by kernel_rfl
-- opt:4000000
open SpanM EdM
attribute [local go_sem ↓] Go.wp_at_zero Go.wp_at_succ
set_option maxRecDepth 100000 in
set_option maxHeartbeats 4000000 in
theorem walk (a0 : ByteArray) (a1 : Value) (l1 : List EdM.Ed) (a2 : Int) (w : World) (w0 : a0.size ≤ maxLen) (w1 : EdAt w a1 l1) (b1 : ∀ e ∈ l1, WfE e) (w2 : (Lit.int .i64 a2).wf = true) :
    Calls Try.prog 5 #[.string a0, a1, .int .i64 a2] w fun e w' => e = .returned (.bool true) ∧ Below w.heap.size w w' := by
  by_cases hin : a0.size ≤ 200
  · have g1 : decide (200 < (a0.size : Int)) = false := by simp; omega
    have W1 := hide w1
    have hP := hide (edat_long w1)
    clear w1 w2
    go_enter Try.func5, Try.ntmps5
    go_wp2_with fail
    refine (apart6_any a0.size a1 l1 _ W1.out (by omega) hP.out).mono ?_
    rintro e w1 ⟨v1, l, rfl, hap, hb1, ho1⟩
    have hll := hap.len
    have HE1 := hide (own_edat ho1)
    have HAP := hide hap
    have HAT := hide (ap_at hap (by omega))
    obtain ⟨aE, cE, rfl⟩ := edat_len HE1.out
    obtain ⟨i0, hi0⟩ : ∃ i0, IntKind.i64.wrap ((l.length : Int) - 1) = i0 := ⟨_, rfl⟩
    have hst : (l.length = 0 ∧ i0 = -1) ∨ ∃ q, l.length = q + 1 ∧ i0 = (q : Int) := by
      rw [IntWalk.i64_in _ (by omega)] at hi0
      rcases Nat.eq_zero_or_pos l.length with h | h
      · exact .inl ⟨h, by omega⟩
      · exact .inr ⟨l.length - 1, by omega, by omega⟩
    have HST := hide hst
    obtain ⟨R, hR⟩ : ∃ R, mkT (appR (bts a0) l) = R := ⟨_, rfl⟩
    have hRl : grown a0.size l = R.size := by
      rw [← hR, mk_size]
      have hf : Fine (bts a0).length l := by rw [bts_len]; exact ap_fine hap (by omega) (.refl l)
      have := fine_len hf
      rw [ap_sort hap (.refl l), bts_len] at this
      exact this.symm
    have HR := hide hR
    have HRL := hide hRl
    clear hst hap ho1 hR hRl
    go_wp2_with fail
    refine (turned_any _ l a2 _ HE1.out hll).mono ?_
    rintro e w3 ⟨v3, k3, rfl, hk3, hb3, ho3⟩
    have HE3 := hide (edat_of ho3 (turn_len l k3))
    have HR3 : Hid (appR (bts a0) (sortE (turn l k3)) = appR (bts a0) l) := hide (by rw [ap_sort HAP.out (turn_perm l k3)])
    have HF3 := hide (ap_fine HAP.out (by omega) (turn_perm l k3))
    have HS3 := hide (ap_small HAP.out (turn_perm l k3))
    have hl3 : (turn l k3).length ≤ 20 := by rw [turn_len]; exact hll
    clear ho3
    go_wp2_with fail
    refine (apply_fine a0 _ _ (turn l k3) _ HE3.out hl3 HS3.out (by omega) HF3.out HR3.out).mono ?_
    rintro e w4 ⟨rfl, hb4⟩
    rw [HR.out]
    have HE4 := hide (edat_below HE1.out (bl_trans hb3 hb4))
    clear HE3 HR3 HF3 HS3 HE1
    go_wp2
    go_loopw [10, 11, 12, 13] (fun uv i _ _ wr => ∃ j : Nat, j ≤ l.length ∧ ((j = 0 ∧ i = .int .i64 (-1)) ∨ (∃ q : Nat, j = q + 1 ∧ i = .int .i64 q)) ∧ uv = .string (mkT (appR (bts a0) (l.drop j))) ∧ Below w4.heap.size w4 wr) (fun _ i _ _ _ => (intOf i + 1).toNat)
    case atStart =>
      refine ⟨l.length, Nat.le_refl _, ?_, by rw [List.drop_length]; show _ = Value.string (mkT (bts a0)); rw [mk_bts], bl_refl w4⟩
      rcases HST.out with ⟨h1, h2⟩ | ⟨q, h1, h2⟩
      · exact .inl ⟨h1, by rw [h2]⟩
      · exact .inr ⟨q, h1, by rw [h2]⟩
    case round =>
      obtain ⟨j, hj, hcase, rfl, hbl⟩ := hrel
      rcases hcase with ⟨rfl, rfl⟩ | ⟨q, rfl, rfl⟩
      · have HE2 := hide (edat_below HE4.out hbl)
        rw [List.drop_zero, HR.out]
        have HD := hide (good_D (ap_good HAP.out (by omega) (.refl l)))
        clear HR
        go_wp2_with fail
        refine (growne_any a0.size R.size _ l _ HE2.out (by omega) HD.out (by omega) HRL.out).mono ?_
        rintro e w6 ⟨rfl, hb6⟩
        go_wp2_with fail
        refine (awake6_any _).mono ?_
        rintro e w5 ⟨rfl, hb5⟩
        go_wp2
        go_ret
        exact ⟨rfl, bl_trans hb1 (bl_trans hb3 (bl_trans hb4 (bl_trans hbl (bl_trans hb6 hb5))))⟩
      · have hq : q < l.length := by omega
        obtain ⟨b1', o1, c1', hv1, hc1, hm1, hlb1, hcell1⟩ := edat_some (edat_below HE4.out hbl) (by omega)
        injection hv1 with hv1 _ hv1c
        subst hv1 hv1c
        unfold maxLen at hm1
        obtain ⟨x1, x2, x3⟩ := hcell1 q hq
        have hstep := app_drop (bts a0) l q hq
        obtain ⟨d1, d2⟩ := drop_size HAP.out (bts a0) (by rw [bts_len]) q hq
        obtain ⟨p1, p2, p3, p4⟩ := HAT.out l[q] (List.getElem_mem hq)
        have hone := app_one (appR (bts a0) (l.drop (q + 1))) l[q]
        clear hcell1
        generalize l[q] = e0 at *
        obtain ⟨⟨f, t⟩, x⟩ := e0
        replace x1 : wr.cell? ⟨b1', o1 + q * 3, none⟩ = some (.int .i64 f) := x1
        replace x2 : wr.cell? ⟨b1', o1 + q * 3 + 1, none⟩ = some (.int .i64 t) := x2
        replace x3 : wr.cell? ⟨b1', o1 + q * 3 + 2, none⟩ = some (.string x) := x3
        obtain ⟨U, hU⟩ : ∃ U, mkT (appR (bts a0) (l.drop (q + 1))) = U := ⟨_, rfl⟩
        have hUb : bts U = appR (bts a0) (l.drop (q + 1)) := by rw [← hU, bts_mk]
        have hUs : U.size = (appR (bts a0) (l.drop (q + 1))).length := by rw [← hU, mk_size]
        rw [← hUs] at d1 d2
        rw [← hstep, ← hUb] at hone
        rw [hU]
        have HFI : Hid (Fine U.size [((f, t), x)]) := hide (fine_one p1 p2 d1 (by omega) (by show x.size ≤ 10000; have : x.size ≤ 200 := p4; omega))
        have HONE := hide hone
        have hxs : x.size ≤ 200 := p4
        have hUs2 : U.size ≤ 1000 := by omega
        obtain ⟨nx, hnx⟩ : ∃ nx, appR (bts a0) (l.drop q) = nx := ⟨_, rfl⟩
        rw [hnx] at HONE
        have hfin : ∀ W, Below w4.heap.size w4 W → ∀ i, ((q = 0 ∧ i = Value.int .i64 (-1)) ∨ (∃ p : Nat, q = p + 1 ∧ i = .int .i64 p)) → ∃ j : Nat, j ≤ l.length ∧ ((j = 0 ∧ i = .int .i64 (-1)) ∨ (∃ q : Nat, j = q + 1 ∧ i = .int .i64 q)) ∧ Value.string (mkT nx) = .string (mkT (appR (bts a0) (l.drop j))) ∧ Below w4.heap.size w4 W := fun W hb i hi => ⟨q, by omega, hi, by rw [hnx], hb⟩
        have HFIN := hide hfin
        clear hstep hone hU hUb hUs d1 d2 p1 p2 p3 p4 hnx hfin
        have H1 := hide (alloc1 wr f t x)
        have hba : Below wr.heap.size wr (wr.alloc (.cells #[.int .i64 f, .int .i64 t, .string x] 45)) := bl_alloc (bl_refl wr) _
        rcases Nat.eq_zero_or_pos q with h0 | h0
        · subst h0
          rw [Nat.zero_mul, Nat.add_zero] at x1 x2 x3
          go_wp2_with fail
          refine (apply_fine U nx _ [((f, t), x)] _ H1.out (by simp) (fun e he => by rw [List.mem_singleton] at he; subst he; show x.size ≤ 70000; omega) (by omega) HFI.out HONE.out).mono ?_
          rintro e w5 ⟨rfl, hb5⟩
          have hb6 := bl_trans hbl (bl_trans hba hb5)
          clear x1 x2 x3
          go_wp2
          refine ⟨?_, by first | (simp [intOf]; done) | (simp [intOf]; omega)⟩
          exact HFIN.out _ hb6 _ (.inl ⟨by first | rfl | trivial, by first | rfl | trivial⟩)
        · obtain ⟨p, rfl⟩ : ∃ p, q = p + 1 := ⟨q - 1, by omega⟩
          have hwp : IntKind.i64.wrap ((p : Int) + 1 - 1) = (p : Int) := by rw [IntWalk.i64_in _ (by omega)]; omega
          go_wp2_with fail
          refine (apply_fine U nx _ [((f, t), x)] _ H1.out (by simp) (fun e he => by rw [List.mem_singleton] at he; subst he; show x.size ≤ 70000; omega) (by omega) HFI.out HONE.out).mono ?_
          rintro e w5 ⟨rfl, hb5⟩
          have hb6 := bl_trans hbl (bl_trans hba hb5)
          clear x1 x2 x3
          go_wp2
          refine ⟨?_, by first | (simp [intOf]; done) | (simp [intOf]; omega)⟩
          exact HFIN.out _ hb6 _ (.inr ⟨p, by first | rfl | trivial, by first | rfl | trivial⟩)
  · have g1 : decide (200 < (a0.size : Int)) = true := by simp; omega
    clear hin
    go_enter Try.func5, Try.ntmps5
    go_wp2_with fail
    refine (awake6_any _).mono ?_
    rintro e w1 ⟨rfl, hb1⟩
    go_wp2
    go_ret
    exact ⟨rfl, hb1⟩

set_option maxRecDepth 100000 in
theorem lifted (os : Os) (started : os.Started) (H : Type) (enc : TypeId × Value → H) :
    ReturnsInHanded {} Try.checked os 5 .any (Rows.changeSinglySpec.pre6 enc Try.prog Try.f5 Rows.changeSinglyRow.domain false) (Rows.changeSinglySpec.post enc Try.prog Try.f5 false true false false) := by
  refine returnsInHanded_of_change (C := Try.checked) own started (by kernel_rfl) Try.func5
    (ChangeSpec.witness6 (enc := enc) (C := Try.checked) false ⟨#[], #[.string ByteArray.empty, .slice none 0 0, .int .i64 0], []⟩ 8 (by kernel_rfl) (by kernel_rfl) (by kernel_rfl) (by kernel_rfl)) ?_
  intro W base args ds gs before hval0 hW hcnd _
  have hval : ∀ (j : Nat) t v, Try.f5.params[j]? = some t → args[j]? = some v → Value.okWide Try.prog W .any base t v := hval0
  have hW' := hW
  obtain ⟨p, q, hA0, hV, rfl, hfz, hnd⟩ := hW
  have hA : DataW.TrodAll enc Try.prog W 0 (fun _ => true) true Try.f5.params.toList args.toList ds p := hA0
  rw [Try.params5] at hA hval
  obtain ⟨v0, vs0, d0, ds0, p0, q0, hargs, rfl, rfl, h0, r0⟩ := trodAll_cons hA
  obtain ⟨v1, vs1, d1, ds1, p1, q1, rfl, rfl, rfl, h1, r1⟩ := trodAll_cons r0
  obtain ⟨v2, vs2, d2, ds2, p2, q2, rfl, rfl, rfl, h2, r2⟩ := trodAll_cons r1
  obtain ⟨rfl, rfl, rfl⟩ := trodAll_nil r2
  obtain rfl : args = #[v0, v1, v2] := by cases args; simp_all
  obtain ⟨rfl, rfl⟩ := trodVars_none hV
  have k0 := h0
  have lt0 : ∀ x ∈ p0, x.block < W.heap.size := by obtain ⟨m, hm⟩ := k0; exact DataW.trod_lt m _ _ _ hm
  obtain ⟨a0, rfl, hd0, hp0, w0⟩ := open_string Try.underlying9 (hval 0 9 v0 rfl rfl) h0
  have k1 := h1
  have lt1 : ∀ x ∈ p1, x.block < W.heap.size := by obtain ⟨m, hm⟩ := k1; exact DataW.trod_lt m _ _ _ hm
  obtain ⟨l1, w1, b1⟩ := open_pieces (hval 1 38 v1 rfl rfl) h1
  have k2 := h2
  have lt2 : ∀ x ∈ p2, x.block < W.heap.size := by obtain ⟨m, hm⟩ := k2; exact DataW.trod_lt m _ _ _ hm
  obtain ⟨a2, rfl, hd2, hp2, w2⟩ := open_int Try.underlying3 (hval 2 3 v2 rfl rfl) h2
  clear hA0 hval0
  refine (walk a0 v1 l1 a2 W w0 w1 b1 w2).mono fun e W' ⟨he, bel⟩ => ?_
  subst he
  exact ⟨_, rfl, _, _, _, [], _, [], hW', trodAll_mk1 (shut_bool Try.underlying4 _), (trodAll_cons_mk (Below.trod laidOut (by kernel_rfl) (of_decide_eq_true (by kernel_rfl)) k0 bel lt0) (trodAll_cons_mk (Below.trod laidOut (by kernel_rfl) (of_decide_eq_true (by kernel_rfl)) k1 bel lt1) (trodAll_cons_mk (Below.trod laidOut (by kernel_rfl) (of_decide_eq_true (by kernel_rfl)) k2 bel lt2) trodAll_mk0))), rfl, bel.frame _, fun h => by cases h⟩

theorem over : Rows.changeSinglyRow.holds Try.pinned (OpenSpec.ofChange Rows.changeSinglySpec) :=
  OpenClaim.holds_of_wide 5 Try.f5 rfl rfl rfl rfl rfl rfl rfl ⟨rfl, rfl, rfl, rfl, rfl⟩ rfl rfl rfl rfl rfl (by kernel_rfl) Try.func5 (by kernel_rfl)
    (of_decide_eq_true (by kernel_rfl)) (by unfold Func.isWrapper; first | (rw [if_pos (by decide +kernel)]; kernel_rfl) | (rw [if_neg (by decide +kernel)]; exact ⟨rfl, rfl⟩))
    (fun os started H enc _ => lifted os started H enc)

theorem proved : Rows.ChangeSinglySaid := over
end Go.Proofs.Ytbaaciekjpadfaa.changeSingly
