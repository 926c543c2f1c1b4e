/- A byte that no edit takes away is, behind the edits, where Move leads it. Conditions: none beyond the form's own. -/
import Derived.Test.YtbaaciekjpadfaaRows
import Derived.Test.YtbaaciekjpadfaaArgs
import Derived.Test.YtbaaciekjpadfaaEdL
import Derived.Deep.RegionWith
namespace Go.Proofs.Ytbaaciekjpadfaa.moveKeeps
open Go.Proofs.Ytbaaciekjpadfaa
open Go.ChangeShapes Go.WideShapes Go.ChangeAt Go.RowKit Go.Deep
open Go.ChangeMaps (open_string shut_string)
set_option linter.unusedVariables false

theorem own : ownKnob Try.prog.godebug = none := by kernel_rfl
theorem laidOut : laidOutB Try.prog = true := by kernel_rfl
-- opt:8000000
open SpanM EdM
attribute [local go_sem ↓] Go.wp_at_zero Go.wp_at_succ
attribute [local go_sem] later_cell later_frozen
set_option maxRecDepth 100000 in
set_option maxHeartbeats 8000000 in
theorem walk (a0 : ByteArray) (a1 : Int) (a2 : Value) (l2 : List EdM.Ed) (w : World) (w0 : a0.size ≤ maxLen) (w1 : (Lit.int .i64 a1).wf = true) (w2 : EdAt w a2 l2) (b2 : ∀ e ∈ l2, WfE e) :
    Calls Try.prog 9 #[.string a0, .int .i64 a1, a2] w fun e w' => e = .returned (.bool true) ∧ Below w.heap.size w w' := by
  by_cases hin : 0 < a0.size ∧ a0.size ≤ 200
  · obtain ⟨hpos, hin⟩ := hin
    have g1 : decide (200 < (a0.size : Int)) = false := by simp; omega
    have g2 : ((a0.size : Int) == 0) = false := beq_eq_false_iff_ne.2 (by omega)
    have W1 := hide w2
    have hP := hide (edat_long w2)
    clear w2 w1
    have hL1 := fun W => low_any a1 a0.size W hpos (by omega)
    have hk := lowN_lt a1 a0.size hpos
    generalize lowN a1 a0.size = k at *
    have HL1 := hide hL1
    clear hL1
    go_enter Try.func9, Try.ntmps9
    go_wp2_with fail
    refine (apart6_any a0.size a2 l2 _ W1.out (by omega) hP.out).mono ?_
    rintro e w1 ⟨v1, l, rfl, hap, hb1, ho1⟩
    have hll := hap.len
    have HE := hide (own_edat ho1)
    have HAP := hide hap
    obtain ⟨aE, cE, rfl⟩ := edat_len HE.out
    clear hap ho1
    go_wp2_with fail
    refine (HL1.out _).mono ?_
    rintro e w8 ⟨rfl, rfl⟩
    go_wp2
    go_loopw [9] (fun i wr => ∃ j : Nat, i = .int .i64 j ∧ j ≤ l.length ∧ Hid (∀ i (h : i < l.length), i < j → (k : Int) < l[i].1.1 ∨ l[i].1.2 ≤ (k : Int)) ∧ Below w1.heap.size w1 wr) (fun i _ => l.length - (intOf i).toNat)
    case atStart => exact ⟨0, rfl, Nat.zero_le _, hide (fun i h1 h2 => by omega), bl_refl w1⟩
    case round =>
      obtain ⟨j, rfl, hj, HT, hbl⟩ := hrel
      by_cases hlt : j < l.length
      · obtain ⟨b1', o1, c1', hv1, hc1, hm1, hlb1, hcell1⟩ := edat_some (edat_below HE.out hbl) (by omega)
        injection hv1 with hv1 _ hv1c
        subst hv1 hv1c
        unfold maxLen at hm1
        obtain ⟨x1, x2, x3⟩ := hcell1 j hlt
        have hnext : ((k : Int) < l[j].1.1 ∨ l[j].1.2 ≤ (k : Int)) → Hid (∀ i (h : i < l.length), i < j + 1 → (k : Int) < l[i].1.1 ∨ l[i].1.2 ≤ (k : Int)) := fun hh => hide fun i h1 h2 => by
          by_cases hi : i = j
          · subst hi; exact hh
          · exact HT.out i h1 (by omega)
        have HNEXT := hide hnext
        clear hcell1 hnext HT
        generalize l[j] = e0 at *
        obtain ⟨⟨f, t⟩, x⟩ := e0
        replace x1 : wr.cell? ⟨b1', o1 + j * 3, none⟩ = some (.int .i64 f) := x1
        replace x2 : wr.cell? ⟨b1', o1 + j * 3 + 1, none⟩ = some (.int .i64 t) := x2
        have HN2 : Hid (((k : Int) < f ∨ t ≤ (k : Int)) → Hid (∀ i (h : i < l.length), i < j + 1 → (k : Int) < l[i].1.1 ∨ l[i].1.2 ≤ (k : Int))) := HNEXT
        by_cases hA : (k : Int) < f
        · have hd1 : decide (f ≤ (k : Int)) = false := by simp; omega
          have HT2 := HN2.out (.inl hA)
          clear HN2 HNEXT hA
          go_wp2
          refine ⟨?_, by first | (simp [intOf]; done) | (simp [intOf]; omega)⟩
          first
            | exact ⟨j + 1, by go_num, by omega, HT2, hbl⟩
            | ((repeat apply Exists.intro); exact ⟨⟨j + 1, by go_num, by omega, HT2, hbl⟩, rfl⟩)
        · have hd1 : decide (f ≤ (k : Int)) = true := by simp; omega
          by_cases hB : t ≤ (k : Int)
          · have hd2 : decide ((k : Int) < t) = false := by simp; omega
            have HT2 := HN2.out (.inr hB)
            clear HN2 HNEXT hA hB
            go_wp2
            refine ⟨?_, by first | (simp [intOf]; done) | (simp [intOf]; omega)⟩
            first
              | exact ⟨j + 1, by go_num, by omega, HT2, hbl⟩
              | ((repeat apply Exists.intro); exact ⟨⟨j + 1, by go_num, by omega, HT2, hbl⟩, rfl⟩)
          · have hd2 : decide ((k : Int) < t) = true := by simp; omega
            clear HN2 HNEXT hA hB
            go_wp2_with fail
            refine (awake6_any _).mono ?_
            rintro e wz ⟨rfl, hbz⟩
            go_wp2
            go_ret
            exact ⟨rfl, bl_trans hb1 (bl_trans hbl hbz)⟩
      · obtain rfl : j = l.length := by omega
        have hcl : Clear (k : Int) l := fun e he => by
          obtain ⟨i, hi, rfl⟩ := List.getElem_of_mem he
          exact HT.out i hi hi
        have hch : Chain (bts a0).length 0 l := by rw [bts_len]; exact HAP.out.chain
        have HG := hide (ap_good HAP.out (by omega) (.refl l))
        have hm : ∀ (right : Bool) (a r : Int), (-1099511627776 ≤ a ∧ a ≤ 1099511627776) → ∀ W, EdAt W (.slice aE l.length cE) l → mvR right l a = r → Calls Try.prog 27 #[.int .i64 a, .bool right, .slice aE l.length cE] W fun e w' => e = .returned (.int .i64 r) ∧ Below W.heap.size W w' := fun right a r ha W hW hr =>
          move_good a r right _ l W hW hll HG.out (by omega) (by rw [ap_sort HAP.out (.refl l)]; exact hr)
        obtain ⟨m1, m2, m3⟩ := byte_moves (bts a0) l (k := (k : Int)) (Int.le_refl _) (by omega) hch hcl
        obtain ⟨mn, hmn⟩ : ∃ mn : Nat, mvR true l (k : Int) = mn := ⟨(mvR true l (k : Int)).toNat, by omega⟩
        rw [hmn] at m1 m3
        have HM := hide hm
        have HMN := hide hmn
        have HM3 := hide m3
        obtain ⟨T, hT⟩ : ∃ T, mkT (appR (bts a0) l) = T := ⟨_, rfl⟩
        have hbT : appR (bts a0) l = bts T := by rw [← hT, bts_mk]
        rw [hbT] at m1
        have hks : (bts a0)[((k : Int)).toNat]? = some a0[k] := by
          rw [show ((k : Int)).toNat = k by omega]
          unfold bts
          rw [List.getElem?_eq_getElem (by simpa using hk)]; rfl
        rw [hks, show ((mn : Int)).toNat = mn by omega] at m1
        have hmT : mn < T.size := by
          have := (List.getElem?_eq_some_iff.1 m1).1
          rwa [bts_len] at this
        have hbyte : T[mn] = a0[k] := by
          have h2 : (bts T)[mn]? = some T[mn] := by
            unfold bts
            rw [List.getElem?_eq_getElem (by simpa using hmT)]; rfl
          rw [h2] at m1
          exact Option.some.inj m1
        have hTs : T.size ≤ 1000 := by
          have := (turns_of a0 l HAP.out hin).size
          rw [hT] at this; exact this
        have HA2 : Hid (appR (bts a0) (sortE l) = bts T) := hide (by rw [ap_sort HAP.out (.refl l)]; exact hbT)
        have HF := hide (ap_fine HAP.out (by omega) (.refl l))
        have HS := hide (ap_small HAP.out (.refl l))
        have H1 := hide (edat_below HE.out hbl)
        have e0 : mkT (bts T) = T := mk_bts T
        clear hm hmn m1 m2 m3 hcl hch HT hlt hT hbT hks
        go_wp2_with fail
        refine (apply_fine a0 (bts T) _ l _ H1.out hll HS.out (by omega) HF.out HA2.out).mono ?_
        rintro e w3 ⟨rfl, hb3⟩
        rw [e0]
        have H3 := hide (edat_below H1.out hb3)
        clear e0
        go_wp2_with fail
        refine (HM.out true (k : Int) mn (by omega) _ H3.out HMN.out).mono ?_
        rintro e w4 ⟨rfl, hb4⟩
        have H4 := hide (edat_below H3.out hb4)
        have g3 : decide (mn < T.size) = true := by simp [hmT]
        have HMV := hide (fun W (hb : Below w4.heap.size w4 W) => HM.out false ((k : Int) + 1) ((mn : Int) + 1) (by omega) W (edat_below H4.out hb) HM3.out)
        clear HM HM3 HMN H3 H1 HA2 HF HS
        have hs1 : IntKind.i64.wrap ((k : Int) + 1) = (k : Int) + 1 := IntWalk.i64_in _ (by omega)
        have hs2 : IntKind.i64.wrap ((mn : Int) + 1) = (mn : Int) + 1 := IntWalk.i64_in _ (by omega)
        have g4 : decide ((0 : Int) ≤ (mn : Int)) = true := by simp
        go_wp2
        refine wp_region_later (by kernel_rfl) (by kernel_rfl) ?_
        repeat (go_big_quiet_step (first | (go_at_call 27; exact later_call (HMV.out _ (Later.below _))) | (go_at_call 14; exact later_call (awake6_any _)) | exact rfl))
        refine wpQuiet_nil ?_
        rintro w9 ⟨⟨_, hb9⟩, rfl⟩
        go_wp2
        go_ret
        exact ⟨rfl, bl_trans hb1 (bl_trans hbl (bl_trans hb3 (bl_trans hb4 hb9)))⟩
  · have g : decide (200 < (a0.size : Int)) = true ∨ (decide (200 < (a0.size : Int)) = false ∧ ((a0.size : Int) == 0) = true) := by
      by_cases h : 200 < a0.size
      · exact .inl (by simp; omega)
      · exact .inr ⟨by simp; omega, beq_iff_eq.2 (by omega)⟩
    clear hin
    rcases g with g1 | ⟨g1, g2⟩
    all_goals
      go_enter Try.func9, Try.ntmps9
      go_wp2_with fail
      refine (awake6_any _).mono ?_
      rintro e w1 ⟨rfl, hb1⟩
      go_wp2
      go_ret
      exact ⟨rfl, hb1⟩

set_option maxRecDepth 100000 in
theorem lifted (os : Os) (started : os.Started) (H : Type) (enc : TypeId × Value → H) :
    ReturnsInHanded {} Try.checked os 9 .any (Rows.moveKeepsSpec.pre6 enc Try.prog Try.f9 Rows.moveKeepsRow.domain false) (Rows.moveKeepsSpec.post enc Try.prog Try.f9 false true false false) := by
  refine returnsInHanded_of_change (C := Try.checked) own started (by kernel_rfl) Try.func9
    (ChangeSpec.witness6 (enc := enc) (C := Try.checked) false ⟨#[], #[.string ByteArray.empty, .int .i64 0, .slice none 0 0], []⟩ 8 (by kernel_rfl) (by kernel_rfl) (by kernel_rfl) (by kernel_rfl)) ?_
  intro W base args ds gs before hval0 hW hcnd _
  have hval : ∀ (j : Nat) t v, Try.f9.params[j]? = some t → args[j]? = some v → Value.okWide Try.prog W .any base t v := hval0
  have hW' := hW
  obtain ⟨p, q, hA0, hV, rfl, hfz, hnd⟩ := hW
  have hA : DataW.TrodAll enc Try.prog W 0 (fun _ => true) true Try.f9.params.toList args.toList ds p := hA0
  rw [Try.params9] at hA hval
  obtain ⟨v0, vs0, d0, ds0, p0, q0, hargs, rfl, rfl, h0, r0⟩ := trodAll_cons hA
  obtain ⟨v1, vs1, d1, ds1, p1, q1, rfl, rfl, rfl, h1, r1⟩ := trodAll_cons r0
  obtain ⟨v2, vs2, d2, ds2, p2, q2, rfl, rfl, rfl, h2, r2⟩ := trodAll_cons r1
  obtain ⟨rfl, rfl, rfl⟩ := trodAll_nil r2
  obtain rfl : args = #[v0, v1, v2] := by cases args; simp_all
  obtain ⟨rfl, rfl⟩ := trodVars_none hV
  have k0 := h0
  have lt0 : ∀ x ∈ p0, x.block < W.heap.size := by obtain ⟨m, hm⟩ := k0; exact DataW.trod_lt m _ _ _ hm
  obtain ⟨a0, rfl, hd0, hp0, w0⟩ := open_string Try.underlying9 (hval 0 9 v0 rfl rfl) h0
  have k1 := h1
  have lt1 : ∀ x ∈ p1, x.block < W.heap.size := by obtain ⟨m, hm⟩ := k1; exact DataW.trod_lt m _ _ _ hm
  obtain ⟨a1, rfl, hd1, hp1, w1⟩ := open_int Try.underlying3 (hval 1 3 v1 rfl rfl) h1
  have k2 := h2
  have lt2 : ∀ x ∈ p2, x.block < W.heap.size := by obtain ⟨m, hm⟩ := k2; exact DataW.trod_lt m _ _ _ hm
  obtain ⟨l2, w2, b2⟩ := open_pieces (hval 2 38 v2 rfl rfl) h2
  clear hA0 hval0
  refine (walk a0 a1 v2 l2 W w0 w1 w2 b2).mono fun e W' ⟨he, bel⟩ => ?_
  subst he
  exact ⟨_, rfl, _, _, _, [], _, [], hW', trodAll_mk1 (shut_bool Try.underlying4 _), (trodAll_cons_mk (Below.trod laidOut (by kernel_rfl) (of_decide_eq_true (by kernel_rfl)) k0 bel lt0) (trodAll_cons_mk (Below.trod laidOut (by kernel_rfl) (of_decide_eq_true (by kernel_rfl)) k1 bel lt1) (trodAll_cons_mk (Below.trod laidOut (by kernel_rfl) (of_decide_eq_true (by kernel_rfl)) k2 bel lt2) trodAll_mk0))), rfl, bel.frame _, fun h => by cases h⟩

theorem over : Rows.moveKeepsRow.holds Try.pinned (OpenSpec.ofChange Rows.moveKeepsSpec) :=
  OpenClaim.holds_of_wide 9 Try.f9 rfl rfl rfl rfl rfl rfl rfl ⟨rfl, rfl, rfl, rfl, rfl⟩ rfl rfl rfl rfl rfl (by kernel_rfl) Try.func9 (by kernel_rfl)
    (of_decide_eq_true (by kernel_rfl)) (by unfold Func.isWrapper; first | (rw [if_pos (by decide +kernel)]; kernel_rfl) | (rw [if_neg (by decide +kernel)]; exact ⟨rfl, rfl⟩))
    (fun os started H enc _ => lifted os started H enc)

theorem proved : Rows.MoveKeepsSaid := over
end Go.Proofs.Ytbaaciekjpadfaa.moveKeeps
