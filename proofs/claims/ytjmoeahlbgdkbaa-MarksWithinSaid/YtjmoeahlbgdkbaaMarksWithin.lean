/- At all times each range's beginning is at most its end, and it lies within its parent's. Conditions: none beyond the form's own. -/
import Derived.Test.YtjmoeahlbgdkbaaRows
import Derived.Test.YtjmoeahlbgdkbaaArgs
import Derived.Test.YtjmoeahlbgdkbaaDoEnd
namespace Go.Proofs.Ytjmoeahlbgdkbaa.marksWithin
open Go.Proofs.Ytjmoeahlbgdkbaa
open Go.ChangeShapes Go.WideShapes Go.ChangeAt Go.RowKit Go.Deep
open Go.ChangeMaps (open_string shut_string)
set_option linter.unusedVariables false

theorem own : ownKnob Try.prog.godebug = none := by kernel_rfl
theorem laidOut : laidOutB Try.prog = true := by kernel_rfl
-- opt:16000000
open SpanM EdM
attribute [local go_sem ↓] Go.wp_at_zero Go.wp_at_succ
set_option maxRecDepth 100000 in
set_option maxHeartbeats 16000000 in
theorem walk (a0 : Value) (l0 : List Dd) (w : World) (w0 : DdAt w a0 l0) (b0 : ∀ d ∈ l0, WfD d) :
    Calls Try.prog 4 #[a0] w fun e w' => e = .returned (.bool true) ∧ Below w.heap.size w w' := by
  have hl0 := ddat_long w0
  have W0 := hide w0
  obtain ⟨aG, cG, rfl⟩ := ddat_len w0
  clear w0 b0
  go_enter Try.func4, Try.ntmps4
  go_wp2_with fail
  refine (muchD_any 20 _ l0 _ W0.out hl0).mono ?_
  rintro e w1 ⟨r, rfl, hok, hb1⟩
  cases r
  case true =>
    clear hok
    go_wp2_with fail
    refine (awake7_any _).mono ?_
    rintro e w2 ⟨rfl, hb2⟩
    have hb := bl_trans hb1 hb2
    go_wp2
    go_ret
    exact ⟨rfl, hb⟩
  case false =>
    obtain ⟨hn, hd⟩ := hok rfl
    have HD := hide hd
    have T0 := hide (tab_new w1)
    have B0 := hide (show Below w1.heap.size w1 _ from bl_alloc (bl_refl w1) (.cells #[.int .i64 0, .slice none 0 0] 75))
    clear hok hd
    go_wp2_with fail
    refine (mnew_any _).mono ?_
    rintro e w2 ⟨rfl, hw2⟩
    rw [hw2] at T0 B0
    clear hw2
    go_wp2
    go_loopw [4] (fun i wr => DoInv l0.length w1.heap.size w1 i wr) (fun i _ => l0.length - (intOf i).toNat)
    case atStart => exact ⟨0, 0, _, [], rfl, Nat.zero_le _, hide T0.out, hide invM_nil, B0.out⟩
    case round =>
      obtain ⟨k, last, v, L, rfl, hk, HT, HI, hbl⟩ := hrel
      by_cases hlt : k < l0.length
      · have hb3 := bl_trans hb1 hbl
        obtain ⟨b1, o1, c1', hv1, hc1, hm1, hlb1, hcell1⟩ := ddat_some (ddat_below W0.out hb3) (by omega)
        injection hv1 with hv1 _ hv1c
        subst hv1 hv1c
        unfold maxLen at hm1
        obtain ⟨x0, x1, x2, x3, x4, x5, x6, hE⟩ := hcell1 k hlt
        have hdk : DdOk l0[k] := HD.out _ (List.getElem_mem hlt)
        have HDO := hide (does_any w1.heap.size w1.heap.size k last v L l0[k] wr HT.out HI.out (by omega) hbl.size hE hdk)
        have HI3 := hide (stepM_inv HI.out l0[k] hdk)
        clear hcell1 hE hdk HI
        generalize stepM l0[k] last L = s at *
        generalize l0[k] = d at *
        obtain ⟨s1, s2, last3, L3⟩ := s
        simp only at HI3
        obtain ⟨dk, da, db, dc, dp, dq, dv, de⟩ := d
        simp only at x0 x1 x2 x3 x4 x5 x6 HDO
        go_wp2_with fail
        refine HDO.out.mono ?_
        rintro e w3 ⟨rfl, ⟨v3, ht3⟩, hb4⟩
        simp only at ht3
        have HT3 := hide ht3
        have hlen := HI3.out.len
        have hbl3 := hbl.trans hb4
        clear HDO ht3 x0 x1 x2 x3 x4 x5 x6
        go_wp2_with fail
        refine (idsT_any w1.heap.size w1.heap.size last3 v3 L3 w3 HT3.out (by omega)).mono ?_
        rintro e w4 ⟨⟨vi, rfl, hoi⟩, hb5⟩
        have HOI := hide (own_intat (l := L3.map (·.id)) (by rw [List.map_map]; exact hoi) (by simp))
        have hbl4 := hbl3.trans (hb5.mono hbl3.size)
        have HT4 := hide (HT3.out.later hb5)
        obtain ⟨aI, cI, rfl⟩ := own_slice hoi
        clear hoi HT3
        go_wp2
        go_loopw [6] (fun j wr => ∃ m : Nat, j = .int .i64 m ∧ m ≤ L3.length ∧ Below w4.heap.size w4 wr) (fun j _ => L3.length - (intOf j).toNat)
        case atStart => exact ⟨0, rfl, Nat.zero_le _, bl_refl _⟩
        case round =>
          obtain ⟨m, rfl, hm, hbm⟩ := hrel
          by_cases hlt2 : m < L3.length
          · obtain ⟨g, c, hv, hg1, hc1, hcm, hcell⟩ := intat_some (intat_below HOI.out hbm) (by simp; omega)
            rw [List.length_map] at hv hc1
            injection hv with hv _ hvc
            subst hv hvc
            unfold maxLen at hcm
            have y0 := hcell m (by simpa using hlt2)
            rw [List.getElem_map] at y0
            have hmem := List.getElem_mem hlt2
            have hft := HI3.out.ft _ hmem
            have hpar := HI3.out.par _ hmem
            have HG1 := hide (fun r ok (h : GotM L3 L3[m].id r ok) => gotM_at HI3.out.rise h m hlt2 rfl)
            generalize L3[m] = q at *
            obtain ⟨qi, qf, qt, qb, qc, qp⟩ := q
            simp only at y0 hft hpar HG1
            have hd1 : decide (qt < qf) = false := by simp; omega
            clear hcell hmem
            go_wp2_with fail
            refine (get_any w1.heap.size w1.heap.size last3 v3 L3 qi _ (HT4.out.later hbm) HI3.out.rise (by omega)).mono ?_
            rintro e w5 ⟨⟨r, ok, rfl, hgot⟩, hb6⟩
            obtain ⟨rfl, rfl⟩ := HG1.out r ok hgot
            have hb7 := bl_trans hbm hb6
            clear hgot HG1
            unfold vR
            rcases hpar with hp | ⟨q2, hq2, hp1, hp2, hp3, hp4⟩
            · subst hp
              go_wp2
              refine ⟨?_, by first | (simp [intOf]; done) | (simp [intOf]; omega)⟩
              exact ⟨m + 1, by go_num, by omega, bl_alloc hb7 _⟩
            · have hp0 : (qp == 0) = false := beq_eq_false_iff_ne.2 (by have := (HI3.out.ids q2 hq2).1; omega)
              have hd2 : decide (qf < q2.f) = false := by simp; omega
              have hd3 : decide (q2.t < qt) = false := by simp; omega
              have HG2 := hide (fun r ok (h : GotM L3 qp r ok) => gotM_mem HI3.out.rise h q2 hq2 hp1)
              obtain ⟨q2i, q2f, q2t, q2b, q2c, q2p⟩ := q2
              simp only at hd2 hd3 HG2
              have hb8 := bl_alloc hb7 (.cells #[.int .i64 qf, .int .i64 qt, .bool qb, .bool qc, .int .i64 qp] 43)
              clear hp1 hp2 hp3 hp4 hq2 hft
              go_wp2_with fail
              refine (get_any w1.heap.size w1.heap.size last3 v3 L3 qp _ (HT4.out.later hb8) HI3.out.rise (by omega)).mono ?_
              rintro e w6 ⟨⟨r, ok, rfl, hgot⟩, hb9⟩
              obtain ⟨rfl, rfl⟩ := HG2.out r ok hgot
              have hb10 := bl_trans hb8 hb9
              have hf6 := (hb9.block w5.heap.size (by simp)).trans (heap_alloc_new w5 (.cells #[.int .i64 qf, .int .i64 qt, .bool qb, .bool qc, .int .i64 qp] 43))
              have hlt6 := (Array.getElem?_eq_some_iff.1 hf6).1
              obtain ⟨p0, p1, p2, p3, p4, pf⟩ := box5 hf6
              clear hgot HG2 hf6
              unfold vR
              go_wp2
              refine ⟨?_, by first | (simp [intOf]; done) | (simp [intOf]; omega)⟩
              exact ⟨m + 1, by go_num, by omega, bl_alloc hb10 _⟩
          · obtain rfl : m = L3.length := by omega
            have hbl5 := hbl4.trans (hbm.mono hbl4.size)
            have HT5 := hide (HT4.out.later hbm)
            go_wp2
            refine ⟨?_, by first | (simp [intOf]; done) | (simp [intOf]; omega)⟩
            exact ⟨k + 1, last3, v3, L3, by go_num, by omega, HT5, HI3, hbl5⟩
      · obtain rfl : k = l0.length := by omega
        have hb3 := bl_trans hb1 hbl
        go_wp2_with fail
        refine (awake7_any _).mono ?_
        rintro e w3 ⟨rfl, hb4⟩
        have hb5 := bl_trans hb3 hb4
        go_wp2
        go_ret
        exact ⟨rfl, hb5⟩

set_option maxRecDepth 100000 in
theorem lifted (os : Os) (started : os.Started) (H : Type) (enc : TypeId × Value → H) :
    ReturnsInHanded {} Try.checked os 4 .any (Rows.marksWithinSpec.pre6 enc Try.prog Try.f4 Rows.marksWithinRow.domain false) (Rows.marksWithinSpec.post enc Try.prog Try.f4 false true false false) := by
  refine returnsInHanded_of_change (C := Try.checked) own started (by kernel_rfl) Try.func4
    (ChangeSpec.witness6 (enc := enc) (C := Try.checked) false ⟨#[], #[.slice none 0 0], []⟩ 8 (by kernel_rfl) (by kernel_rfl) (by kernel_rfl) (by kernel_rfl)) ?_
  intro W base args ds gs before hval0 hW hcnd _
  have hval : ∀ (j : Nat) t v, Try.f4.params[j]? = some t → args[j]? = some v → Value.okWide Try.prog W .any base t v := hval0
  have hW' := hW
  obtain ⟨p, q, hA0, hV, rfl, hfz, hnd⟩ := hW
  have hA : DataW.TrodAll enc Try.prog W 0 (fun _ => true) true Try.f4.params.toList args.toList ds p := hA0
  rw [Try.params4] at hA hval
  obtain ⟨v0, vs0, d0, ds0, p0, q0, hargs, rfl, rfl, h0, r0⟩ := trodAll_cons hA
  obtain ⟨rfl, rfl, rfl⟩ := trodAll_nil r0
  obtain rfl : args = #[v0] := by cases args; simp_all
  obtain ⟨rfl, rfl⟩ := trodVars_none hV
  have k0 := h0
  have lt0 : ∀ x ∈ p0, x.block < W.heap.size := by obtain ⟨m, hm⟩ := k0; exact DataW.trod_lt m _ _ _ hm
  obtain ⟨l0, w0, b0⟩ := open_deeds (hval 0 22 v0 rfl rfl) h0
  clear hA0 hval0
  refine (walk v0 l0 W w0 b0).mono fun e W' ⟨he, bel⟩ => ?_
  subst he
  exact ⟨_, rfl, _, _, _, [], _, [], hW', trodAll_mk1 (shut_bool Try.underlying4 _), (trodAll_cons_mk (Below.trod laidOut (by kernel_rfl) (of_decide_eq_true (by kernel_rfl)) k0 bel lt0) trodAll_mk0), rfl, bel.frame _, fun h => by cases h⟩

theorem over : Rows.marksWithinRow.holds Try.pinned (OpenSpec.ofChange Rows.marksWithinSpec) :=
  OpenClaim.holds_of_wide 4 Try.f4 rfl rfl rfl rfl rfl rfl rfl ⟨rfl, rfl, rfl, rfl, rfl⟩ rfl rfl rfl rfl rfl (by kernel_rfl) Try.func4 (by kernel_rfl)
    (of_decide_eq_true (by kernel_rfl)) (by unfold Func.isWrapper; first | (rw [if_pos (by decide +kernel)]; kernel_rfl) | (rw [if_neg (by decide +kernel)]; exact ⟨rfl, rfl⟩))
    (fun os started H enc _ => lifted os started H enc)

theorem proved : Rows.MarksWithinSaid := over
end Go.Proofs.Ytjmoeahlbgdkbaa.marksWithin
