/- Ids rise, each is among the kids of just its parent, and just those are told of a place that reach there. Conditions: none beyond the form's own. -/
import Derived.Test.YtjmoeahlbgdkbaaRows
import Derived.Test.YtjmoeahlbgdkbaaArgs
import Derived.Test.YtjmoeahlbgdkbaaDoEnd
namespace Go.Proofs.Ytjmoeahlbgdkbaa.marksKids
open Go.Proofs.Ytjmoeahlbgdkbaa
open Go.ChangeShapes Go.WideShapes Go.ChangeAt Go.RowKit Go.Deep
open Go.ChangeMaps (open_string shut_string)
set_option linter.unusedVariables false

theorem own : ownKnob Try.prog.godebug = none := by kernel_rfl
theorem laidOut : laidOutB Try.prog = true := by kernel_rfl
-- opt:16000000
open SpanM EdM
attribute [local go_sem ↓] Go.wp_at_zero Go.wp_at_succ
theorem sumK_bound (L : List Mk) (k : Nat) : sumK L k ≤ L.length * (k + 1) := by
  induction k with
  | zero => unfold sumK; have := List.length_filter_le (kidB 0) L; omega
  | succ k ih =>
    have h : sumK L (k + 1) ≤ sumK L k + L.length := by
      conv => lhs; unfold sumK
      split
      · next q _ => have := List.length_filter_le (kidB q.id) L; omega
      · omega
    have : L.length * (k + 1 + 1) = L.length * (k + 1) + L.length := Nat.mul_succ _ _
    omega
def KidsK (x : Int) (L : List Mk) (w5 : World) (many here i : Value) (wr : World) : Prop :=
  ∃ m : Nat, many = .int .i64 (sumK L m : Nat) ∧ i = .int .i64 m ∧ m ≤ L.length ∧ Hid (wr.ownsRow w5.heap.size 3 1 here ((L.take m).filter (atB x)).length (((L.take m).filter (atB x)).map fun r => .int .i64 r.id)) ∧ Below w5.heap.size w5 wr
set_option maxRecDepth 100000 in
set_option maxHeartbeats 16000000 in
theorem walk (a0 : Value) (l0 : List Dd) (a1 : Int) (w : World) (w0 : DdAt w a0 l0) (b0 : ∀ d ∈ l0, WfD d) (w1 : (Lit.int .i64 a1).wf = true) :
    Calls Try.prog 5 #[a0, .int .i64 a1] w fun e w' => e = .returned (.bool true) ∧ Below w.heap.size w w' := by
  obtain ⟨i0, hi0, hz0', hz1, hz2⟩ := info_parts infoI
  have hl0 := ddat_long w0
  have W0 := hide w0
  obtain ⟨aG, cG, rfl⟩ := ddat_len w0
  clear w0 b0
  go_enter Try.func5, Try.ntmps5
  go_wp2_with fail
  refine (muchD_any 20 _ l0 _ W0.out hl0).mono ?_
  rintro e w1 ⟨r, rfl, hok, hb1⟩
  cases r
  case true =>
    clear hok
    go_wp2_with fail
    refine (awake7_any _).mono ?_
    rintro e w2 ⟨rfl, hb2⟩
    have hb := bl_trans hb1 hb2
    go_wp2
    go_ret
    exact ⟨rfl, hb⟩
  case false =>
    obtain ⟨hn, hd⟩ := hok rfl
    have HD := hide hd
    have T0 := hide (tab_new w1)
    have B0 := hide (show Below w1.heap.size w1 _ from bl_alloc (bl_refl w1) (.cells #[.int .i64 0, .slice none 0 0] 75))
    clear hok hd
    go_wp2_with fail
    refine (mnew_any _).mono ?_
    rintro e w2 ⟨rfl, hw2⟩
    rw [hw2] at T0 B0
    clear hw2
    go_wp2
    go_loopw [6] (fun i wr => DoInv l0.length w1.heap.size w1 i wr) (fun i _ => l0.length - (intOf i).toNat)
    case atStart => exact ⟨0, 0, _, [], rfl, Nat.zero_le _, hide T0.out, hide invM_nil, B0.out⟩
    case round =>
      obtain ⟨k, last, v, L, rfl, hk, HT, HI, hbl⟩ := hrel
      by_cases hlt : k < l0.length
      · have hb3 := bl_trans hb1 hbl
        obtain ⟨b1, o1, c1', hv1, hc1, hm1, hlb1, hcell1⟩ := ddat_some (ddat_below W0.out hb3) (by omega)
        injection hv1 with hv1 _ hv1c
        subst hv1 hv1c
        unfold maxLen at hm1
        obtain ⟨x0, x1, x2, x3, x4, x5, x6, hE⟩ := hcell1 k hlt
        have hdk : DdOk l0[k] := HD.out _ (List.getElem_mem hlt)
        have HDO := hide (does_any w1.heap.size w1.heap.size k last v L l0[k] wr HT.out HI.out (by omega) hbl.size hE hdk)
        have HI3 := hide (stepM_inv HI.out l0[k] hdk)
        clear hcell1 hE hdk HI
        generalize stepM l0[k] last L = s at *
        generalize l0[k] = d at *
        obtain ⟨s1, s2, last3, L3⟩ := s
        simp only at HI3
        obtain ⟨dk, da, db, dc, dp, dq, dv, de⟩ := d
        simp only at x0 x1 x2 x3 x4 x5 x6 HDO
        go_wp2_with fail
        refine HDO.out.mono ?_
        rintro e w3 ⟨rfl, ⟨v3, ht3⟩, hb4⟩
        simp only at ht3
        have HT3 := hide ht3
        have hlen := HI3.out.len
        have hbl3 := hbl.trans hb4
        clear HDO ht3 x0 x1 x2 x3 x4 x5 x6
        go_wp2
        refine ⟨?_, by first | (simp [intOf]; done) | (simp [intOf]; omega)⟩
        exact ⟨k + 1, last3, v3, L3, by go_num, by omega, HT3, HI3, hbl3⟩
      · obtain rfl : k = l0.length := by omega
        have hlen := HI.out.len
        have hb3 := bl_trans hb1 hbl
        go_wp2_with fail
        refine (idsT_any w1.heap.size w1.heap.size last v L _ HT.out (by omega)).mono ?_
        rintro e w4 ⟨⟨vi, rfl, hoi⟩, hb4⟩
        have HOI := hide (own_intat (l := L.map (·.id)) (by rw [List.map_map]; exact hoi) (by simp))
        have hbl4 := hbl.trans (hb4.mono hbl.size)
        have HT4 := hide (HT.out.later hb4)
        obtain ⟨aI, cI, rfl⟩ := own_slice hoi
        clear hoi HT
        go_wp2_with fail
        refine (kidsT_any w1.heap.size w1.heap.size last v L 0 _ HT4.out (by omega)).mono ?_
        rintro e w5 ⟨⟨vk, rfl, hok⟩, hb5⟩
        have hbl5 := hbl4.trans (hb5.mono hbl4.size)
        have HT5 := hide (HT4.out.later hb5)
        have HOI5 := hide (intat_below HOI.out hb5)
        obtain ⟨aK, cK, rfl⟩ := own_slice hok
        have hb15 := bl_trans hb1 hbl5
        clear hok HT4 HOI
        rw [show (L.filter (kidB 0)).length = sumK L 0 from rfl]
        go_wp2
        go_loopw [8, 9, 10] (fun many here i wr => KidsK a1 L w5 many here i wr) (fun _ _ i _ => L.length - (intOf i).toNat)
        case atStart => exact ⟨0, rfl, rfl, Nat.zero_le _, hide ⟨rfl, .inl ⟨rfl, rfl⟩⟩, bl_refl _⟩
        case round =>
          obtain ⟨m, rfl, rfl, hm, HH, hbm⟩ := hrel
          obtain ⟨n, hn⟩ : ∃ n, ((L.take m).filter (atB a1)).length = n := ⟨_, rfl⟩
          rw [hn] at HH
          obtain ⟨aV, cV, hhv⟩ := own_slice HH.out
          subst hhv
          by_cases hlt2 : m < L.length
          · have hn2 : n ≤ m := by rw [← hn]; exact Nat.le_trans (List.length_filter_le _ _) (by rw [List.length_take]; omega)
            have hmem := List.getElem_mem hlt2
            have hid := HI.out.ids _ hmem
            have hstep : (L.take (m + 1)).filter (atB a1) = (L.take m).filter (atB a1) ++ if atB a1 L[m] then [L[m]] else [] := by
              rw [List.take_succ_eq_append_getElem hlt2, List.filter_append, List.filter_cons, List.filter_nil]
            have hsum := sumK_succ L m hlt2
            have hsb := sumK_bound L (m + 1)
            have HG1 := hide (fun r ok (h : GotM L L[m].id r ok) => gotM_at HI.out.rise h m hlt2 rfl)
            have hkid : ∀ q ∈ L.filter (kidB L[m].id), q ∈ L ∧ q.p = L[m].id ∧ L[m].id < q.id := fun q hq => by
              obtain ⟨h1, h2⟩ := List.mem_filter.1 hq
              have h3 : q.p = L[m].id := by simpa [kidB] using h2
              have h4 := HI.out.below q h1
              exact ⟨h1, h3, by omega⟩
            have HKID := hide hkid
            have hprev : 0 < m → ∃ pi : Int, ((L.map (·.id))[m - 1]'(by simp; omega)) = pi ∧ pi < L[m].id := fun h0 => ⟨_, rfl, by rw [List.getElem_map]; exact rise_at HI.out.rise (m - 1) m (by omega) hlt2⟩
            have HPREV := hide hprev
            have hidm : (L.map (·.id))[m]'(by simpa using hlt2) = L[m].id := List.getElem_map ..
            have HIDM := hide hidm
            have hsn : ((L.take m).filter (atB a1)).length = n := hn
            have hnl : (L.filter (kidB L[m].id)).length ≤ L.length := List.length_filter_le _ _
            have hbl' := bl_trans hb15 hbm
            clear hkid hprev hidm hn
            generalize (L.take m).filter (atB a1) = K at *
            subst hsn
            generalize L[m] = q at *
            obtain ⟨qi, qf, qt, qb, qc, qp⟩ := q
            simp only at hid HG1 HKID HPREV HIDM hsum hnl
            have hd1 : decide (qi < 1) = false := by simp; omega
            obtain ⟨g, c, hv, hg1, hc1, hcm, hcell⟩ := intat_some (intat_below HOI5.out hbm) (by rw [List.length_map]; omega)
            rw [List.length_map] at hv hc1
            injection hv with hv _ hvc
            subst hv hvc
            unfold maxLen at hcm
            have y0 := hcell m (by rw [List.length_map]; exact hlt2)
            rw [HIDM.out] at y0
            have HCELL := hide hcell
            clear hcell
            have HSTEP := hide hstep
            clear hstep
            go_wp2_with fail
            refine (get_any w1.heap.size w1.heap.size last v L qi _ (HT5.out.later hbm) HI.out.rise (by omega)).mono ?_
            rintro e w6 ⟨⟨r, ok, rfl, hgot⟩, hb6⟩
            obtain ⟨rfl, rfl⟩ := HG1.out r ok hgot
            clear hgot HG1
            have hg5 : g < w5.heap.size := by
              rcases HOI5.out with ⟨h, _⟩ | ⟨g', c', h, h1, _⟩
              · cases h
              · injection h with h; injection h with h; injection h with h; omega
            have hba := bl_alloc hb6 (.cells #[.int .i64 qf, .int .i64 qt, .bool qb, .bool qc, .int .i64 qp] 43)
            have z0 := cell_later hba y0
            unfold vR
            have hcase : (decide (0 < m) = false ∧ decide ((0 : Int) < (m : Int)) = false) ∨ (decide (0 < m) = true ∧ decide ((0 : Int) < (m : Int)) = true ∧ ∃ (pi : Int) (p : Nat), IntKind.i64.wrap ((m : Int) - 1) = (p : Int) ∧ p < L.length ∧ (w6.alloc (.cells #[.int .i64 qf, .int .i64 qt, .bool qb, .bool qc, .int .i64 qp] 43)).cell? ⟨g, p, none⟩ = some (.int .i64 pi) ∧ decide (qi ≤ pi) = false) := by
              by_cases h0 : 0 < m
              · obtain ⟨pi, h1, h2⟩ := HPREV.out h0
                refine .inr ⟨by simpa using h0, by simp; omega, pi, m - 1, by rw [IntWalk.i64_in _ (by omega)]; omega, by omega, ?_, by simp; omega⟩
                rw [← h1]
                exact cell_later hba (HCELL.out (m - 1) (by rw [List.length_map]; omega))
              · exact .inl ⟨by simpa using h0, by simp; omega⟩
            clear HPREV HCELL y0
            rcases hcase with ⟨g1, g2⟩ | ⟨g1, g2, pi, pn, hwp, hpn, z1, g3⟩
            all_goals
              go_wp2
              go_quiet (fail)
              try clear hwp z1
              have hfq : (World.drewN (w6.alloc (.cells #[.int .i64 qf, .int .i64 qt, .bool qb, .bool qc, .int .i64 qp] 43)) nq).heap[w6.heap.size]? = _ := heap_alloc_new w6 (.cells #[.int .i64 qf, .int .i64 qt, .bool qb, .bool qc, .int .i64 qp] 43)
              have hz := bl_trans hbm (bl_drewN hba nq)
              have z2 : (World.drewN (w6.alloc (.cells #[.int .i64 qf, .int .i64 qt, .bool qb, .bool qc, .int .i64 qp] 43)) nq).cell? ⟨g, m, none⟩ = some (.int .i64 qi) := z0
              have hrow := own_below HH.out (bl_drewN hba nq)
              clear z0
              generalize World.drewN (w6.alloc (.cells #[.int .i64 qf, .int .i64 qt, .bool qb, .bool qc, .int .i64 qp] 43)) nq = wz at *
              obtain ⟨p0, p1, p2, p3, p4, pf⟩ := box5 hfq
              clear hfq
              have hcond : (decide (qf ≤ a1) = false ∧ atB a1 ⟨qi, qf, qt, qb, qc, qp⟩ = false) ∨ (decide (qf ≤ a1) = true ∧ decide (a1 ≤ qt) = false ∧ atB a1 ⟨qi, qf, qt, qb, qc, qp⟩ = false) ∨ (decide (qf ≤ a1) = true ∧ decide (a1 ≤ qt) = true ∧ atB a1 ⟨qi, qf, qt, qb, qc, qp⟩ = true) := by
                unfold atB hasB
                by_cases h1 : qf ≤ a1
                · by_cases h2 : a1 ≤ qt
                  · exact .inr (.inr ⟨by simpa using h1, by simpa using h2, by simp; omega⟩)
                  · exact .inr (.inl ⟨by simpa using h1, by simpa using h2, by simp; omega⟩)
                · exact .inl ⟨by simpa using h1, by simp; omega⟩
              rcases hcond with ⟨k1, k3⟩ | ⟨k1, k2, k3⟩ | ⟨k1, k2, k3⟩
              case' inr.inr =>
                have hfin : ∀ (v' : Value) (W : World), W.ownsRow w5.heap.size 3 1 v' (K.length + 1) ((K.map fun r => Value.int .i64 r.id) ++ [.int .i64 qi]) → Hid (W.ownsRow w5.heap.size 3 1 v' ((L.take (m + 1)).filter (atB a1)).length (((L.take (m + 1)).filter (atB a1)).map fun r => .int .i64 r.id)) := fun v' W h => hide (by rw [HSTEP.out, k3, if_pos rfl, List.map_append, List.length_append]; exact h)
                have HFIN := hide hfin
                clear HSTEP hfin
                go_wp2_with (at_builtin; (refine wpList_push wz rfl _ _ 28 rfl w5.heap.size 3 i0 (.int .i64 0) 1 8 Try.underlying28 hi0 hz0' hz1 hz2 rfl (by decide) (.slice aV K.length cV) K.length (K.map fun r => .int .i64 r.id) rfl hrow 1 #[.int .i64 qi] rfl rfl (by simp [Value.oneCell']) (by omega) (by decide) (by have := hz.size; omega) ?_); intro vz wq hvz hgz hatz; have hzq : Below w5.heap.size w5 wq := bl_own hz hrow hgz (Nat.le_refl _); have hzi : wq.cell? ⟨g, m, none⟩ = some (.int .i64 qi) := (hzq.cell (p := ⟨g, m, none⟩) hg5).trans ((hz.cell (p := ⟨g, m, none⟩) hg5).symm.trans z2))
                have HF2 := HFIN.out _ _ hvz
                obtain ⟨aX, cX, rfl⟩ := own_slice hvz
                clear HFIN hvz hgz hatz hz z2 hrow p0 p1 p2 p3 p4 pf
                have hz := hzq
                have z2 := hzi
                clear hzq hzi
              case' inl =>
                have HF2 : Hid (wz.ownsRow w5.heap.size 3 1 (.slice aV K.length cV) ((L.take (m + 1)).filter (atB a1)).length (((L.take (m + 1)).filter (atB a1)).map fun r => .int .i64 r.id)) := hide (by rw [HSTEP.out, k3, if_neg (by simp), List.append_nil]; exact hrow)
                clear HSTEP hrow
              case' inr.inl =>
                have HF2 : Hid (wz.ownsRow w5.heap.size 3 1 (.slice aV K.length cV) ((L.take (m + 1)).filter (atB a1)).length (((L.take (m + 1)).filter (atB a1)).map fun r => .int .i64 r.id)) := hide (by rw [HSTEP.out, k3, if_neg (by simp), List.append_nil]; exact hrow)
                clear HSTEP hrow
              all_goals
                go_wp2_with fail
                refine (kidsT_any w1.heap.size w1.heap.size last v L qi _ (HT5.out.later hz) (by omega)).mono ?_
                rintro e w8 ⟨⟨vk, rfl, hok⟩, hb8⟩
                have HKA := hide (own_intat (l := (L.filter (kidB qi)).map (·.id)) (by rw [List.map_map]; exact hok) (by simp))
                have hz8 := bl_trans hz hb8
                have HF3 := hide (own_below HF2.out hb8)
                have z3 := cell_later hb8 z2
                obtain ⟨aK, cK, rfl⟩ := own_slice hok
                obtain ⟨nk, hnk⟩ : ∃ nk, (L.filter (kidB qi)).length = nk := ⟨_, rfl⟩
                rw [hnk] at hsum hnl ⊢
                obtain ⟨ms, hms⟩ : ∃ ms, sumK L m = ms := ⟨_, rfl⟩
                rw [hms] at hsum ⊢
                have h440 : ms + nk ≤ 440 := by rw [← hsum]; exact Nat.le_trans hsb (Nat.mul_le_mul (show L.length ≤ 20 by omega) (show m + 1 + 1 ≤ 22 by omega))
                have h440' : (ms : Int) + (nk : Int) ≤ 440 := by omega
                clear hok HF2 z2 hz
                go_wp2
                go_loopw [14] (fun j wr => ∃ n : Nat, j = .int .i64 n ∧ n ≤ nk ∧ Below w8.heap.size w8 wr) (fun j _ => nk - (intOf j).toNat)
                case atStart => exact ⟨0, rfl, Nat.zero_le _, bl_refl _⟩
                case round =>
                  obtain ⟨n, rfl, hn, hbn⟩ := hrel
                  by_cases hlt3 : n < nk
                  · obtain ⟨g2, c2, hv2, hg2, hc2, hcm2, hcell2⟩ := intat_some (intat_below HKA.out hbn) (by rw [List.length_map]; omega)
                    rw [List.length_map, hnk] at hv2 hc2
                    injection hv2 with hv2 _ hvc2
                    subst hv2 hvc2
                    unfold maxLen at hcm2
                    have y1 := hcell2 n (by rw [List.length_map]; omega)
                    rw [List.getElem_map] at y1
                    have hin : n < (L.filter (kidB qi)).length := by omega
                    obtain ⟨hk1, hk2, hk3⟩ := HKID.out _ (List.getElem_mem hin)
                    have HG2 := hide (fun r ok (h : GotM L (L.filter (kidB qi))[n].id r ok) => gotM_mem HI.out.rise h _ hk1 rfl)
                    generalize (L.filter (kidB qi))[n] = q2 at *
                    obtain ⟨q2i, q2f, q2t, q2b, q2c, q2p⟩ := q2
                    simp only at hk2 hk3 y1 HG2
                    subst hk2
                    have d1 : decide (q2i ≤ q2p) = false := by simp; omega
                    clear hcell2
                    go_wp2_with fail
                    refine (get_any w1.heap.size w1.heap.size last v L q2i _ (HT5.out.later (bl_trans hz8 hbn)) HI.out.rise (by omega)).mono ?_
                    rintro e w9 ⟨⟨r, ok, rfl, hgot⟩, hb9⟩
                    obtain ⟨rfl, rfl⟩ := HG2.out r ok hgot
                    clear hgot HG2
                    have hba9 := bl_alloc hb9 (.cells #[.int .i64 q2f, .int .i64 q2t, .bool q2b, .bool q2c, .int .i64 q2p] 43)
                    have z4 := cell_later (bl_trans hbn hba9) z3
                    have z5 := cell_later hba9 y1
                    clear y1
                    unfold vR
                    go_wp2
                    go_quiet (fail)
                    go_wp2
                    refine ⟨?_, by first | (simp [intOf]; done) | (simp [intOf]; omega)⟩
                    exact ⟨n + 1, by go_num, by omega, bl_drewN (bl_trans hbn hba9) _⟩
                  · obtain rfl : n = nk := by omega
                    have HF4 := hide (own_below HF3.out hbn)
                    have hz9 := bl_trans hz8 hbn
                    clear HKA HKID HF3
                    go_wp2
                    refine ⟨?_, by first | (simp [intOf]; done) | (simp [intOf]; omega)⟩
                    exact ⟨m + 1, by rw [hsum]; go_num, by go_num, by omega, HF4, hz9⟩
          · obtain rfl : m = L.length := by omega
            rw [List.take_length] at HH hn
            have hall := sumK_all HI.out
            have hcmp : ((sumK L L.length : Nat) : Int) = (L.length : Int) := by rw [hall]
            have HHN := hide hn
            rw [hcmp]
            have HAT := hide (own_intat (l := (L.filter (atB a1)).map (·.id)) (n := n) (by rw [List.map_map]; exact HH.out) (by simpa using hn.symm))
            have hbl6 := bl_trans hb15 hbm
            have hT6 := HT5.out.later hbm
            clear HH hcmp hn
            go_wp2_with fail
            refine (tatT_any w1.heap.size w1.heap.size last v L a1 _ hT6 (by omega)).mono ?_
            rintro e w8 ⟨⟨va, rfl, hoa⟩, hb8⟩
            have HAT2 := hide (own_intat (l := (L.filter (atB a1)).map (·.id)) (by rw [List.map_map]; exact hoa) (by simp))
            have HAT1 := hide (intat_below HAT.out hb8)
            obtain ⟨aX, cX, rfl⟩ := own_slice hoa
            have hfl := List.length_filter_le (atB a1) L
            clear hoa HAT
            go_wp2_with fail
            refine (ints_same _ _ _ _ HAT1.out HAT2.out (by simp; omega)).mono ?_
            rintro e w9 ⟨rfl, hb9⟩
            go_wp2_with fail
            refine (awake7_any _).mono ?_
            rintro e w10 ⟨rfl, hb10⟩
            have hbz := bl_trans hbl6 (bl_trans hb8 (bl_trans hb9 hb10))
            go_wp2
            go_ret
            exact ⟨rfl, hbz⟩

set_option maxRecDepth 100000 in
theorem lifted (os : Os) (started : os.Started) (H : Type) (enc : TypeId × Value → H) :
    ReturnsInHanded {} Try.checked os 5 .any (Rows.marksKidsSpec.pre6 enc Try.prog Try.f5 Rows.marksKidsRow.domain false) (Rows.marksKidsSpec.post enc Try.prog Try.f5 false true false false) := by
  refine returnsInHanded_of_change (C := Try.checked) own started (by kernel_rfl) Try.func5
    (ChangeSpec.witness6 (enc := enc) (C := Try.checked) false ⟨#[], #[.slice none 0 0, .int .i64 0], []⟩ 8 (by kernel_rfl) (by kernel_rfl) (by kernel_rfl) (by kernel_rfl)) ?_
  intro W base args ds gs before hval0 hW hcnd _
  have hval : ∀ (j : Nat) t v, Try.f5.params[j]? = some t → args[j]? = some v → Value.okWide Try.prog W .any base t v := hval0
  have hW' := hW
  obtain ⟨p, q, hA0, hV, rfl, hfz, hnd⟩ := hW
  have hA : DataW.TrodAll enc Try.prog W 0 (fun _ => true) true Try.f5.params.toList args.toList ds p := hA0
  rw [Try.params5] at hA hval
  obtain ⟨v0, vs0, d0, ds0, p0, q0, hargs, rfl, rfl, h0, r0⟩ := trodAll_cons hA
  obtain ⟨v1, vs1, d1, ds1, p1, q1, rfl, rfl, rfl, h1, r1⟩ := trodAll_cons r0
  obtain ⟨rfl, rfl, rfl⟩ := trodAll_nil r1
  obtain rfl : args = #[v0, v1] := by cases args; simp_all
  obtain ⟨rfl, rfl⟩ := trodVars_none hV
  have k0 := h0
  have lt0 : ∀ x ∈ p0, x.block < W.heap.size := by obtain ⟨m, hm⟩ := k0; exact DataW.trod_lt m _ _ _ hm
  obtain ⟨l0, w0, b0⟩ := open_deeds (hval 0 22 v0 rfl rfl) h0
  have k1 := h1
  have lt1 : ∀ x ∈ p1, x.block < W.heap.size := by obtain ⟨m, hm⟩ := k1; exact DataW.trod_lt m _ _ _ hm
  obtain ⟨a1, rfl, hd1, hp1, w1⟩ := open_int Try.underlying3 (hval 1 3 v1 rfl rfl) h1
  clear hA0 hval0
  refine (walk v0 l0 a1 W w0 b0 w1).mono fun e W' ⟨he, bel⟩ => ?_
  subst he
  exact ⟨_, rfl, _, _, _, [], _, [], hW', trodAll_mk1 (shut_bool Try.underlying4 _), (trodAll_cons_mk (Below.trod laidOut (by kernel_rfl) (of_decide_eq_true (by kernel_rfl)) k0 bel lt0) (trodAll_cons_mk (Below.trod laidOut (by kernel_rfl) (of_decide_eq_true (by kernel_rfl)) k1 bel lt1) trodAll_mk0)), rfl, bel.frame _, fun h => by cases h⟩

theorem over : Rows.marksKidsRow.holds Try.pinned (OpenSpec.ofChange Rows.marksKidsSpec) :=
  OpenClaim.holds_of_wide 5 Try.f5 rfl rfl rfl rfl rfl rfl rfl ⟨rfl, rfl, rfl, rfl, rfl⟩ rfl rfl rfl rfl rfl (by kernel_rfl) Try.func5 (by kernel_rfl)
    (of_decide_eq_true (by kernel_rfl)) (by unfold Func.isWrapper; first | (rw [if_pos (by decide +kernel)]; kernel_rfl) | (rw [if_neg (by decide +kernel)]; exact ⟨rfl, rfl⟩))
    (fun os started H enc _ => lifted os started H enc)

theorem proved : Rows.MarksKidsSaid := over
end Go.Proofs.Ytjmoeahlbgdkbaa.marksKids
