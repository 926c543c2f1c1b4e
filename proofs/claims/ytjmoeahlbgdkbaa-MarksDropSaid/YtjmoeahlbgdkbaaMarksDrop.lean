/- What is dropped goes with all that lies in it, at any depth; nothing else goes, or moves. Conditions: none beyond the form's own. -/
import Derived.Test.YtjmoeahlbgdkbaaRows
import Derived.Test.YtjmoeahlbgdkbaaArgs
import Derived.Test.YtjmoeahlbgdkbaaDoEnd
namespace Go.Proofs.Ytjmoeahlbgdkbaa.marksDrop
open Go.Proofs.Ytjmoeahlbgdkbaa
open Go.ChangeShapes Go.WideShapes Go.ChangeAt Go.RowKit Go.Deep
open Go.ChangeMaps (open_string shut_string)
set_option linter.unusedVariables false

theorem own : ownKnob Try.prog.godebug = none := by kernel_rfl
theorem laidOut : laidOutB Try.prog = true := by kernel_rfl
-- opt:16000000
open SpanM EdM
attribute [local go_sem ↓] Go.wp_at_zero Go.wp_at_succ
def upQ (L : List Mk) (x : Int) : Int := match L.find? (fun q => q.id == x) with | some q => q.p | none => 0
theorem got_up {L : List Mk} {x : Int} {r : Value} {ok : Bool} (hR : RiseM L) (h : GotM L x r ok) : ∃ (f t : Int) (b c : Bool) (p : Int), r = .agg #[.int .i64 f, .int .i64 t, .bool b, .bool c, .int .i64 p] ∧ upQ L x = p := by
  unfold upQ
  rcases h with ⟨_, i, hi, hid, rfl⟩ | ⟨_, rfl, hno⟩
  · exact ⟨_, _, _, _, _, rfl, by rw [find_at hR x i hi hid]⟩
  · exact ⟨0, 0, false, false, 0, rfl, by rw [find_none hno]⟩
def UpK (L : List Mk) (X F : Int) (w : World) (u j : Value) (wr : World) : Prop :=
  ∃ (n : Nat) (y : Int), u = .int .i64 y ∧ j = .int .i64 n ∧ n ≤ L.length + 1 ∧ Hid (upM L X (L.length + 1 - n) y = F) ∧ Below w.heap.size w wr
set_option maxRecDepth 100000 in
set_option maxHeartbeats 16000000 in
theorem walk (a0 : Value) (l0 : List Dd) (a1 : Int) (w : World) (w0 : DdAt w a0 l0) (b0 : ∀ d ∈ l0, WfD d) (w1 : (Lit.int .i64 a1).wf = true) :
    Calls Try.prog 6 #[a0, .int .i64 a1] w fun e w' => e = .returned (.bool true) ∧ Below w.heap.size w w' := by
  have hl0 := ddat_long w0
  have W0 := hide w0
  obtain ⟨aG, cG, rfl⟩ := ddat_len w0
  clear w0 b0
  go_enter Try.func6, Try.ntmps6
  go_wp2_with fail
  refine (muchD_any 20 _ l0 _ W0.out hl0).mono ?_
  rintro e w1 ⟨r, rfl, hok, hb1⟩
  cases r
  case true =>
    clear hok
    go_wp2_with fail
    refine (awake7_any _).mono ?_
    rintro e w2 ⟨rfl, hb2⟩
    have hb := bl_trans hb1 hb2
    go_wp2
    go_ret
    exact ⟨rfl, hb⟩
  case false =>
    obtain ⟨hn, hd⟩ := hok rfl
    have HD := hide hd
    have T0 := hide (tab_new w1)
    have B0 := hide (show Below w1.heap.size w1 _ from bl_alloc (bl_refl w1) (.cells #[.int .i64 0, .slice none 0 0] 75))
    clear hok hd
    go_wp2_with fail
    refine (mnew_any _).mono ?_
    rintro e w2 ⟨rfl, hw2⟩
    rw [hw2] at T0 B0
    clear hw2
    go_wp2
    go_loopw [6] (fun i wr => DoInv l0.length w1.heap.size w1 i wr) (fun i _ => l0.length - (intOf i).toNat)
    case atStart => exact ⟨0, 0, _, [], rfl, Nat.zero_le _, hide T0.out, hide invM_nil, B0.out⟩
    case round =>
      obtain ⟨k, last, v, L, rfl, hk, HT, HI, hbl⟩ := hrel
      by_cases hlt : k < l0.length
      · have hb3 := bl_trans hb1 hbl
        obtain ⟨b1, o1, c1', hv1, hc1, hm1, hlb1, hcell1⟩ := ddat_some (ddat_below W0.out hb3) (by omega)
        injection hv1 with hv1 _ hv1c
        subst hv1 hv1c
        unfold maxLen at hm1
        obtain ⟨x0, x1, x2, x3, x4, x5, x6, hE⟩ := hcell1 k hlt
        have hdk : DdOk l0[k] := HD.out _ (List.getElem_mem hlt)
        have HDO := hide (does_any w1.heap.size w1.heap.size k last v L l0[k] wr HT.out HI.out (by omega) hbl.size hE hdk)
        have HI3 := hide (stepM_inv HI.out l0[k] hdk)
        clear hcell1 hE hdk HI
        generalize stepM l0[k] last L = s at *
        generalize l0[k] = d at *
        obtain ⟨s1, s2, last3, L3⟩ := s
        simp only at HI3
        obtain ⟨dk, da, db, dc, dp, dq, dv, de⟩ := d
        simp only at x0 x1 x2 x3 x4 x5 x6 HDO
        go_wp2_with fail
        refine HDO.out.mono ?_
        rintro e w3 ⟨rfl, ⟨v3, ht3⟩, hb4⟩
        simp only at ht3
        have HT3 := hide ht3
        have hlen := HI3.out.len
        have hbl3 := hbl.trans hb4
        clear HDO ht3 x0 x1 x2 x3 x4 x5 x6
        go_wp2
        refine ⟨?_, by first | (simp [intOf]; done) | (simp [intOf]; omega)⟩
        exact ⟨k + 1, last3, v3, L3, by go_num, by omega, HT3, HI3, hbl3⟩
      · obtain rfl : k = l0.length := by omega
        have hlen := HI.out.len
        have hb3 := bl_trans hb1 hbl
        go_wp2_with fail
        refine (idsT_any w1.heap.size w1.heap.size last v L _ HT.out (by omega)).mono ?_
        rintro e w4 ⟨⟨vi, rfl, hoi⟩, hb4⟩
        have HOI := hide (own_intat (l := L.map (·.id)) (by rw [List.map_map]; exact hoi) (by simp))
        have hbl4 := hbl.trans (hb4.mono hbl.size)
        have HT4 := hide (HT.out.later hb4)
        obtain ⟨aI, cI, rfl⟩ := own_slice hoi
        have HRW := hide hoi
        have htlt := HT.out.lt
        clear hoi HT
        by_cases hL : L.length = 0
        · have hnil : ∀ r ∈ L, r.id ≠ a1 := fun r hr => by
            rw [List.eq_nil_of_length_eq_zero hL] at hr; simp at hr
          have hz : ((L.length : Int) == 0) = true := by simp [hL]
          go_wp2_with fail
          refine (drop_none w1.heap.size w1.heap.size last v L a1 _ HT4.out HI.out.rise (by omega) hnil).mono ?_
          rintro e w5 ⟨rfl, hb5⟩
          have hbl5 := hbl4.trans (hb5.mono hbl4.size)
          go_wp2_with fail
          refine (awake7_any _).mono ?_
          rintro e w6 ⟨rfl, hb6⟩
          have hb7 := bl_trans (bl_trans hb1 hbl5) hb6
          go_wp2
          go_ret
          exact ⟨rfl, hb7⟩
        · have hz : ((L.length : Int) == 0) = false := beq_eq_false_iff_ne.2 (by omega)
          have hz' : (L.length == 0) = false := beq_eq_false_iff_ne.2 hL
          obtain ⟨q, hq⟩ : ∃ q : Nat, lowN a1 L.length = q := ⟨_, rfl⟩
          have hq1 : q < L.length := by rw [← hq]; exact lowN_lt a1 _ (by omega)
          have HQ := hide (show (lowN a1 L.length : Int) = (q : Int) by rw [hq])
          obtain ⟨g, c, hv, hg1, hc1, hcm, hcell⟩ := intat_some HOI.out (by simp; omega)
          rw [List.length_map] at hv hc1
          injection hv with hv _ hvc
          subst hv hvc
          unfold maxLen at hcm
          have y0 := hcell q (by simpa using hq1)
          rw [List.getElem_map] at y0
          clear hcell
          obtain ⟨X, hX⟩ : ∃ X, L[q].id = X := ⟨_, rfl⟩
          rw [hX] at y0
          have hXin : ∃ r ∈ L, r.id = X := ⟨_, List.getElem_mem hq1, hX⟩
          have hX1 := HI.out.ids _ (List.getElem_mem hq1)
          rw [hX] at hX1
          have hlast := HI.out.hi
          have hXw : (Lit.int .i64 X).wf = true := WalkArith.wf_i64 (by omega)
          have HGONE := hide (upM_gone HI.out X hX1.1)
          have HIND := hide (dropM_inv HI.out X)
          clear hq hX
          go_wp2_with fail
          refine (low_e a1 L.length q _ (by omega) (by omega) HQ.out).mono ?_
          rintro e w5 ⟨rfl, rfl⟩
          go_wp2_with fail
          refine (twin_any w1.heap.size w1.heap.size last v L _ HT4.out (by omega)).mono ?_
          rintro e wt ⟨⟨tb2, v2, rfl, hU⟩, hbt⟩
          have HTt := hide (HT4.out.later hbt)
          have HU := hide hU
          have hblt := hbl4.trans (hbt.mono hbl4.size)
          have hlow := hU.low
          have hltw := HT4.out.lt
          have hs4 := hbl4.size
          have hst := hblt.size
          have hv2 : ∀ k, v2.ownBlock = some k → w4.heap.size ≤ k := fun k hk => (HU.out.own.lt k hk).1
          have HDR := hide (drop_any w1.heap.size w1.heap.size last v L X wt HTt.out HI.out.rise (by omega) hXw (by omega) (HI.out.wf (by omega)) hXin)
          clear hU HOI HT4 y0
          go_wp2_with fail
          refine HDR.out.mono ?_
          rintro e w7 ⟨rfl, ⟨v7, T7, hv7⟩, hg7⟩
          have hs7 := hg7.size
          have U7 := HU.out.kept hg7 (fun e => by injection e with e; omega) (.inr (fun e => by have := hv2 _ e; omega))
          have hbl7 : Below w1.heap.size w1 w7 := below_gr hblt (Nat.le_refl _) hg7 (fun k hk => by injection hk with hk; omega)
          have hOI7 : IntAt w7 (.slice (some ⟨g, 0, none⟩) L.length cI) (L.map (·.id)) := own_intat (l := L.map (·.id)) (by rw [List.map_map]; exact (own_below HRW.out hbt).kept hg7 (.inr (fun e => by have := (HRW.out.lt _ e).1; omega))) (by simp)
          have HT7 := hide T7
          have HU7 := hide U7
          have HOI7 := hide hOI7
          clear T7 U7 hg7 HDR HU HTt hOI7 HRW hbt
          have hno : ∀ r ∈ dropM X L, r.id ≠ X := fun r hr e => by
            obtain ⟨i1, i2, i3, i4, i5⟩ := gone_fold X L HI.out.rise HI.out.below
            exact ((i4 r).1 hr).2 (e ▸ i1)
          have hlend : (dropM X L).length ≤ L.length := (gone_fold X L HI.out.rise HI.out.below).sub.length_le
          go_wp2_with fail
          refine (drop_none w1.heap.size w1.heap.size last v7 (dropM X L) X _ HT7.out HIND.out.rise (by omega) hno).mono ?_
          rintro e w8 ⟨rfl, hb8⟩
          have HT8 := hide (HT7.out.later hb8)
          have HU8 := hide (HU7.out.later hb8)
          have HOI8 := hide (intat_below HOI7.out hb8)
          have hbl8 := hbl7.trans (hb8.mono hbl7.size)
          clear HT7 HU7 HOI7 hno
          go_wp2
          go_loopw [10] (fun i wr => ∃ m : Nat, i = .int .i64 m ∧ m ≤ L.length ∧ Below w8.heap.size w8 wr) (fun i _ => L.length - (intOf i).toNat)
          case atStart => exact ⟨0, rfl, Nat.zero_le _, bl_refl _⟩
          case round =>
            obtain ⟨m, rfl, hm, hbm⟩ := hrel
            by_cases hlt2 : m < L.length
            · obtain ⟨g', c', hv, hg1', hc1', hcm', hcell⟩ := intat_some (intat_below HOI8.out hbm) (by rw [List.length_map]; omega)
              rw [List.length_map] at hv hc1'
              injection hv with hv _ hvc
              subst hvc
              have hgg : g' = g := by injection hv with hv; injection hv with hv; exact hv.symm
              subst hgg
              unfold maxLen at hcm'
              have y0 := hcell m (by rw [List.length_map]; exact hlt2)
              rw [List.getElem_map] at y0
              obtain ⟨F, hF⟩ : ∃ F, upM L X (L.length + 1) L[m].id = F := ⟨_, rfl⟩
              have hgone := HGONE.out m hlt2 (L.length + 1) (by omega)
              rw [hF] at hgone
              have HG1 := hide (fun r ok (h : GotM L L[m].id r ok) => gotM_at HI.out.rise h m hlt2 rfl)
              have HG2 := hide (fun (hd : L[m] ∈ dropM X L) r ok (h : GotM (dropM X L) L[m].id r ok) => gotM_mem HIND.out.rise h L[m] hd rfl)
              have HG3 := hide (show L[m] ∉ dropM X L → ∀ r ok, GotM (dropM X L) L[m].id r ok → r = zeroR ∧ ok = false from fun hd r ok h => by
                rcases h with ⟨_, i, hi, hid, _⟩ | ⟨h1, h2, _⟩
                · have hmem := List.getElem_mem hi
                  have h3 : (dropM X L)[i] ∈ L := ((gone_fold X L HI.out.rise HI.out.below).kept _ |>.1 hmem).1
                  have h4 := rise_inj HI.out.rise h3 (List.getElem_mem hlt2) hid
                  rw [h4] at hmem
                  exact absurd hmem hd
                · exact ⟨h2, h1⟩)
              have HGN := hide hgone
              have HF := hide hF
              clear hcell hgone hF
              generalize hq0 : L[m] = q0 at *
              obtain ⟨qi, qf, qt, qb, qc, qp⟩ := q0
              simp only at y0 HF HGN HG1 HG2 HG3
              go_wp2
              go_loopw [11, 12] (fun u j w' => UpK L X F wr u j w') (fun _ j _ => L.length + 1 - (intOf j).toNat)
              case atStart => exact ⟨0, qi, rfl, rfl, by omega, HF, bl_refl _⟩
              case round =>
                obtain ⟨n, u, rfl, rfl, hn, HUP, hbn⟩ := hrel
                have hbmn := bl_trans hbm hbn
                by_cases hgo : n ≤ L.length ∧ u ≠ X ∧ u ≠ 0
                · obtain ⟨e1, e2, e3⟩ := hgo
                  have d1 : decide ((n : Int) ≤ (L.length : Int)) = true := by simp; omega
                  have d1' : decide (n ≤ L.length) = true := by simp; omega
                  have d2 : (u != X) = true := by simpa using e2
                  have d2' : (u == X) = false := beq_eq_false_iff_ne.2 e2
                  have d3 : (u != 0) = true := by simpa using e3
                  have d3' : (u == 0) = false := beq_eq_false_iff_ne.2 e3
                  have hup := HUP.out
                  rw [show L.length + 1 - n = (L.length - n) + 1 by omega] at hup
                  unfold upM at hup
                  rw [if_pos ⟨e2, e3⟩] at hup
                  have hup2 : upM L X (L.length - n) (upQ L u) = F := hup
                  have HU2 := hide hup2
                  clear hup hup2 HUP
                  go_wp2_with fail
                  refine (get_any w4.heap.size tb2 last v2 L u _ (HU8.out.later hbmn) HI.out.rise (by omega)).mono ?_
                  rintro e w9 ⟨⟨r, ok, rfl, hgot⟩, hb9⟩
                  obtain ⟨pf, pt, pb, pc, pp, rfl, hpp⟩ := got_up HI.out.rise hgot
                  have HU3 := HU2.out
                  rw [hpp] at HU3
                  have HU4 := hide HU3
                  clear hgot HU2 HU3 hpp
                  go_wp2
                  refine ⟨?_, by first | (simp [intOf]; done) | (simp [intOf]; omega)⟩
                  exact ⟨n + 1, pp, rfl, by go_num, by omega, (by rw [show L.length + 1 - (n + 1) = L.length - n by omega]; exact HU4), bl_alloc (bl_trans hbn hb9) _⟩
                · have hend : u = F := by
                    by_cases hnl : n ≤ L.length
                    · have : u = X ∨ u = 0 := by
                        by_cases h1 : u = X
                        · exact .inl h1
                        · by_cases h2 : u = 0
                          · exact .inr h2
                          · exact absurd ⟨hnl, h1, h2⟩ hgo
                      rw [← HUP.out, upM_end _ _ _ _ this]
                    · rw [← HUP.out, show L.length + 1 - n = 0 by omega]; rfl
                  have hguard : (decide ((n : Int) ≤ (L.length : Int)) = true ∧ decide (n ≤ L.length) = true ∧ ((u != X) = false ∧ (u == X) = true ∨ (u != X) = true ∧ (u == X) = false ∧ (u != 0) = false ∧ (u == 0) = true)) ∨ (decide ((n : Int) ≤ (L.length : Int)) = false ∧ decide (n ≤ L.length) = false) := by
                    by_cases hnl : n ≤ L.length
                    · refine .inl ⟨by simp; omega, by simpa using hnl, ?_⟩
                      by_cases h1 : u = X
                      · exact .inl ⟨by simpa using h1, by simpa using h1⟩
                      · have h2 : u = 0 := Classical.byContradiction fun h2 => hgo ⟨hnl, h1, h2⟩
                        exact .inr ⟨by simpa using h1, by simpa using h1, by simpa using h2, by simpa using h2⟩
                    · exact .inr ⟨by simp; omega, by simpa using hnl⟩
                  have HEND := hide hend
                  have z0 := cell_later hbn y0
                  clear hgo hend HUP
                  rcases hguard with ⟨d1, d1', ⟨d2, d2'⟩ | ⟨d2, d2', d3, d3'⟩⟩ | ⟨d1, d1'⟩
                  all_goals
                    go_wp2_with fail
                    refine (get_any w4.heap.size tb2 last v2 L qi _ (HU8.out.later hbmn) HI.out.rise (by omega)).mono ?_
                    rintro e w9 ⟨⟨r, ok, rfl, hgot⟩, hb9⟩
                    obtain ⟨rfl, rfl⟩ := HG1.out r ok hgot
                    have hb9a := bl_alloc hb9 (.cells #[.int .i64 qf, .int .i64 qt, .bool qb, .bool qc, .int .i64 qp] 43)
                    have z1 := cell_later hb9a z0
                    have hf9 := heap_alloc_new w9 (.cells #[.int .i64 qf, .int .i64 qt, .bool qb, .bool qc, .int .i64 qp] 43)
                    clear hgot z0
                    unfold vR
                    go_wp2_with fail
                    refine (get_any w1.heap.size w1.heap.size last v7 (dropM X L) qi _ (HT8.out.later (bl_trans hbmn hb9a)) HIND.out.rise (by omega)).mono ?_
                    rintro e w10 ⟨⟨r, ok, rfl, hgot⟩, hb10⟩
                    have hf10 := (hb10.block w9.heap.size (by simp)).trans hf9
                    have hlt10 := (Array.getElem?_eq_some_iff.1 hf10).1
                    obtain ⟨p0, p1, p2, p3, p4, pf⟩ := box5 hf10
                    have hbe := bl_trans (bl_trans hbmn hb9a) hb10
                    clear hf9 hf10
                    rcases HGN.out with ⟨h1, h2⟩ | ⟨h1, h2⟩
                    · obtain ⟨rfl, rfl⟩ := HG3.out h2 r ok hgot
                      have hux : (u == X) = true := by rw [HEND.out, h1]; simp
                      clear hgot HEND HGN HG2 HG3
                      first
                        | exact absurd (d2'.symm.trans hux) (by decide)
                        | (unfold zeroR
                           go_wp2
                           refine ⟨?_, by first | (simp [intOf]; done) | (simp [intOf]; omega)⟩
                           exact ⟨m + 1, by go_num, by omega, bl_alloc hbe _⟩)
                    · obtain ⟨rfl, rfl⟩ := HG2.out h2 r ok hgot
                      have hux : (u == X) = false := by rw [HEND.out, h1]; simp; omega
                      clear hgot HEND HGN HG2 HG3
                      first
                        | exact absurd (d2'.symm.trans hux) (by decide)
                        | (unfold vR
                           go_wp2
                           refine ⟨?_, by first | (simp [intOf]; done) | (simp [intOf]; omega)⟩
                           exact ⟨m + 1, by go_num, by omega, bl_alloc hbe _⟩)
            · obtain rfl : m = L.length := by omega
              have hbl9 := hbl8.trans (hbm.mono hbl8.size)
              go_wp2_with fail
              refine (awake7_any _).mono ?_
              rintro e w10 ⟨rfl, hb10⟩
              have hbz := bl_trans (bl_trans hb1 hbl9) hb10
              go_wp2
              go_ret
              exact ⟨rfl, hbz⟩

set_option maxRecDepth 100000 in
theorem lifted (os : Os) (started : os.Started) (H : Type) (enc : TypeId × Value → H) :
    ReturnsInHanded {} Try.checked os 6 .any (Rows.marksDropSpec.pre6 enc Try.prog Try.f6 Rows.marksDropRow.domain false) (Rows.marksDropSpec.post enc Try.prog Try.f6 false true false false) := by
  refine returnsInHanded_of_change (C := Try.checked) own started (by kernel_rfl) Try.func6
    (ChangeSpec.witness6 (enc := enc) (C := Try.checked) false ⟨#[], #[.slice none 0 0, .int .i64 0], []⟩ 8 (by kernel_rfl) (by kernel_rfl) (by kernel_rfl) (by kernel_rfl)) ?_
  intro W base args ds gs before hval0 hW hcnd _
  have hval : ∀ (j : Nat) t v, Try.f6.params[j]? = some t → args[j]? = some v → Value.okWide Try.prog W .any base t v := hval0
  have hW' := hW
  obtain ⟨p, q, hA0, hV, rfl, hfz, hnd⟩ := hW
  have hA : DataW.TrodAll enc Try.prog W 0 (fun _ => true) true Try.f6.params.toList args.toList ds p := hA0
  rw [Try.params6] at hA hval
  obtain ⟨v0, vs0, d0, ds0, p0, q0, hargs, rfl, rfl, h0, r0⟩ := trodAll_cons hA
  obtain ⟨v1, vs1, d1, ds1, p1, q1, rfl, rfl, rfl, h1, r1⟩ := trodAll_cons r0
  obtain ⟨rfl, rfl, rfl⟩ := trodAll_nil r1
  obtain rfl : args = #[v0, v1] := by cases args; simp_all
  obtain ⟨rfl, rfl⟩ := trodVars_none hV
  have k0 := h0
  have lt0 : ∀ x ∈ p0, x.block < W.heap.size := by obtain ⟨m, hm⟩ := k0; exact DataW.trod_lt m _ _ _ hm
  obtain ⟨l0, w0, b0⟩ := open_deeds (hval 0 22 v0 rfl rfl) h0
  have k1 := h1
  have lt1 : ∀ x ∈ p1, x.block < W.heap.size := by obtain ⟨m, hm⟩ := k1; exact DataW.trod_lt m _ _ _ hm
  obtain ⟨a1, rfl, hd1, hp1, w1⟩ := open_int Try.underlying3 (hval 1 3 v1 rfl rfl) h1
  clear hA0 hval0
  refine (walk v0 l0 a1 W w0 b0 w1).mono fun e W' ⟨he, bel⟩ => ?_
  subst he
  exact ⟨_, rfl, _, _, _, [], _, [], hW', trodAll_mk1 (shut_bool Try.underlying4 _), (trodAll_cons_mk (Below.trod laidOut (by kernel_rfl) (of_decide_eq_true (by kernel_rfl)) k0 bel lt0) (trodAll_cons_mk (Below.trod laidOut (by kernel_rfl) (of_decide_eq_true (by kernel_rfl)) k1 bel lt1) trodAll_mk0)), rfl, bel.frame _, fun h => by cases h⟩

theorem over : Rows.marksDropRow.holds Try.pinned (OpenSpec.ofChange Rows.marksDropSpec) :=
  OpenClaim.holds_of_wide 6 Try.f6 rfl rfl rfl rfl rfl rfl rfl ⟨rfl, rfl, rfl, rfl, rfl⟩ rfl rfl rfl rfl rfl (by kernel_rfl) Try.func6 (by kernel_rfl)
    (of_decide_eq_true (by kernel_rfl)) (by unfold Func.isWrapper; first | (rw [if_pos (by decide +kernel)]; kernel_rfl) | (rw [if_neg (by decide +kernel)]; exact ⟨rfl, rfl⟩))
    (fun os started H enc _ => lifted os started H enc)

theorem proved : Rows.MarksDropSaid := over
end Go.Proofs.Ytjmoeahlbgdkbaa.marksDrop
