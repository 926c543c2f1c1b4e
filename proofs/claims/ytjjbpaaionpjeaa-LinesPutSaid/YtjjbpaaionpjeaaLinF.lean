/- Lines of a rope: places, offsets of columns, indentation. Condition: a text that is not too long. -/
import Derived.Test.YtjjbpaaionpjeaaLinE
namespace Go.Proofs.Ytjjbpaaionpjeaa
open Go.ChangeShapes Go.WideShapes Go.ChangeAt Go.RowKit
attribute [local go_sem ↓] Go.wp_at_zero Go.wp_at_succ
attribute [local go_sem] later_cell later_frozen
set_option maxRecDepth 100000
set_option linter.unusedVariables false
def talO (l : List UInt8) : Obj := .cells #[.int .i64 l.length, .int .i64 (nBrk l), .int .i64 (nRun l), .int .i64 (nBig l + nRun l)] 62
theorem tal_box {w : World} {B : Nat} {l : List UInt8} (h : w.heap[B]? = some (talO l)) : w.cell? ⟨B, 0, none⟩ = some (.int .i64 l.length) ∧ w.cell? ⟨B, 1, none⟩ = some (.int .i64 (nBrk l)) ∧ w.cell? ⟨B, 2, none⟩ = some (.int .i64 (nRun l)) ∧ w.cell? ⟨B, 3, none⟩ = some (.int .i64 (nBig l + nRun l)) := by
  refine ⟨?_, ?_, ?_, ?_⟩
  all_goals
    rw [Lib.cell_of_heap h]
    rfl
theorem heap_later {w w' : World} {B : Nat} {o : Obj} (hb : Below w.heap.size w w') (h : w.heap[B]? = some o) : w'.heap[B]? = some o := (hb.block B (Array.getElem?_eq_some_iff.1 h).1).trans h
theorem by4 (l : List UInt8) (way : Int) (w : World) :
    Calls Try.prog 41 #[.agg #[.int .i64 l.length, .int .i64 (nBrk l), .int .i64 (nRun l), .int .i64 (nBig l + nRun l)], .int .i64 way] w fun e w' => e = .returned (.int .i64 (cnt way l)) ∧ Below w.heap.size w w' := bytal_any l way w
theorem cnt_sub (way : Int) (L : List UInt8) (s p : Nat) (h : s ≤ p) : cnt way (L.take p) - cnt way (L.take s) = cnt way ((L.take p).drop s) := by
  have h1 := cnt_app way ((L.take p).take s) ((L.take p).drop s)
  rw [List.take_append_drop, List.take_take, Nat.min_eq_left h] at h1
  omega
set_option maxHeartbeats 4000000 in
theorem place_l {w : World} {r : Nat} {x : ByteArray} (h : LnAt w r x) (hs : x.size ≤ 100000) (off way : Int) :
    Calls Try.prog 23 #[.agg #[.pointer (some ⟨r, 0, none⟩)], .int .i64 off, .int .i64 way] w (PlPost x.data.toList off way w) := by
  have c0 := ln_c0 w r
  have hb0 := ln_b0 w r
  have hxl : x.data.toList.length = x.size := rfl
  have HG := hide (fun W => mayColumn_l r way W)
  rcases plC_cases way with ⟨hc, hg⟩ | ⟨hc, hg⟩
  · rw [hc] at HG
    rcases mayR_cases 0 off x.size with ⟨hm, h1, h2, h3⟩ | ⟨hm, h1⟩
    · obtain ⟨p, rfl⟩ : ∃ p : Nat, off = p := ⟨off.toNat, by omega⟩
      have hps : p ≤ x.size := by omega
      have hin := off_in x.data.toList p (by rw [hxl]; omega)
      have hbt := nBrk_take x.data.toList p
      have hbl := nBrk_le (x.data.toList.take p)
      have HPL := hide (@plIs_in x.data.toList way p hc (by rw [hxl]; exact hm) (nBrk (x.data.toList.take p)) _ rfl rfl)
      have hln : lnC x.data.toList (nBrk (x.data.toList.take p)) = 0 := by unfold lnC; rw [if_pos (by omega)]
      have hst := fun W (hb : Below w.heap.size w W) => start_l (h.bl hb) hs (nBrk (x.data.toList.take p))
      rw [lnSv_in hln, hln] at hst
      have HST := hide hst
      have hsp : lnS x.data.toList (nBrk (x.data.toList.take p)) ≤ p := hin.1
      have HC1 := hide (fun W (hb : Below w.heap.size w W) => ln_cnt (h.bl hb) hs p hps _ rfl)
      have HC2 := hide (fun W (hb : Below w.heap.size w W) => ln_cnt (h.bl hb) hs (lnS x.data.toList (nBrk (x.data.toList.take p))) (by omega) _ rfl)
      have hsub := cnt_sub way x.data.toList _ p hsp
      have hbd := cnt_bd way (x.data.toList.take p)
      have hbd2 := cnt_bd way (x.data.toList.take (lnS x.data.toList (nBrk (x.data.toList.take p))))
      have hlp : (x.data.toList.take p).length = p := by rw [List.length_take]; omega
      have hwsub : IntKind.i64.wrap (cnt way (x.data.toList.take p) - cnt way (x.data.toList.take (lnS x.data.toList (nBrk (x.data.toList.take p))))) = cnt way ((x.data.toList.take p).drop (lnS x.data.toList (nBrk (x.data.toList.take p)))) := (IntWalk.i64_in _ (by
        have := List.length_take_le (lnS x.data.toList (nBrk (x.data.toList.take p))) x.data.toList
        have h4 : (x.data.toList.take (lnS x.data.toList (nBrk (x.data.toList.take p)))).length ≤ p := by omega
        omega)).trans hsub
      have HB1 := hide (fun W => by4 (x.data.toList.take p) way W)
      have HB2 := hide (fun W => by4 (x.data.toList.take (lnS x.data.toList (nBrk (x.data.toList.take p)))) way W)
      generalize cnt way ((x.data.toList.take p).drop (lnS x.data.toList (nBrk (x.data.toList.take p)))) = cw at *
      clear hsub hbd hbd2 hlp hst hln hin hbt hbl
      generalize x.data.toList.take (lnS x.data.toList (nBrk (x.data.toList.take p))) = l2 at *
      generalize lnS x.data.toList (nBrk (x.data.toList.take p)) = s at *
      generalize x.data.toList.take p = l1 at *
      generalize cnt way l1 = k1 at *
      generalize cnt way l2 = k2 at *
      clear hm h1 h2 h3 hc hg hxl h
      go_enter Try.func23, Try.ntmps23
      go_wp2_with fail
      refine (HG.out _).mono ?_
      rintro e w1 ⟨rfl, hb1⟩
      have c0 := cell_later hb1 c0
      have hb1 := bl_trans hb0 hb1
      go_wp2_with fail
      refine (HC1.out _ hb1).mono ?_
      rintro e w2 ⟨rfl, hb2⟩
      have hb2' := bl_alloc hb2 (talO l1)
      have c0 := cell_later hb2' c0
      have hh := heap_alloc_new w2 (talO l1)
      obtain ⟨t0, t1, t2, t3⟩ := tal_box hh
      have hb3 := bl_trans hb1 hb2'
      unfold talO at t0 t1 t2 t3 hb3 c0
      go_wp2_with fail
      refine (HST.out _ hb3).mono ?_
      rintro e w3 ⟨rfl, hb4⟩
      have c0 := cell_later hb4 c0
      have hb5 := bl_trans hb3 hb4
      have hh := heap_later hb4 hh
      clear t0 t1 t2 t3
      go_wp2_with fail
      refine (HC2.out _ hb5).mono ?_
      rintro e w4 ⟨rfl, hb6⟩
      have hb7 := bl_alloc hb6 (talO l2)
      have hh4 := heap_later hb6 hh
      obtain ⟨y0, y1, y2, y3⟩ := tal_box hh4
      have hn4 := (Array.getElem?_eq_some_iff.1 hh4).1
      have hn5 : w2.heap.size < w4.heap.size + 1 := by omega
      have hn6 : w4.heap.size < w4.heap.size + 1 := by omega
      have hh := heap_later hb7 hh
      obtain ⟨t0, t1, t2, t3⟩ := tal_box hh
      obtain ⟨v0, v1, v2, v3⟩ := tal_box (heap_alloc_new w4 (talO l2))
      have hn1 := (Array.getElem?_eq_some_iff.1 hh).1
      have hn2 := (Array.getElem?_eq_some_iff.1 (heap_alloc_new w4 (talO l2))).1
      have hb8 := bl_trans hb5 hb7
      unfold talO at t0 t1 t2 t3 v0 v1 v2 v3 hb8 hn1 hn2
      clear hh hh4 hb7 c0
      go_wp2
      refine wp_region_later (by kernel_rfl) (by kernel_rfl) ?_
      repeat (go_big_quiet_step (first
        | (go_at_call_of 41 (Value.agg #[.int .i64 l1.length, .int .i64 (nBrk l1), .int .i64 (nRun l1), .int .i64 (nBig l1 + nRun l1)]); exact later_call (HB1.out _))
        | (go_at_call_of 41 (Value.agg #[.int .i64 l2.length, .int .i64 (nBrk l2), .int .i64 (nRun l2), .int .i64 (nBig l2 + nRun l2)]); exact later_call (HB2.out _))
        | exact rfl))
      refine wpQuiet_nil ?_
      rintro w9 ⟨⟨_, hb9⟩, rfl⟩
      have hb := bl_trans hb8 hb9
      go_wp2
      go_ret3
      exact ⟨_, _, _, rfl, HPL.out, hb⟩
    · have HPL := hide (@plIs_rng x.data.toList off way hc (by rw [hxl]; exact hm))
      have HC := hide (fun W (hb : Below w.heap.size w W) => ln_cnt_no (h.bl hb) off (by omega))
      clear hm h1 hc hg hxl h
      go_enter Try.func23, Try.ntmps23
      go_wp2_with fail
      refine (HG.out _).mono ?_
      rintro e w1 ⟨rfl, hb1⟩
      have c0 := cell_later hb1 c0
      have hb1 := bl_trans hb0 hb1
      go_wp2_with fail
      refine (HC.out _ hb1).mono ?_
      rintro e w2 ⟨rfl, hb2⟩
      have hb := bl_alloc (bl_trans hb1 hb2) (.cells #[.int .i64 0, .int .i64 0, .int .i64 0, .int .i64 0] 62)
      go_wp2
      go_ret3
      exact ⟨_, _, _, rfl, HPL.out, hb⟩
  · rw [hc] at HG
    have HPL := hide (@plIs_arg x.data.toList off way hc)
    clear hc hg hxl h
    go_enter Try.func23, Try.ntmps23
    go_wp2_with fail
    refine (HG.out _).mono ?_
    rintro e w1 ⟨rfl, hb1⟩
    have hb := bl_trans hb0 hb1
    go_wp2
    go_ret3
    exact ⟨_, _, _, rfl, HPL.out, hb⟩
set_option maxHeartbeats 4000000 in
theorem offset_l {w : World} {r : Nat} {x : ByteArray} (h : LnAt w r x) (hs : x.size ≤ 100000) (line col way : Int) (hcol : col ≤ 9223372036854775807) :
    Calls Try.prog 25 #[.agg #[.pointer (some ⟨r, 0, none⟩)], .int .i64 line, .int .i64 col, .int .i64 way] w fun e w' => e = .returned (.tuple #[.int .i64 (ofA x.data.toList line col way), .int .i64 (ofE x.data.toList line col way)]) ∧ Below w.heap.size w w' := by
  have c0 := ln_c0 w r
  have hb0 := ln_b0 w r
  have hxl : x.data.toList.length = x.size := rfl
  have HG := hide (fun W => mayColumn_l r way W)
  have HM := hide (fun W (hb : Below w.heap.size w W) => mayLine_l (h.bl hb) hs line)
  rcases ofE_cases x.data.toList line col way with ⟨he, hc, hl, h0⟩ | ⟨he, ha, hc, hl⟩ | ⟨he, ha, hc⟩
  · have ha : ofA x.data.toList line col way = ((lnS x.data.toList line + upL way ((x.data.toList.take (lnE x.data.toList line)).drop (lnS x.data.toList line)) col : Nat) : Int) := if_pos he
    rw [ha, he]
    rw [hc] at HG
    rw [hl] at HM
    have hway := plC_way hc
    obtain ⟨hl0, hl1⟩ := lnC_in hl
    have hse := lnS_le x.data.toList line hl0 hl1
    have hel := lnE_le x.data.toList line
    have hst := fun W (hb : Below w.heap.size w W) => start_l (h.bl hb) hs line
    have hen := fun W (hb : Below w.heap.size w W) => end_l (h.bl hb) hs line
    rw [lnSv_in hl, hl] at hst
    rw [lnEv_in hl, hl] at hen
    obtain ⟨s, hs0⟩ : ∃ s, lnS x.data.toList line = s := ⟨_, rfl⟩
    obtain ⟨t, ht0⟩ : ∃ t, lnE x.data.toList line = t := ⟨_, rfl⟩
    rw [hs0] at hst hse
    rw [ht0] at hen hse hel
    rw [hs0, ht0]
    have HST := hide hst
    have HEN := hide hen
    obtain ⟨hmin, hall⟩ := off_eq way x.data.toList s t col hse hel h0
    obtain ⟨u, hu⟩ : ∃ u, s + upL way ((x.data.toList.take t).drop s) col = u := ⟨_, rfl⟩
    rw [hu] at hmin hall ⊢
    have hts : t ≤ x.size := by omega
    have hw1 : IntKind.i64.wrap ((t : Int) - (s : Int)) = (t : Int) - (s : Int) := IntWalk.i64_in _ (by omega)
    have hw2 : IntKind.i64.wrap (2 * ((t : Int) - (s : Int))) = 2 * ((t : Int) - (s : Int)) := IntWalk.i64_in _ (by omega)
    have g0 : decide (col < 0) = false := decide_eq_false (by omega)
    by_cases hbig : 2 * ((t : Int) - s) ≤ col
    · have g1 : decide (2 * ((t : Int) - (s : Int)) ≤ col) = true := decide_eq_true hbig
      have hut := hall hbig
      subst hut
      clear hst hen hs0 ht0 hu ha he hl hl0 hl1 hel hc hway hxl hmin hall hbig
      go_enter Try.func25, Try.ntmps25
      go_wp2_with fail
      refine (HG.out _).mono ?_
      rintro e w1 ⟨rfl, hb1⟩
      have c0 := cell_later hb1 c0
      have hb1 := bl_trans hb0 hb1
      go_wp2_with fail
      refine (HM.out _ hb1).mono ?_
      rintro e w2 ⟨rfl, hb2⟩
      have c0 := cell_later hb2 c0
      have hb2 := bl_trans hb1 hb2
      go_wp2_with fail
      refine (HST.out _ hb2).mono ?_
      rintro e w3 ⟨rfl, hb3⟩
      have c0 := cell_later hb3 c0
      have hb3 := bl_trans hb2 hb3
      go_wp2_with fail
      refine (HEN.out _ hb3).mono ?_
      rintro e w4 ⟨rfl, hb4⟩
      have hb4 := bl_trans hb3 hb4
      go_wp2
      go_ret2
      exact ⟨rfl, hb4⟩
    · have g1 : decide (2 * ((t : Int) - (s : Int)) ≤ col) = false := decide_eq_false hbig
      have hbd := cnt_bd way (x.data.toList.take s)
      have hls : (x.data.toList.take s).length = s := by rw [List.length_take]; omega
      have HC := hide (fun W (hb : Below w.heap.size w W) => ln_cnt (h.bl hb) hs s (by omega) _ rfl)
      have HBY := hide (fun W => by4 (x.data.toList.take s) way W)
      have HUP := hide (fun W (hb : Below w.heap.size w W) => ln_upto (h.bl hb) hs way (cnt way (x.data.toList.take s) + col) (by omega) (by omega) (by omega))
      have hw3 : IntKind.i64.wrap (cnt way (x.data.toList.take s) + col) = cnt way (x.data.toList.take s) + col := IntWalk.i64_in _ (by omega)
      have hvl := upL_le way x.data.toList (cnt way (x.data.toList.take s) + col)
      generalize upL way x.data.toList (cnt way (x.data.toList.take s) + col) = v at *
      generalize x.data.toList.take s = l1 at *
      generalize cnt way l1 = k1 at *
      clear hst hen hs0 ht0 hu ha he hl hl0 hl1 hel hc hway hall hbig hbd hls
      go_enter Try.func25, Try.ntmps25
      go_wp2_with fail
      refine (HG.out _).mono ?_
      rintro e w1 ⟨rfl, hb1⟩
      have c0 := cell_later hb1 c0
      have hb1 := bl_trans hb0 hb1
      go_wp2_with fail
      refine (HM.out _ hb1).mono ?_
      rintro e w2 ⟨rfl, hb2⟩
      have c0 := cell_later hb2 c0
      have hb2 := bl_trans hb1 hb2
      go_wp2_with fail
      refine (HST.out _ hb2).mono ?_
      rintro e w3 ⟨rfl, hb3⟩
      have c0 := cell_later hb3 c0
      have hb3 := bl_trans hb2 hb3
      go_wp2_with fail
      refine (HEN.out _ hb3).mono ?_
      rintro e w4 ⟨rfl, hb4⟩
      have c0 := cell_later hb4 c0
      have hb4 := bl_trans hb3 hb4
      go_wp2_with fail
      refine (HC.out _ hb4).mono ?_
      rintro e w5 ⟨rfl, hb5⟩
      have hb6 := bl_alloc hb5 (talO l1)
      have z0 := cell_later hb5 c0
      have hn4 := World.block_lt_of_cell? _ _ z0
      have hn5 : w.heap.size < w5.heap.size + 1 := Nat.lt_succ_of_lt hn4
      have hn6 : w5.heap.size < w5.heap.size + 1 := by omega
      have c0 := cell_later hb6 c0
      have hnc := World.block_lt_of_cell? _ _ c0
      obtain ⟨t0, t1, t2, t3⟩ := tal_box (heap_alloc_new w5 (talO l1))
      have hn2 := (Array.getElem?_eq_some_iff.1 (heap_alloc_new w5 (talO l1))).1
      have hb7 := bl_trans hb4 hb6
      unfold talO at t0 t1 t2 t3 hb7 hn2 hnc c0
      clear hb6
      go_wp2
      refine wp_region_later (by kernel_rfl) (by kernel_rfl) ?_
      repeat (go_big_quiet_step (first
        | (go_at_call 41; exact later_call (HBY.out _))
        | (go_at_call 35; exact later_call (HUP.out _ (bl_trans hb7 (Later.below _))))
        | exact rfl))
      refine wpQuiet_nil ?_
      rintro w9 ⟨⟨_, hb9⟩, rfl⟩
      have hb := bl_trans hb7 hb9
      go_wp2
      go_ret2
      exact ⟨rfl, hb⟩
  · rw [ha, he]
    rw [hc] at HG
    clear ha he hc hxl
    rcases hl with hl | ⟨hl, h0⟩
    · rw [hl] at HM
      go_enter Try.func25, Try.ntmps25
      go_wp2_with fail
      refine (HG.out _).mono ?_
      rintro e w1 ⟨rfl, hb1⟩
      have c0 := cell_later hb1 c0
      have hb1 := bl_trans hb0 hb1
      go_wp2_with fail
      refine (HM.out _ hb1).mono ?_
      rintro e w2 ⟨rfl, hb2⟩
      have hb2 := bl_trans hb1 hb2
      go_wp2
      go_ret2
      exact ⟨rfl, hb2⟩
    · rw [hl] at HM
      have g0 : decide (col < 0) = true := decide_eq_true h0
      go_enter Try.func25, Try.ntmps25
      go_wp2_with fail
      refine (HG.out _).mono ?_
      rintro e w1 ⟨rfl, hb1⟩
      have c0 := cell_later hb1 c0
      have hb1 := bl_trans hb0 hb1
      go_wp2_with fail
      refine (HM.out _ hb1).mono ?_
      rintro e w2 ⟨rfl, hb2⟩
      have hb2 := bl_trans hb1 hb2
      go_wp2
      go_ret2
      exact ⟨rfl, hb2⟩
  · rw [ha, he]
    rw [hc] at HG
    clear ha he hc hxl
    go_enter Try.func25, Try.ntmps25
    go_wp2_with fail
    refine (HG.out _).mono ?_
    rintro e w1 ⟨rfl, hb1⟩
    have hb1 := bl_trans hb0 hb1
    go_wp2
    go_ret2
    exact ⟨rfl, hb1⟩
theorem inS_eq (x : ByteArray) (line : Int) (hl : lnC x.data.toList line = 0) : inS x line = (x.extract (lnS x.data.toList line) (lnE x.data.toList line)).extract 0 (sp (x.extract (lnS x.data.toList line) (lnE x.data.toList line)).data.toList) := by
  obtain ⟨h0, h1⟩ := lnC_in hl
  have hse := lnS_le x.data.toList line h0 h1
  have hel := lnE_le x.data.toList line
  have hsl := sp_line x.data.toList line h0 h1
  have hle := sp_le ((x.data.toList.take (lnE x.data.toList line)).drop (lnS x.data.toList line))
  rw [List.length_drop, List.length_take] at hle
  rw [show inS x line = x.extract (lnS x.data.toList line) (lnS x.data.toList line + sp (x.data.toList.drop (lnS x.data.toList line))) from if_pos hl]
  apply str_ext
  rw [ext_mid, ext_take, ext_mid, hsl]
  generalize lnS x.data.toList line = s at *
  generalize lnE x.data.toList line = t at *
  generalize sp ((x.data.toList.take t).drop s) = k at *
  rw [List.drop_take, List.drop_take, List.take_take]
  congr 1
  omega
set_option maxHeartbeats 4000000 in
theorem indent_l {w : World} {r : Nat} {x : ByteArray} (h : LnAt w r x) (hs : x.size ≤ 100000) (line : Int) :
    Calls Try.prog 17 #[.agg #[.pointer (some ⟨r, 0, none⟩)], .int .i64 line] w fun e w' => e = .returned (.tuple #[.string (inS x line), .int .i64 (lnC x.data.toList line)]) ∧ Below w.heap.size w w' := by
  have c0 := ln_c0 w r
  have hb0 := ln_b0 w r
  have hxl : x.data.toList.length = x.size := rfl
  have hst := fun W (hb : Below w.heap.size w W) => start_l (h.bl hb) hs line
  rcases lnC_cases x.data.toList line with ⟨hl, hl0, hl1⟩ | ⟨hl, _⟩
  · rw [inS_eq x line hl, hl]
    rw [lnSv_in hl, hl] at hst
    have hse := lnS_le x.data.toList line hl0 hl1
    have hel := lnE_le x.data.toList line
    have hen := fun W (hb : Below w.heap.size w W) => end_l (h.bl hb) hs line
    rw [lnEv_in hl, hl] at hen
    have hsl := fun W (hb : Below w.heap.size w W) => ln_slc (h.bl hb) hs (lnS x.data.toList line) (lnE x.data.toList line) hse (by omega)
    generalize lnS x.data.toList line = s at *
    generalize lnE x.data.toList line = t at *
    have hys : (x.extract s t).size ≤ 100000 := by simp only [ByteArray.size_extract]; omega
    generalize x.extract s t = y at *
    have HST := hide hst
    have HEN := hide hen
    have HSL := hide hsl
    obtain ⟨u, hu⟩ : ∃ u, sp y.data.toList = u := ⟨_, rfl⟩
    rw [hu]
    have HU := hide hu
    clear hst hen hsl hl hl0 hl1 hu hxl hel h
    go_enter Try.func17, Try.ntmps17
    go_wp2_with fail
    refine (HST.out _ hb0).mono ?_
    rintro e w1 ⟨rfl, hb1⟩
    have c0 := cell_later hb1 c0
    have hb1 := bl_trans hb0 hb1
    go_wp2_with fail
    refine (HEN.out _ hb1).mono ?_
    rintro e w2 ⟨rfl, hb2⟩
    have c0 := cell_later hb2 c0
    have hb2 := bl_trans hb1 hb2
    go_wp2_with fail
    refine (HSL.out _ hb2).mono ?_
    rintro e w3 ⟨rfl, hb3⟩
    have hb3 := bl_trans hb2 hb3
    clear c0
    go_wp2
    go_loopw [12] (fun v wr => ∃ k : Nat, v = .int .i64 k ∧ k ≤ y.size ∧ Hid (u = k + sp (y.data.toList.drop k)) ∧ w3 = wr) (fun v _ => y.size - (intOf v).toNat)
    case atStart => exact ⟨0, rfl, Nat.zero_le _, hide (by rw [List.drop_zero, HU.out, Nat.zero_add]), rfl⟩
    case round =>
      obtain ⟨k, rfl, hk, HP, rfl⟩ := hrel
      by_cases hlt : k < y.size
      · have hc : (y[k].toNat : Int) < 256 := by have := y[k].toNat_lt; omega
        by_cases h32 : y[k].toNat = 32
        · have g32 : ((y[k].toNat : Int) == 32) = true := by simp; omega
          have HP2 := hide (show u = (k + 1 : Nat) + sp (y.data.toList.drop (k + 1)) by have := HP.out; rw [sp_go y k hlt (.inl h32)] at this; omega)
          clear h32 HP
          go_wp2
          refine ⟨?_, by first | (simp [intOf]; done) | (simp [intOf]; omega)⟩
          exact ⟨k + 1, by go_num, by omega, HP2, by first | rfl | trivial⟩
        · have g32 : ((y[k].toNat : Int) == 32) = false := by simp; omega
          by_cases h9 : y[k].toNat = 9
          · have g9 : ((y[k].toNat : Int) == 9) = true := by simp; omega
            have HP2 := hide (show u = (k + 1 : Nat) + sp (y.data.toList.drop (k + 1)) by have := HP.out; rw [sp_go y k hlt (.inr h9)] at this; omega)
            clear h32 h9 HP
            go_wp2
            refine ⟨?_, by first | (simp [intOf]; done) | (simp [intOf]; omega)⟩
            exact ⟨k + 1, by go_num, by omega, HP2, by first | rfl | trivial⟩
          · have g9 : ((y[k].toNat : Int) == 9) = false := by simp; omega
            have huk : u = k := by have := HP.out; rw [sp_stop y k hlt (by omega)] at this; omega
            subst huk
            clear h32 h9 HP HU
            go_wp2
            go_ret2
            exact ⟨rfl, hb3⟩
      · obtain rfl : k = y.size := by omega
        have huk : u = y.size := by have := HP.out; rw [sp_end] at this; omega
        subst huk
        clear HP HU
        go_wp2
        go_ret2
        have hyy : y.extract 0 y.size = y := str_ext (by rw [ext_take, List.take_of_length_le (show y.data.toList.length ≤ y.size from Nat.le_refl _)])
        rw [hyy]
        exact ⟨rfl, hb3⟩
  · rw [lnSv_no hl, hl] at hst
    rw [show inS x line = ⟨#[]⟩ from if_neg (by rw [hl]; decide), hl]
    have HST := hide hst
    clear hst hl h
    go_enter Try.func17, Try.ntmps17
    go_wp2_with fail
    refine (HST.out _ hb0).mono ?_
    rintro e w1 ⟨rfl, hb1⟩
    have hb1 := bl_trans hb0 hb1
    go_wp2
    go_ret2
    exact ⟨rfl, hb1⟩
end Go.Proofs.Ytjjbpaaionpjeaa
