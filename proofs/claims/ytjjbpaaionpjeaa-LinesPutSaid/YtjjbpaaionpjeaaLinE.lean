/- Lines of a rope: where they begin and end, the line of an offset, places, offsets of columns, indentation. Condition: a text that is not too long. -/
import Derived.Test.YtjjbpaaionpjeaaLinD
namespace Go.Proofs.Ytjjbpaaionpjeaa
open Go.ChangeShapes Go.WideShapes Go.ChangeAt Go.RowKit
attribute [local go_sem ↓] Go.wp_at_zero Go.wp_at_succ
attribute [local go_sem] later_cell later_frozen
set_option maxRecDepth 100000
set_option linter.unusedVariables false
theorem ln_c0 (w : World) (r : Nat) : (w.alloc (.cells #[.pointer (some ⟨r, 0, none⟩)] 25)).cell? ⟨w.heap.size, 0, none⟩ = some (.pointer (some ⟨r, 0, none⟩)) := cells_lit w _ _ 0 _ rfl
theorem ln_b0 (w : World) (r : Nat) : Below w.heap.size w (w.alloc (.cells #[.pointer (some ⟨r, 0, none⟩)] 25)) := bl_alloc (bl_refl w) _
theorem mayLine_l {w : World} {r : Nat} {x : ByteArray} (h : LnAt w r x) (hs : x.size ≤ 100000) (i : Int) :
    Calls Try.prog 34 #[.agg #[.pointer (some ⟨r, 0, none⟩)], .int .i64 i] w fun e w' => e = .returned (.int .i64 (lnC x.data.toList i)) ∧ Below w.heap.size w w' := by
  have HM := hide (fun W (hb : Below w.heap.size w W) => many_l (h.bl hb) hs)
  have c0 := ln_c0 w r
  have hb0 := ln_b0 w r
  have hcs := lnC_cases x.data.toList i
  generalize lnC x.data.toList i = m at *
  generalize nBrk x.data.toList = n at *
  by_cases h0 : i < 0
  · have g0 : decide (i < 0) = true := decide_eq_true h0
    obtain rfl : m = 3 := by omega
    clear hcs
    go_enter Try.func34, Try.ntmps34
    go_wp2
    go_ret
    exact ⟨rfl, hb0⟩
  · have g0 : decide (i < 0) = false := decide_eq_false h0
    by_cases h1 : n + 1 ≤ i
    · have g1 : decide (n + 1 ≤ i) = true := decide_eq_true h1
      obtain rfl : m = 3 := by omega
      clear hcs
      go_enter Try.func34, Try.ntmps34
      go_wp2_with fail
      refine (HM.out _ hb0).mono ?_
      rintro e w1 ⟨rfl, hb1⟩
      go_wp2
      go_ret
      exact ⟨rfl, bl_trans hb0 hb1⟩
    · have g1 : decide (n + 1 ≤ i) = false := decide_eq_false h1
      obtain rfl : m = 0 := by omega
      clear hcs
      go_enter Try.func34, Try.ntmps34
      go_wp2_with fail
      refine (HM.out _ hb0).mono ?_
      rintro e w1 ⟨rfl, hb1⟩
      go_wp2
      go_ret
      exact ⟨rfl, bl_trans hb0 hb1⟩
theorem start_l {w : World} {r : Nat} {x : ByteArray} (h : LnAt w r x) (hs : x.size ≤ 100000) (i : Int) :
    Calls Try.prog 13 #[.agg #[.pointer (some ⟨r, 0, none⟩)], .int .i64 i] w fun e w' => e = .returned (.tuple #[.int .i64 (lnSv x.data.toList i), .int .i64 (lnC x.data.toList i)]) ∧ Below w.heap.size w w' := by
  have HM := hide (fun W (hb : Below w.heap.size w W) => mayLine_l (h.bl hb) hs i)
  have c0 := ln_c0 w r
  have hb0 := ln_b0 w r
  have hxl : x.data.toList.length = x.size := rfl
  have hbr := nBrk_le x.data.toList
  rcases lnC_cases x.data.toList i with ⟨hl, h0, h1⟩ | ⟨hl, h1⟩
  · rw [lnSv_in hl, hl]
    rw [hl] at HM
    unfold lnS
    by_cases hz : i = 0
    · subst hz
      rw [if_pos rfl]
      clear hl h0 h1 hbr hxl
      go_enter Try.func13, Try.ntmps13
      go_wp2_with fail
      refine (HM.out _ hb0).mono ?_
      rintro e w1 ⟨rfl, hb1⟩
      go_wp2
      go_ret2
      exact ⟨rfl, bl_trans hb0 hb1⟩
    · rw [if_neg hz]
      have gz : (i == 0) = false := by simp; exact hz
      have hw1 : IntKind.i64.wrap (i - 1) = i - 1 := IntWalk.i64_in _ (by omega)
      have HU := hide (fun W (hb : Below w.heap.size w W) => ln_upto (h.bl hb) hs 3 (i - 1) (by omega) (by omega) (by omega))
      have hul := upL_le 3 x.data.toList (i - 1)
      obtain ⟨u, hu⟩ : ∃ u, upL 3 x.data.toList (i - 1) = u := ⟨_, rfl⟩
      rw [hu] at HU hul ⊢
      have hw2 : IntKind.i64.wrap ((u : Int) + 1) = ((u + 1 : Nat) : Int) := by rw [IntWalk.i64_in _ (by omega)]; omega
      clear hl h0 h1 hbr hxl hu hul
      go_enter Try.func13, Try.ntmps13
      go_wp2_with fail
      refine (HM.out _ hb0).mono ?_
      rintro e w1 ⟨rfl, hb1⟩
      have c0 := cell_later hb1 c0
      have hb1 := bl_trans hb0 hb1
      go_wp2_with fail
      refine (HU.out _ hb1).mono ?_
      rintro e w2 ⟨rfl, hb2⟩
      go_wp2
      go_ret2
      exact ⟨rfl, bl_trans hb1 hb2⟩
  · rw [lnSv_no hl, hl]
    rw [hl] at HM
    clear hl h1 hbr hxl
    go_enter Try.func13, Try.ntmps13
    go_wp2_with fail
    refine (HM.out _ hb0).mono ?_
    rintro e w1 ⟨rfl, hb1⟩
    go_wp2
    go_ret2
    exact ⟨rfl, bl_trans hb0 hb1⟩
theorem end_l {w : World} {r : Nat} {x : ByteArray} (h : LnAt w r x) (hs : x.size ≤ 100000) (i : Int) :
    Calls Try.prog 15 #[.agg #[.pointer (some ⟨r, 0, none⟩)], .int .i64 i] w fun e w' => e = .returned (.tuple #[.int .i64 (lnEv x.data.toList i), .int .i64 (lnC x.data.toList i)]) ∧ Below w.heap.size w w' := by
  have HM := hide (fun W (hb : Below w.heap.size w W) => mayLine_l (h.bl hb) hs i)
  have c0 := ln_c0 w r
  have hb0 := ln_b0 w r
  have hxl : x.data.toList.length = x.size := rfl
  have hbr := nBrk_le x.data.toList
  rcases lnC_cases x.data.toList i with ⟨hl, h0, h1⟩ | ⟨hl, h1⟩
  · rw [lnEv_in hl, hl]
    rw [hl] at HM
    unfold lnE
    have HU := hide (fun W (hb : Below w.heap.size w W) => ln_upto (h.bl hb) hs 3 i (by omega) (by omega) (by omega))
    obtain ⟨u, hu⟩ : ∃ u, upL 3 x.data.toList i = u := ⟨_, rfl⟩
    rw [hu] at HU ⊢
    clear hl h0 h1 hbr hxl hu
    go_enter Try.func15, Try.ntmps15
    go_wp2_with fail
    refine (HM.out _ hb0).mono ?_
    rintro e w1 ⟨rfl, hb1⟩
    have c0 := cell_later hb1 c0
    have hb1 := bl_trans hb0 hb1
    go_wp2_with fail
    refine (HU.out _ hb1).mono ?_
    rintro e w2 ⟨rfl, hb2⟩
    go_wp2
    go_ret2
    exact ⟨rfl, bl_trans hb1 hb2⟩
  · rw [lnEv_no hl, hl]
    rw [hl] at HM
    clear hl h1 hbr hxl
    go_enter Try.func15, Try.ntmps15
    go_wp2_with fail
    refine (HM.out _ hb0).mono ?_
    rintro e w1 ⟨rfl, hb1⟩
    go_wp2
    go_ret2
    exact ⟨rfl, bl_trans hb0 hb1⟩
theorem at_l {w : World} {r : Nat} {x : ByteArray} (h : LnAt w r x) (hs : x.size ≤ 100000) (off : Int) :
    Calls Try.prog 19 #[.agg #[.pointer (some ⟨r, 0, none⟩)], .int .i64 off] w fun e w' => e = .returned (.tuple #[.int .i64 (atV x.data.toList off), .int .i64 (mayR 0 off x.size)]) ∧ Below w.heap.size w w' := by
  have c0 := ln_c0 w r
  have hb0 := ln_b0 w r
  have hxl : x.data.toList.length = x.size := rfl
  rcases mayR_cases 0 off x.size with ⟨hm, h1, h2, h3⟩ | ⟨hm, h1⟩
  · obtain ⟨p, rfl⟩ : ∃ p : Nat, off = p := ⟨off.toNat, by omega⟩
    rw [atV_in (by rw [hxl]; exact hm), hm]
    have HC := hide (fun W (hb : Below w.heap.size w W) => ln_cnt (h.bl hb) hs p (by omega) _ rfl)
    generalize x.data.toList.take p = l at *
    clear hm hxl h1 h2 h3
    go_enter Try.func19, Try.ntmps19
    go_wp2_with fail
    refine (HC.out _ hb0).mono ?_
    rintro e w1 ⟨rfl, hb1⟩
    have hb1 := bl_trans hb0 hb1
    go_wp2
    go_ret2
    exact ⟨rfl, bl_alloc hb1 _⟩
  · rw [atV_no (by rw [hxl]; exact hm), hm]
    have HC := hide (fun W (hb : Below w.heap.size w W) => ln_cnt_no (h.bl hb) off (by omega))
    clear hm hxl h1
    go_enter Try.func19, Try.ntmps19
    go_wp2_with fail
    refine (HC.out _ hb0).mono ?_
    rintro e w1 ⟨rfl, hb1⟩
    have hb1 := bl_trans hb0 hb1
    go_wp2
    go_ret2
    exact ⟨rfl, bl_alloc hb1 _⟩
theorem mayColumn_yes (r : Nat) (way : Int) (w : World) (h : way = 0 ∨ way = 1 ∨ way = 2) :
    Calls Try.prog 40 #[.agg #[.pointer (some ⟨r, 0, none⟩)], .int .i64 way] w fun e w' => e = .returned (.int .i64 0) ∧ Below w.heap.size w w' := by
  have hb0 := ln_b0 w r
  rcases h with rfl | rfl | rfl
  all_goals
    go_enter Try.func40, Try.ntmps40
    go_wp2
    go_ret
    exact ⟨rfl, hb0⟩
theorem mayColumn_no (r : Nat) (way : Int) (w : World) (h : ¬ (way = 0 ∨ way = 1 ∨ way = 2)) :
    Calls Try.prog 40 #[.agg #[.pointer (some ⟨r, 0, none⟩)], .int .i64 way] w fun e w' => e = .returned (.int .i64 2) ∧ Below w.heap.size w w' := by
  have hb0 := ln_b0 w r
  have g0 : (way == 0) = false := by simp; omega
  have g1 : (way == 1) = false := by simp; omega
  have g2 : (way == 2) = false := by simp; omega
  have n0 : (way != 0) = true := by simp; omega
  have n1 : (way != 1) = true := by simp; omega
  have n2 : (way != 2) = true := by simp; omega
  have p0 : ¬ way = 0 := by omega
  have p1 : ¬ way = 1 := by omega
  have p2 : ¬ way = 2 := by omega
  clear h
  go_enter Try.func40, Try.ntmps40
  go_wp2
  go_ret
  exact ⟨rfl, hb0⟩
theorem mayColumn_l (r : Nat) (way : Int) (w : World) :
    Calls Try.prog 40 #[.agg #[.pointer (some ⟨r, 0, none⟩)], .int .i64 way] w fun e w' => e = .returned (.int .i64 (plC way)) ∧ Below w.heap.size w w' := by
  rcases plC_cases way with ⟨hc, h⟩ | ⟨hc, h⟩
  · rw [hc]; exact mayColumn_yes r way w h
  · rw [hc]; exact mayColumn_no r way w h
end Go.Proofs.Ytjjbpaaionpjeaa
