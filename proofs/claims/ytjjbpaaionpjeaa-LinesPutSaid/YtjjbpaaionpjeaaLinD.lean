/- Lines of a rope: how many, where they begin and end, the line of an offset. Condition: a text that is not too long. -/
import Derived.Test.YtjjbpaaionpjeaaLinC
namespace Go.Proofs.Ytjjbpaaionpjeaa
open Go.ChangeShapes Go.WideShapes Go.ChangeAt Go.RowKit
attribute [local go_sem ↓] Go.wp_at_zero Go.wp_at_succ
attribute [local go_sem] later_cell later_frozen
set_option maxRecDepth 100000
set_option linter.unusedVariables false
/-- A rope with this text lies there. -/
def LnAt (w : World) (r : Nat) (x : ByteArray) : Prop := ∃ (w0 : World) (D : List (Nat × Nat)) (rs : List Rp) (d : Nat) (t : T), Rst w0 w D rs ∧ ((r, d, t) : Rp) ∈ rs ∧ Tx t x
theorem LnAt.bl {w w' : World} {r : Nat} {x : ByteArray} (h : LnAt w r x) (hb : Below w.heap.size w w') : LnAt w' r x := by
  obtain ⟨w0, D, rs, d, t, hR, hq, hx⟩ := h
  exact ⟨w0, D, rs, d, t, hR.bl hb, hq, hx⟩
theorem rst_ln {w0 w : World} {D : List (Nat × Nat)} {rs : List Rp} (h : Rst w0 w D rs) {r d : Nat} {t : T} (hq : (r, d, t) ∈ rs) {x : ByteArray} (hx : Tx t x) : LnAt w r x := ⟨w0, D, rs, d, t, h, hq, hx⟩
theorem ln_len {w : World} {r : Nat} {x : ByteArray} (h : LnAt w r x) : Calls Try.prog 33 #[.pointer (some ⟨r, 0, none⟩)] w fun e w' => e = .returned (.int .i64 x.size) ∧ w = w' := by
  obtain ⟨w0, D, rs, d, t, hR, hq, hx⟩ := h
  exact rst_len hR hq hx
theorem ln_upto {w : World} {r : Nat} {x : ByteArray} (h : LnAt w r x) (hs : x.size ≤ 100000) (way n : Int) (hn : n ≤ 9223372036854775807) (h0 : 0 ≤ n) (hw : 0 ≤ way ∧ way ≤ 3) : Calls Try.prog 35 #[.pointer (some ⟨r, 0, none⟩), .int .i64 way, .int .i64 n] w fun e w' => e = .returned (.int .i64 (upL way x.data.toList n : Nat)) ∧ Below w.heap.size w w' := by
  obtain ⟨w0, D, rs, d, t, hR, hq, hx⟩ := h
  have := rst_upto hR hq hx way n hn (by omega)
  rw [show upto way n x.data.toList = (upL way x.data.toList n : Nat) from by unfold upto; rw [if_neg (by omega)]] at this
  exact this
theorem ln_slc {w : World} {r : Nat} {x : ByteArray} (h : LnAt w r x) (hs : x.size ≤ 100000) (p q : Nat) (hpq : p ≤ q) (hq : q ≤ x.size) : Calls Try.prog 37 #[.pointer (some ⟨r, 0, none⟩), .int .i64 p, .int .i64 q] w fun e w' => e = .returned (.tuple #[.string (x.extract p q), .int .i64 0]) ∧ Below w.heap.size w w' := by
  obtain ⟨w0, D, rs, d, t, hR, hq', hx⟩ := h
  have h0 : mayR (p : Int) (q : Int) x.size = 0 := by unfold mayR; rw [if_neg (by omega)]
  have := rst_slc hR hq' hx p q (by omega)
  rw [show slcT x (p : Int) (q : Int) = x.extract p q from if_pos h0, h0] at this
  exact this
theorem ln_cnt {w : World} {r : Nat} {x : ByteArray} (h : LnAt w r x) (hs : x.size ≤ 100000) (p : Nat) (hp : p ≤ x.size) (l : List UInt8) (hl : x.data.toList.take p = l) : Calls Try.prog 38 #[.pointer (some ⟨r, 0, none⟩), .int .i64 p] w fun e w' => e = .returned (.tuple #[.agg #[.int .i64 l.length, .int .i64 (nBrk l), .int .i64 (nRun l), .int .i64 (nBig l + nRun l)], .int .i64 0]) ∧ Below w.heap.size w w' := by
  obtain ⟨w0, D, rs, d, t, hR, hq, hx⟩ := h
  have hlen := hx.len
  refine (count_r (hR.rp _ hq) (hR.at' hq).1 p (by rw [hlen]; omega) (by rw [hlen]; omega)).mono ?_
  rintro e w' ⟨v0, v1, v2, v3, hv, rfl, hb⟩
  rw [hx, hl]
  exact ⟨rfl, hb⟩
theorem ln_cnt_no {w : World} {r : Nat} {x : ByteArray} (h : LnAt w r x) (off : Int) (ho : off < 0 ∨ (x.size : Int) < off) : Calls Try.prog 38 #[.pointer (some ⟨r, 0, none⟩), .int .i64 off] w fun e w' => e = .returned (.tuple #[.agg #[.int .i64 0, .int .i64 0, .int .i64 0, .int .i64 0], .int .i64 3]) ∧ Below w.heap.size w w' := by
  obtain ⟨w0, D, rs, d, t, hR, hq, hx⟩ := h
  have hlen := hx.len
  exact count_no (hR.rp _ hq) (hR.at' hq).1 off (by rw [hlen]; exact ho)
def lnO (r : Nat) : Obj := .cells #[.pointer (some ⟨r, 0, none⟩)] 25
set_option maxHeartbeats 4000000 in
theorem many_l {w : World} {r : Nat} {x : ByteArray} (h : LnAt w r x) (hs : x.size ≤ 100000) :
    Calls Try.prog 21 #[.agg #[.pointer (some ⟨r, 0, none⟩)]] w fun e w' => e = .returned (.int .i64 (nBrk x.data.toList + 1)) ∧ Below w.heap.size w w' := by
  have HL := hide (fun W (hb : Below w.heap.size w W) => ln_len (h.bl hb))
  have HC := hide (fun W (hb : Below w.heap.size w W) => ln_cnt (h.bl hb) hs x.size (Nat.le_refl _) x.data.toList (List.take_of_length_le (Nat.le_refl _)))
  have hbr := nBrk_le x.data.toList
  have hxl : x.data.toList.length = x.size := rfl
  rw [hxl] at hbr
  have hw1 : IntKind.i64.wrap (nBrk x.data.toList + 1) = nBrk x.data.toList + 1 := IntWalk.i64_in _ (by omega)
  generalize x.data.toList = l at *
  generalize x.size = n at *
  clear h hxl hbr
  go_enter Try.func21, Try.ntmps21
  go_wp2
  go_region_with (first
    | (go_at_call 33; refine (HL.out _ (by repeat (first | exact bl_refl _ | refine bl_drew ?_ | refine bl_alloc ?_ _))).mono ?_; rintro e w1 ⟨rfl, rfl⟩)
    | (go_at_call 38; refine (HC.out _ (by repeat (first | exact bl_refl _ | refine bl_drew ?_ | refine bl_alloc ?_ _))).mono ?_; rintro e w2 ⟨rfl, hb2⟩; obtain ⟨u, rfl⟩ : ∃ u : Later _, w2 = u.now := ⟨⟨w2, hb2⟩, rfl⟩)
    | fail)
  all_goals
    go_wp2
    go_ret
    refine ⟨rfl, ?_⟩
    repeat (first | exact bl_refl _ | refine bl_drew ?_ | refine bl_alloc ?_ _ | refine bl_set ?_ (by first | exact Nat.le_refl _ | (simp; done) | (simp; omega)) _ | refine bl_trans ?_ u.below)
end Go.Proofs.Ytjjbpaaionpjeaa
