/- Contracts: vars.Place where there is no rope, where a selection is out of the text, and in a text (what its line is). Condition: a text that is not too long. -/
import Derived.Test.YtmjadcjpgcbalaaDoorVrEnd
namespace Go.Proofs.YtmjadcjpgcbalaaDoor
open Go.ChangeShapes Go.WideShapes Go.ChangeAt Go.RowKit
open SpanM SetM
attribute [local go_sem ↓] Go.wp_at_zero Go.wp_at_succ
attribute [local go_sem] later_cell later_frozen
set_option maxRecDepth 100000
set_option linter.unusedVariables false
theorem brk_len (L : List UInt8) (k : Nat) : nBrk (L.take k) ≤ k := by
  induction k with
  | zero => simp [nBrk]
  | succ k ih => have := nBrk_succ L k; omega
theorem brk_nn (L : List UInt8) (k : Nat) : 0 ≤ nBrk (L.take k) := by simp [nBrk]
/-- The line of a place. -/
theorem ln_of (x : ByteArray) (H : Nat) (hH : H ≤ x.size) : ∃ idx S E d : Nat, atV x.data.toList H = idx ∧ lnSv x.data.toList idx = S ∧ lnEv x.data.toList idx = E ∧ S + d = H ∧ H ≤ E ∧ E ≤ x.size ∧ idx ≤ H ∧ lnC x.data.toList idx = 0 := by
  have h0 := brk_nn x.data.toList H
  have h1 := brk_len x.data.toList H
  have h2 := nBrk_take x.data.toList H
  obtain ⟨h3, h4⟩ := off_in x.data.toList H (by exact hH)
  have hm : mayR 0 (H : Int) x.data.toList.length = 0 := by
    have : x.data.toList.length = x.size := rfl
    unfold mayR; rw [if_neg (by omega)]
  obtain ⟨idx, hi⟩ : ∃ idx : Nat, nBrk (x.data.toList.take H) = (idx : Int) := ⟨(nBrk (x.data.toList.take H)).toNat, by omega⟩
  have hc : lnC x.data.toList idx = 0 := by unfold lnC; rw [if_pos (by omega)]
  rw [hi] at h3 h4
  refine ⟨idx, lnS x.data.toList idx, lnE x.data.toList idx, H - lnS x.data.toList idx, ?_, lnSv_in hc, lnEv_in hc, by omega, h4, ?_, by omega, hc⟩
  · rw [atV_in hm, hi]
  · exact lnE_le x.data.toList idx
set_option maxHeartbeats 2000000 in
theorem place_nil (x1 x2 : Int) (v0 : Value) (env : List Rw) (w : World) (he : RwAt w v0 env) : Calls Tryd.prog 22 #[.agg #[.pointer none], .agg #[.int .i64 x1, .int .i64 x2], v0] w fun e w' => e = .returned (.tuple #[.slice none 0 0, .int .i64 1]) ∧ Below w.heap.size w w' := by
  obtain ⟨vA, vc, rfl⟩ := rwat_len he
  clear he
  go_enter Tryd.func22, Tryd.ntmps22
  go_wp2
  go_ret2
  exact ⟨rfl, bl_alloc (bl_alloc (bl_refl w) _) _⟩
set_option maxHeartbeats 4000000 in
theorem place_no {w : World} {r : Nat} {x : ByteArray} (h : LnAt w r x) (x1 x2 : Int) (ho : x1 < 0 ∨ x2 < 0 ∨ (x.size : Int) < x1 ∨ (x.size : Int) < x2) (v0 : Value) (env : List Rw) (he : RwAt w v0 env) : Calls Tryd.prog 22 #[.agg #[.pointer (some ⟨r, 0, none⟩)], .agg #[.int .i64 x1, .int .i64 x2], v0] w fun e w' => e = .returned (.tuple #[.slice none 0 0, .int .i64 3]) ∧ Below w.heap.size w w' := by
  obtain ⟨vA, vc, rfl⟩ := rwat_len he
  obtain ⟨p, hp⟩ : ∃ p, min x1 x2 = p := ⟨_, rfl⟩
  obtain ⟨q, hq⟩ : ∃ q, max x1 x2 = q := ⟨_, rfl⟩
  have HSP := hide (fun W => spanV x1 x2 p q hp hq W)
  have hm0 : mayB (p, q) x.size = false := decide_eq_false (by dsimp only; omega)
  have HMAY := hide (fun W => (show Calls Tryd.prog 38 #[.agg #[.int .i64 p, .int .i64 q], .int .i64 x.size] W fun e w' => e = .returned (.bool false) ∧ Below W.heap.size W w' from by
    have := may_any (p, q) x.size W
    rwa [hm0] at this))
  have HLEN := hide (fun W (hb : Below w.heap.size w W) => ln_len (h.bl hb))
  clear he hp hq hm0 ho
  go_enter Tryd.func22, Tryd.ntmps22
  go_wp2_with fail
  (with_reducible refine (HSP.out _).mono ?_)
  rintro e w1 ⟨rfl, hb1⟩
  have hb00 := bl_alloc (bl_alloc (bl_refl w) (.cells #[.pointer (some ⟨r, 0, none⟩)] 42)) (.cells #[.int .i64 x1, .int .i64 x2] 39)
  have c3 : ((w.alloc (.cells #[.pointer (some ⟨r, 0, none⟩)] 42)).alloc (.cells #[.int .i64 x1, .int .i64 x2] 39)).cell? ⟨w.heap.size, 0, none⟩ = some (.pointer (some ⟨r, 0, none⟩)) := by go_simp
  replace c3 := cell_later hb1 c3
  have hb01 := bl_trans hb00 hb1
  have hb02 := bl_trans hb01 (bl_alloc (bl_refl w1) (.cells #[.int .i64 p, .int .i64 q] 71))
  have hb11 := bl_alloc (bl_refl w1) (.cells #[.int .i64 p, .int .i64 q] 71)
  have c81 : (w1.alloc (.cells #[.int .i64 p, .int .i64 q] 71)).cell? ⟨w1.heap.size, 0, none⟩ = some (.int .i64 p) := by go_simp
  have c82 : (w1.alloc (.cells #[.int .i64 p, .int .i64 q] 71)).cell? ⟨w1.heap.size, 1, none⟩ = some (.int .i64 q) := by go_simp
  replace c3 := cell_later hb11 c3
  have HB02 := hide hb02
  clear hb00 hb01 hb02 hb1 hb11
  go_wp2
  generalize (w1.alloc (.cells #[.int .i64 p, .int .i64 q] 71)) = w2 at *
  have n1 := World.block_lt_of_cell? _ _ c3
  have n2 := World.block_lt_of_cell? _ _ c81
  refine wp_region_later (by kernel_rfl) (by kernel_rfl) ?_
  repeat (go_big_quiet_step (first
    | (go_at_call 39; exact later_call_same (HLEN.out _ (bl_trans HB02.out (Later.below _))))
    | (go_at_call 38; exact later_call (HMAY.out _))
    | exact rfl))
  refine wpQuiet_nil ?_
  rintro w9 ⟨⟨_, hb9⟩, rfl⟩
  have HB9 := hide (bl_trans HB02.out hb9)
  clear hb9 c3 c81 c82 n1 n2
  go_wp2
  go_ret2
  exact ⟨rfl, HB9.out⟩
end Go.Proofs.YtmjadcjpgcbalaaDoor
