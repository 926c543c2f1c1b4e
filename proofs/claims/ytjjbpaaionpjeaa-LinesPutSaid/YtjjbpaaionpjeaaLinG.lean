/- Layer 4's laws: lines of a text, and what every program answers that is one. -/
import Derived.Test.YtjjbpaaionpjeaaLinF
namespace Go.Proofs.Ytjjbpaaionpjeaa
open Go.ChangeShapes Go.WideShapes Go.ChangeAt Go.RowKit
attribute [local go_sem ↓] Go.wp_at_zero Go.wp_at_succ
attribute [local go_sem] later_cell later_frozen
set_option maxRecDepth 100000
set_option linter.unusedVariables false
theorem Rst.base {w w1 w' : World} {D : List (Nat × Nat)} {rs : List Rp} (h : Rst w1 w' D rs) (hb : Below w.heap.size w w1) : Rst w w' D rs := by
  have hsz := hb.size
  exact ⟨bl_trans hb h.bel, h.dc, h.rp, fun k hk => ⟨Nat.le_trans hsz (h.rsv k hk).1, (h.rsv k hk).2⟩, h.nd, h.rd, h.dd, h.own, h.tn, h.off, fun k hk => Nat.le_trans hsz (h.src k hk)⟩
theorem Rst.setO {w0 w : World} {D : List (Nat × Nat)} {rs : List Rp} (h : Rst w0 w D rs) {B : Nat} (hB : w0.heap.size ≤ B) (hne : B ∉ RR D rs) (hoff : B ∉ bks (trs rs)) (o : Nat) (u : Value) : Rst w0 (w.setCell ⟨B, o, none⟩ u) D rs := by
  have hb : ∀ k, k ≠ B → (w.setCell ⟨B, o, none⟩ u).heap[k]? = w.heap[k]? := fun k hk => Below.heap_setCell w _ _ k hk
  have hsz : (w.setCell ⟨B, o, none⟩ u).heap.size = w.heap.size := by simp [World.setCell]
  refine ⟨bl_set h.bel hB u, fun p hp => ?_, fun q hq => ?_, fun k hk => ⟨(h.rsv k hk).1, by rw [hsz]; exact (h.rsv k hk).2⟩, h.nd, h.rd, h.dd, fun t ht => ?_, h.tn, h.off, h.src⟩
  · obtain ⟨rest, last, hd⟩ := h.dc p hp
    exact ⟨rest, last, hd.kept (hb _ (fun e => hne (e ▸ rr_d hp))) (hb _ (fun e => hne (e ▸ rr_g hp)))⟩
  · exact (hb _ (fun e => hne (e ▸ rr_r hq))).trans (h.rp q hq)
  · obtain ⟨h1, h2⟩ := h.own t ht
    exact ⟨h1.kept t (fun k hk => hb k (by rintro rfl; exact hoff (List.mem_flatMap.2 ⟨t, ht, hk⟩))), h2⟩
theorem lnOf_any (v : Value) (hv : ∃ a, v = .pointer a) (w : World) : Calls Try.prog 30 #[v] w fun e w' => e = .returned (.agg #[v]) ∧ Below w.heap.size w w' := by
  obtain ⟨a, rfl⟩ := hv
  have hb0 : Below w.heap.size w (w.alloc (.cells #[.pointer a] 25)) := bl_alloc (bl_refl w) _
  go_enter Try.func30, Try.ntmps30
  go_wp2
  refine bodyPost_ret (v := .agg #[.pointer a]) (by simp [results, Try.results30, go_sem]) rfl ⟨rfl, ?_⟩
  first
  | exact hb0
  | exact bl_set (bl_alloc (bl_refl _) _) (Nat.le_refl _) _
def OfPost (w : World) (x : ByteArray) (e : Ending) (w' : World) : Prop := ∃ r : Nat, e = .returned (.tuple #[.agg #[.pointer (some ⟨r, 0, none⟩)], .bool true]) ∧ LnAt w' r x ∧ Below w.heap.size w w'
set_option maxHeartbeats 4000000 in
theorem of4_any (x : ByteArray) (w : World) (hs : x.size ≤ 60000) : Calls Try.prog 12 #[.string x] w (OfPost w x) := by
  have hb0 : Below w.heap.size w (w.alloc (.cells #[.pointer none] 25)) := bl_alloc (bl_refl w) _
  have hD := rst_dnew (rst_start (w.alloc (.cells #[.pointer none] 25))) [6, 2] #[.int .u32 6, .int .u32 2] rfl (by decide) (by decide) 2 rfl
  rw [show (w.alloc (.cells #[.pointer none] 25)).heap.size = w.heap.size + 1 from by simp] at hD
  have HD := hide hD
  clear hD
  have hh0 := heap_alloc_new w (.cells #[.pointer none] 25)
  have hlt0 : w.heap.size < (w.alloc (.cells #[.pointer none] 25)).heap.size := by simp
  go_enter Try.func12, Try.ntmps12
  go_wp2_with fail
  refine HD.out.mono ?_
  rintro e w1 ⟨d, g, rfl, hR, _⟩
  have HN := hide (rst_new1 hR (d := d) (g := g) (by simp) x (by omega))
  clear hR HD
  go_wp2_with fail
  refine HN.out.mono ?_
  rintro e w2 ⟨r, t, rfl, _, htx, hR⟩
  have hne : w.heap.size ∉ RR [(d, g)] [(r, d, t)] := fun hm => by have := (hR.rsv _ hm).1; simp at this; omega
  have hoff : w.heap.size ∉ bks (trs [(r, d, t)]) := fun hm => by have := hR.src _ hm; simp at this; omega
  have hh2 : w2.heap[w.heap.size]? = some (.cells #[.pointer none] 25) := (hR.bel.block _ hlt0).trans hh0
  have HR := hide (hR.base hb0)
  have HT := hide htx
  have HNE := hide hne
  have HOF := hide hoff
  clear hR htx HN hne hoff hb0 hh0 hlt0
  go_wp2_with fail
  refine (lnOf_any _ ⟨_, rfl⟩ _).mono ?_
  rintro e w3 ⟨rfl, hb3⟩
  have hh3 := heap_later hb3 hh2
  have HR := hide (HR.out.bl hb3)
  have hc3 : w3.cell? ⟨w.heap.size, 0, none⟩ = some (.pointer none) := by rw [Lib.cell_of_heap hh3]; rfl
  have hf3 : w3.frozen? ⟨w.heap.size, 0, none⟩ = false := by simp [World.frozen?, hh3]
  clear hh2 hh3 hb3
  go_wp2
  have hR2 := HR.out.setO (Nat.le_refl _) HNE.out HOF.out 0 (.pointer (some ⟨r, 0, none⟩))
  refine bodyPost_ret (v := .tuple #[.agg #[.pointer (some ⟨r, 0, none⟩)], .bool true]) (by simp [results, Try.results12, go_sem, hc3]) rfl ⟨r, rfl, rst_ln hR2 (d := d) (t := t) (by simp) HT.out, hR2.bel⟩
theorem ex_s : lnSv (⟨#[97, 98, 10, 9, 99]⟩ : ByteArray).data.toList 1 = 3 := by decide +kernel
theorem ex_c : lnC (⟨#[97, 98, 10, 9, 99]⟩ : ByteArray).data.toList 1 = 0 := by decide +kernel
theorem ex_i : inS (⟨#[97, 98, 10, 9, 99]⟩ : ByteArray) 1 = ⟨#[9]⟩ := str_ext (by decide +kernel)
theorem ex_a : ofA (⟨#[97, 98, 10, 9, 99]⟩ : ByteArray).data.toList 0 9 0 = 2 := by decide +kernel
theorem ex_e : ofE (⟨#[97, 98, 10, 9, 99]⟩ : ByteArray).data.toList 0 9 0 = 0 := by decide +kernel
theorem ex_m : nBrk (⟨#[97, 98, 10, 9, 99]⟩ : ByteArray).data.toList + 1 = 2 := by decide +kernel
set_option maxHeartbeats 4000000 in
theorem awake4_any (w : World) : Calls Try.prog 11 #[] w fun e w' => e = .returned (.bool true) ∧ Below w.heap.size w w' := by
  have HO := hide (of4_any ⟨#[97, 98, 10, 9, 99]⟩ w (by decide))
  have hS := fun (W : World) (r : Nat) (h : LnAt W r ⟨#[97, 98, 10, 9, 99]⟩) => start_l h (by decide) 1
  have hI := fun (W : World) (r : Nat) (h : LnAt W r ⟨#[97, 98, 10, 9, 99]⟩) => indent_l h (by decide) 1
  have hA := fun (W : World) (r : Nat) (h : LnAt W r ⟨#[97, 98, 10, 9, 99]⟩) => offset_l h (by decide) 0 9 0 (by decide)
  have hM := fun (W : World) (r : Nat) (h : LnAt W r ⟨#[97, 98, 10, 9, 99]⟩) => many_l h (by decide)
  rw [ex_s, ex_c] at hS
  rw [ex_i, ex_c] at hI
  rw [ex_a, ex_e] at hA
  rw [ex_m] at hM
  have HS := hide hS
  have HI := hide hI
  have HA := hide hA
  have HM := hide hM
  clear hS hI hA hM
  go_enter Try.func11, Try.ntmps11
  go_wp2_with fail
  refine HO.out.mono ?_
  rintro e w1 ⟨r, rfl, hL, hb1⟩
  have c0 := ln_c0 w1 r
  have hb1 := bl_trans hb1 (ln_b0 w1 r)
  have HL := hide (hL.bl (ln_b0 w1 r))
  clear hL HO
  go_wp2_with fail
  refine (HS.out _ _ HL.out).mono ?_
  rintro e w2 ⟨rfl, hb⟩
  have c0 := cell_later hb c0
  have hb2 := bl_trans hb1 hb
  have HL := hide (HL.out.bl hb)
  go_wp2_with fail
  refine (HI.out _ _ HL.out).mono ?_
  rintro e w3 ⟨rfl, hb⟩
  have c0 := cell_later hb c0
  have hb3 := bl_trans hb2 hb
  have HL := hide (HL.out.bl hb)
  go_wp2_with fail
  refine (HA.out _ _ HL.out).mono ?_
  rintro e w4 ⟨rfl, hb⟩
  have c0 := cell_later hb c0
  have hb4 := bl_trans hb3 hb
  have HL := hide (HL.out.bl hb)
  go_wp2_with fail
  refine (HM.out _ _ HL.out).mono ?_
  rintro e w5 ⟨rfl, hb⟩
  have hb5 := bl_trans hb4 hb
  go_wp2
  go_ret
  exact ⟨rfl, hb5⟩
end Go.Proofs.Ytjjbpaaionpjeaa
