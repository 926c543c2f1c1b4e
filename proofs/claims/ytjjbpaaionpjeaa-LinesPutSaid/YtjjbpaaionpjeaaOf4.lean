/- Contract: lines of a text, as layer 4's statements make them. Condition: a text that is not too long. -/
import Derived.Test.YtjjbpaaionpjeaaLinH
namespace Go.Proofs.Ytjjbpaaionpjeaa
open Go.ChangeShapes Go.WideShapes Go.ChangeAt Go.RowKit
attribute [local go_sem ↓] Go.wp_at_zero Go.wp_at_succ
attribute [local go_sem] later_cell later_frozen
set_option maxRecDepth 100000
set_option linter.unusedVariables false
set_option maxHeartbeats 4000000 in
theorem of4_b (x : ByteArray) (w : World) (hs : x.size ≤ 60000) : Calls Try.prog 12 #[.string x] w (OfPB w x) := by
  have hb0 : Below w.heap.size w (w.alloc (.cells #[.pointer none] 25)) := bl_alloc (bl_refl w) _
  have hD := rst_dnew (rst_start (w.alloc (.cells #[.pointer none] 25))) [6, 2] #[.int .u32 6, .int .u32 2] rfl (by decide) (by decide) 2 rfl
  rw [show (w.alloc (.cells #[.pointer none] 25)).heap.size = w.heap.size + 1 from by simp] at hD
  have HD := hide hD
  clear hD
  have hh0 := heap_alloc_new w (.cells #[.pointer none] 25)
  have hlt0 : w.heap.size < (w.alloc (.cells #[.pointer none] 25)).heap.size := by simp
  go_enter Try.func12, Try.ntmps12
  go_wp2_with fail
  refine HD.out.mono ?_
  rintro e w1 ⟨d, g, rfl, hR, _⟩
  have HN := hide (rst_new1 hR (d := d) (g := g) (by simp) x (by omega))
  clear hR HD
  go_wp2_with fail
  refine HN.out.mono ?_
  rintro e w2 ⟨r, t, rfl, _, htx, hR⟩
  have hne : w.heap.size ∉ RR [(d, g)] [(r, d, t)] := fun hm => by have := (hR.rsv _ hm).1; simp at this; omega
  have hoff : w.heap.size ∉ bks (trs [(r, d, t)]) := fun hm => by have := hR.src _ hm; simp at this; omega
  have hh2 : w2.heap[w.heap.size]? = some (.cells #[.pointer none] 25) := (hR.bel.block _ hlt0).trans hh0
  have HR := hide (hR.base hb0)
  have HT := hide htx
  have HNE := hide hne
  have HOF := hide hoff
  clear hR htx HN hne hoff hb0 hh0 hlt0
  go_wp2_with fail
  refine (lnOf_any _ ⟨_, rfl⟩ _).mono ?_
  rintro e w3 ⟨rfl, hb3⟩
  have hh3 := heap_later hb3 hh2
  have HR := hide (HR.out.bl hb3)
  have hc3 : w3.cell? ⟨w.heap.size, 0, none⟩ = some (.pointer none) := by rw [Lib.cell_of_heap hh3]; rfl
  have hf3 : w3.frozen? ⟨w.heap.size, 0, none⟩ = false := by simp [World.frozen?, hh3]
  clear hh2 hh3 hb3
  go_wp2
  have hR2 := HR.out.setO (Nat.le_refl _) HNE.out HOF.out 0 (.pointer (some ⟨r, 0, none⟩))
  refine bodyPost_ret (v := .tuple #[.agg #[.pointer (some ⟨r, 0, none⟩)], .bool true]) (by simp [results, Try.results12, go_sem, hc3]) rfl ⟨r, rfl, rst_ln hR2 (d := d) (t := t) (by simp) HT.out, hR2.bel, fun B o u hB => rst_ln (hR2.setOld hB o u) (d := d) (t := t) (by simp) HT.out⟩
end Go.Proofs.Ytjjbpaaionpjeaa
