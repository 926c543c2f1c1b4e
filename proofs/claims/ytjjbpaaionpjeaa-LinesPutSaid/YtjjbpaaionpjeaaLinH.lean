/- Lines of a text beside a box that is older or younger than they are. -/
import Derived.Test.YtjjbpaaionpjeaaLinG
namespace Go.Proofs.Ytjjbpaaionpjeaa
open Go.ChangeShapes Go.WideShapes Go.ChangeAt Go.RowKit
attribute [local go_sem ↓] Go.wp_at_zero Go.wp_at_succ
attribute [local go_sem] later_cell later_frozen
set_option maxRecDepth 100000
set_option linter.unusedVariables false
theorem heap_set_same (a b : World) (p : Addr) (u : Value) (h : a.heap[p.block]? = b.heap[p.block]?) : (a.setCell p u).heap[p.block]? = (b.setCell p u).heap[p.block]? := by
  simp only [World.setCell, Array.getElem?_modify, if_true, h]
theorem bl_both {a b : World} {B o : Nat} {u : Value} (h : Below a.heap.size a b) (hB : B < a.heap.size) : Below (a.setCell ⟨B, o, none⟩ u).heap.size (a.setCell ⟨B, o, none⟩ u) (b.setCell ⟨B, o, none⟩ u) := by
  have e1 : (a.setCell ⟨B, o, none⟩ u).heap.size = a.heap.size := by simp [World.setCell]
  have e2 : (b.setCell ⟨B, o, none⟩ u).heap.size = b.heap.size := by simp [World.setCell]
  refine ⟨h.os, h.tape, h.output, by rw [e1, e2]; exact h.size, fun k hk => ?_⟩
  rw [e1] at hk
  by_cases hkB : k = B
  · subst hkB; exact (heap_set_same a b ⟨k, o, none⟩ u (h.block k hk).symm).symm
  · rw [Below.heap_setCell _ _ _ _ hkB, Below.heap_setCell _ _ _ _ hkB]; exact h.block k hk
theorem Rst.setOld {w0 w : World} {D : List (Nat × Nat)} {rs : List Rp} (h : Rst w0 w D rs) {B : Nat} (hB : B < w0.heap.size) (o : Nat) (u : Value) : Rst (w0.setCell ⟨B, o, none⟩ u) (w.setCell ⟨B, o, none⟩ u) D rs := by
  have hb : ∀ k, k ≠ B → (w.setCell ⟨B, o, none⟩ u).heap[k]? = w.heap[k]? := fun k hk => Below.heap_setCell w _ _ k hk
  have hsz : (w.setCell ⟨B, o, none⟩ u).heap.size = w.heap.size := by simp [World.setCell]
  have hsz0 : (w0.setCell ⟨B, o, none⟩ u).heap.size = w0.heap.size := by simp [World.setCell]
  have hne : B ∉ RR D rs := fun hm => by have := (h.rsv _ hm).1; omega
  have hoff : B ∉ bks (trs rs) := fun hm => by have := h.src _ hm; omega
  refine ⟨bl_both h.bel hB, fun p hp => ?_, fun q hq => ?_, fun k hk => ⟨by rw [hsz0]; exact (h.rsv k hk).1, by rw [hsz]; exact (h.rsv k hk).2⟩, h.nd, h.rd, h.dd, fun t ht => ?_, h.tn, h.off, fun k hk => by rw [hsz0]; exact h.src k hk⟩
  · obtain ⟨rest, last, hd⟩ := h.dc p hp
    exact ⟨rest, last, hd.kept (hb _ (fun e => hne (e ▸ rr_d hp))) (hb _ (fun e => hne (e ▸ rr_g hp)))⟩
  · exact (hb _ (fun e => hne (e ▸ rr_r hq))).trans (h.rp q hq)
  · obtain ⟨h1, h2⟩ := h.own t ht
    exact ⟨h1.kept t (fun k hk => hb k (by rintro rfl; exact hoff (List.mem_flatMap.2 ⟨t, ht, hk⟩))), h2⟩
def OfPB (w : World) (x : ByteArray) (e : Ending) (w' : World) : Prop := ∃ r : Nat, e = .returned (.tuple #[.agg #[.pointer (some ⟨r, 0, none⟩)], .bool true]) ∧ LnAt w' r x ∧ Below w.heap.size w w' ∧ ∀ (B o : Nat) (u : Value), B < w.heap.size → LnAt (w'.setCell ⟨B, o, none⟩ u) r x
end Go.Proofs.Ytjjbpaaionpjeaa
