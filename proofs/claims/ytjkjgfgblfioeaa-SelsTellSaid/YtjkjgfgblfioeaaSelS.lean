/- Own slices of selections behind a sort. No condition. -/
import Derived.Test.YtjkjgfgblfioeaaSpanS
namespace Go.Proofs.Ytjkjgfgblfioeaa
open Go.ChangeShapes Go.WideShapes Go.ChangeAt Go.RowKit
open SpanM
section
open Go.Sort Go.Shelf
theorem own_sortedL {w : World} {base g c : Nat} {l k : List Sp} (h : w.ownsRow base 38 2 (.slice (some ⟨g, 0, none⟩) l.length c) l.length (flat l)) (hl : k.length = l.length) (n : Nat) (os : Array Obj) :
    (sortWorldK encS 2 w g 0 n k.toArray os).ownsRow base 38 2 (.slice (some ⟨g, 0, none⟩) k.length c) k.length (flat k) := by
  rcases h.2 with ⟨h0, _⟩ | ⟨g', c', cur, hv, hb, hh, h1, h2, h3, h4⟩
  · cases h0
  cases hv
  refine ⟨flat_len k, .inr ⟨g, c, putCells id 0 (flatK encS 2 k.toArray) cur, rfl, hb, sp_cell_flat _ _ _ hh, by omega, h2, by simp [putCells, h3], ?_⟩⟩
  have := sp_take cur (flatK encS 2 k.toArray) (by simp; omega)
  rw [size_flatK, flatK_flat] at this
  simpa using this
theorem holds_ownL {w : World} {base g c : Nat} {l : List Sp} (h : w.ownsRow base 38 2 (.slice (some ⟨g, 0, none⟩) l.length c) l.length (flat l)) : HoldsK encS 2 w g 0 l.toArray := by
  intro j hj
  have hj' : j < l.length * 2 := by simpa using hj
  refine ⟨?_, by rw [Nat.zero_add]; exact World.ownsRow.frozenAt h j⟩
  rw [Nat.zero_add]
  rw [World.ownsRow.cellAt h j (by omega)]
  have e : (flatK encS 2 l.toArray)[j]! = (flatK encS 2 l.toArray).toList[j]'(by simpa using hj') := by rw [getElem!_pos _ j hj]; simp
  show (flat l)[j]? = some (id _)
  rw [e]
  have e2 := flatK_flat l.toArray
  simp only [id]
  rw [← List.getElem?_eq_getElem, e2]
end
end Go.Proofs.Ytjkjgfgblfioeaa
