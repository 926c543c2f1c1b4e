/- Own slices of edits behind a sort. No condition. -/
import Derived.Test.YtjkjgfgblfioeaaEdB
import Derived.Test.YtjkjgfgblfioeaaEdN
import Derived.Shelf.SlSortCmp.InsertionK
import Derived.Test.YtjkjgfgblfioeaaSpanS
namespace Go.Proofs.Ytjkjgfgblfioeaa
open Go.ChangeShapes Go.WideShapes Go.ChangeAt Go.RowKit
open SpanM EdM

-- behind a sort
section
open Go.Sort Go.Shelf
theorem flatKE (d : Array Ed) : (flatK encE 3 d).toList = flatE d.toList := by
  apply List.ext_getElem
  · simp [flatE_len]
  intro t h1 h2
  have h1' : t < d.size * 3 := by simpa using h1
  have e1 : (flatK encE 3 d).toList[t] = (encE d[t / 3]!)[t % 3]! := by
    have := get_flatK encE 3 d t h1'
    rw [getElem!_pos _ t (by simpa using h1')] at this
    simpa using this
  rw [e1]
  have hq : t / 3 < d.toList.length := by simp; omega
  have hf := flatE_at d.toList (t / 3) hq
  have hd : d[t / 3]! = d.toList[t / 3] := by rw [getElem!_pos d (t / 3) (by simpa using hq)]; simp
  rw [hd]
  have hm : t % 3 = 0 ∨ t % 3 = 1 ∨ t % 3 = 2 := by omega
  rcases hm with h | h | h
  · have ht : t / 3 * 3 = t := by omega
    rw [ht, List.getElem?_eq_getElem h2] at hf
    rw [Option.some.inj hf.1, h]; rfl
  · have ht : t / 3 * 3 + 1 = t := by omega
    rw [ht, List.getElem?_eq_getElem h2] at hf
    rw [Option.some.inj hf.2.1, h]; rfl
  · have ht : t / 3 * 3 + 2 = t := by omega
    rw [ht, List.getElem?_eq_getElem h2] at hf
    rw [Option.some.inj hf.2.2, h]; rfl
theorem own_sortedE {w : World} {base g c : Nat} {l k : List Ed} (h : w.ownsRow base 44 3 (.slice (some ⟨g, 0, none⟩) l.length c) l.length (flatE l)) (hl : k.length = l.length) (n : Nat) (os : Array Obj) :
    (sortWorldK encE 3 w g 0 n k.toArray os).ownsRow base 44 3 (.slice (some ⟨g, 0, none⟩) k.length c) k.length (flatE k) := by
  rcases h.2 with ⟨h0, _⟩ | ⟨g', c', cur, hv, hb, hh, h1, h2, h3, h4⟩
  · cases h0
  cases hv
  refine ⟨flatE_len k, .inr ⟨g, c, putCells id 0 (flatK encE 3 k.toArray) cur, rfl, hb, sp_cell_flat _ _ _ hh, by omega, h2, by simp [putCells, h3], ?_⟩⟩
  have := sp_take cur (flatK encE 3 k.toArray) (by simp; omega)
  rw [size_flatK, flatKE] at this
  simpa using this
theorem holds_ownE {w : World} {base g c : Nat} {l : List Ed} (h : w.ownsRow base 44 3 (.slice (some ⟨g, 0, none⟩) l.length c) l.length (flatE l)) : HoldsK encE 3 w g 0 l.toArray := by
  intro j hj
  have hj' : j < l.length * 3 := by simpa using hj
  refine ⟨?_, by rw [Nat.zero_add]; exact World.ownsRow.frozenAt h j⟩
  rw [Nat.zero_add]
  rw [World.ownsRow.cellAt h j (by omega)]
  have e : (flatK encE 3 l.toArray)[j]! = (flatK encE 3 l.toArray).toList[j]'(by simpa using hj') := by rw [getElem!_pos _ j hj]; simp
  show (flatE l)[j]? = some (id _)
  rw [e]
  have e2 := flatKE l.toArray
  simp only [id]
  rw [← List.getElem?_eq_getElem, e2]
theorem grown_sortedEE {w : World} {g n : Nat} {os : Array Obj} (k : Array Ed) : w.grownBy (sortWorldK encE 3 w g 0 n k os) (some g) := sp_grown _
end
end Go.Proofs.Ytjkjgfgblfioeaa
