/- Own slices of rows behind a sort. No condition. -/
import Derived.Test.YtcgphknnnjpbkaaRowA
import Derived.Shelf.SlSortCmp.WholeK
namespace Go.Proofs.Ytcgphknnnjpbkaa
open Go.ChangeShapes Go.WideShapes Go.ChangeAt Go.RowKit
open SetM

-- behind a sort
section
open Go.Sort Go.Shelf
theorem sp_cell_flat {w : World} {g : Nat} {cur : Array Value} {e : TypeId} {fr : Nat × Nat} (F : Array Value) (n : Nat) (os : Array Obj) (hb : w.heap[g]? = some (.cells cur e fr)) :
    (grow (putRow id (Go.Sort.ahead w n) g 0 F) os).heap[g]? = some (.cells (putCells id 0 F cur) e fr) := by
  have hg : g < w.heap.size := (Array.getElem?_eq_some_iff.1 hb).1
  rw [heap_grow_old _ _ (by simpa using hg)]
  simp [putRow, mapBlock, Go.Sort.ahead, Array.getElem?_modify, hb, onCells]
theorem sp_grown {w : World} {g n : Nat} {os : Array Obj} (F : Array Value) : w.grownBy (grow (putRow id (Go.Sort.ahead w n) g 0 F) os) (some g) := by
  refine ⟨rfl, rfl, rfl, by simp, fun k hk hne => ?_⟩
  rw [heap_grow_old _ _ (by simpa using hk)]
  have : g ≠ k := fun e => hne (by rw [e])
  simp [putRow, mapBlock, Go.Sort.ahead, Array.getElem?_modify, this]
theorem sp_take (cur F : Array Value) (h : F.size ≤ cur.size) : (putCells id 0 F cur).toList.take F.size = F.toList := by
  apply List.ext_getElem?
  intro j
  by_cases hj : j < F.size
  · rw [List.getElem?_take_of_lt hj, Array.getElem?_toList]
    simp [putCells, hj, show j < cur.size by omega]
  · rw [List.getElem?_take_eq_none (by omega), List.getElem?_eq_none (by simpa using hj)]
theorem flatK_FLAT (d : Array Rw) : (flatK encR 2 d).toList = flatR d.toList := by
  apply List.ext_getElem
  · simp [flatR_len]
  intro t h1 h2
  have h1' : t < d.size * 2 := by simpa using h1
  have e1 : (flatK encR 2 d).toList[t] = (encR d[t / 2]!)[t % 2]! := by
    have := get_flatK encR 2 d t h1'
    rw [getElem!_pos _ t (by simpa using h1')] at this
    simpa using this
  rw [e1]
  have hq : t / 2 < d.toList.length := by simp; omega
  have hf := flatR_at d.toList (t / 2) hq
  have hd : d[t / 2]! = d.toList[t / 2] := by rw [getElem!_pos d (t / 2) (by simpa using hq)]; simp
  rw [hd]
  rcases Nat.mod_two_eq_zero_or_one t with h | h
  · have ht : t / 2 * 2 = t := by omega
    rw [ht, List.getElem?_eq_getElem h2] at hf
    rw [Option.some.inj hf.1, h]; rfl
  · have ht : t / 2 * 2 + 1 = t := by omega
    rw [ht, List.getElem?_eq_getElem h2] at hf
    rw [Option.some.inj hf.2, h]; rfl
theorem own_sorted {w : World} {base g c : Nat} {l k : List Rw} (h : w.ownsRow base 47 2 (.slice (some ⟨g, 0, none⟩) l.length c) l.length (flatR l)) (hl : k.length = l.length) (n : Nat) (os : Array Obj) :
    (sortWorldK encR 2 w g 0 n k.toArray os).ownsRow base 47 2 (.slice (some ⟨g, 0, none⟩) k.length c) k.length (flatR k) := by
  rcases h.2 with ⟨h0, _⟩ | ⟨g', c', cur, hv, hb, hh, h1, h2, h3, h4⟩
  · cases h0
  cases hv
  refine ⟨flatR_len k, .inr ⟨g, c, putCells id 0 (flatK encR 2 k.toArray) cur, rfl, hb, sp_cell_flat _ _ _ hh, by omega, h2, by simp [putCells, h3], ?_⟩⟩
  have := sp_take cur (flatK encR 2 k.toArray) (by simp; omega)
  rw [size_flatK, flatK_FLAT] at this
  simpa using this
theorem holds_own {w : World} {base g c : Nat} {l : List Rw} (h : w.ownsRow base 47 2 (.slice (some ⟨g, 0, none⟩) l.length c) l.length (flatR l)) : HoldsK encR 2 w g 0 l.toArray := by
  intro j hj
  have hj' : j < l.length * 2 := by simpa using hj
  refine ⟨?_, by rw [Nat.zero_add]; exact World.ownsRow.frozenAt h j⟩
  rw [Nat.zero_add]
  rw [World.ownsRow.cellAt h j (by omega)]
  have e : (flatK encR 2 l.toArray)[j]! = (flatK encR 2 l.toArray).toList[j]'(by simpa using hj') := by rw [getElem!_pos _ j hj]; simp
  show (flatR l)[j]? = some (id _)
  rw [e]
  have e2 := flatK_FLAT l.toArray
  simp only [id]
  rw [← List.getElem?_eq_getElem, e2]
theorem grown_sorted {w : World} {g n : Nat} {os : Array Obj} (k : Array Rw) : w.grownBy (sortWorldK encR 2 w g 0 n k os) (some g) := sp_grown _
end
end Go.Proofs.Ytcgphknnnjpbkaa
