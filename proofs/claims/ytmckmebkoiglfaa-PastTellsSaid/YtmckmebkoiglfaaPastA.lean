/- A history's block and its two lists; a list of the call's own, some of it deleted. No condition. -/
import Derived.Test.YtmckmebkoiglfaaRows
import Derived.Test.YtmckmebkoiglfaaOwn
import Derived.Test.YtmckmebkoiglfaaArgs
import Derived.Test.YtmckmebkoiglfaaLater
import Derived.Test.YtmckmebkoiglfaaLay
namespace Go.Proofs.Ytmckmebkoiglfaa
open Go.ChangeShapes Go.WideShapes Go.ChangeAt Go.RowKit
section
open Go.Sort Go.Shelf
variable {α : Type} [Inhabited α] {enc : α → Value}
theorem put_heap {w : World} {g : Nat} {cur : Array Value} {e : TypeId} {fr : Nat × Nat} (d : Array α) (n : Nat) (hb : w.heap[g]? = some (.cells cur e fr)) :
    (putRow enc (Go.Sort.ahead w n) g 0 d).heap[g]? = some (.cells (putCells enc 0 d cur) e fr) := by
  simp [putRow, mapBlock, Go.Sort.ahead, Array.getElem?_modify, hb, onCells]
theorem put_grown {w : World} {g n : Nat} (d : Array α) : w.grownBy (putRow enc (Go.Sort.ahead w n) g 0 d) (some g) := by
  refine ⟨rfl, rfl, rfl, by simp [Go.Sort.ahead], fun k hk hne => ?_⟩
  have : g ≠ k := fun e => hne (by rw [e])
  simp [putRow, mapBlock, Go.Sort.ahead, Array.getElem?_modify, this]
theorem put_take (cur : Array Value) (k : List α) (m : Nat) (h : k.length ≤ cur.size) (hm : m ≤ k.length) : (putCells enc 0 k.toArray cur).toList.take m = (k.take m).map enc := by
  apply List.ext_getElem?
  intro j
  by_cases hj : j < m
  · rw [List.getElem?_take_of_lt hj, Array.getElem?_toList]
    simp [putCells, hj, show j < cur.size by omega, show j < k.length by omega]
  · rw [List.getElem?_take_eq_none (by omega), List.getElem?_eq_none (by simp; omega)]
theorem own_put {w : World} {base g c n m : Nat} {e : TypeId} {xs : List Value} (h : w.ownsRow base e 1 (.slice (some ⟨g, 0, none⟩) n c) n xs) (k : List α) (hk : k.length = n) (hm : m ≤ n) (q : Nat) :
    (putRow enc (Go.Sort.ahead w q) g 0 k.toArray).ownsRow base e 1 (.slice (some ⟨g, 0, none⟩) m c) m ((k.take m).map enc) := by
  rcases h.2 with ⟨h0, _⟩ | ⟨g', c', cur, hv, hb, hh, h1, h2, h3, h4⟩
  · cases h0
  cases hv
  exact ⟨by simp; omega, .inr ⟨g, c, putCells enc 0 k.toArray cur, rfl, hb, put_heap _ _ hh, by omega, h2, by simp [putCells, h3], by rw [Nat.mul_one]; exact put_take cur k m (by omega) (by omega)⟩⟩
theorem holds_own1 {w : World} {base g c : Nat} {e : TypeId} {l : List α} (h : w.ownsRow base e 1 (.slice (some ⟨g, 0, none⟩) l.length c) l.length (l.map enc)) : Holds enc w g 0 l.toArray := by
  intro j hj
  have hj' : j < l.length := by simpa using hj
  refine ⟨?_, by rw [Nat.zero_add]; exact World.ownsRow.frozenAt h j⟩
  rw [Nat.zero_add, World.ownsRow.cellAt h j (by omega), List.getElem?_map]
  simp [hj']
end
theorem heap_set {w : World} {b : Nat} {cur : Array Value} {e : TypeId} {fr : Nat × Nat} (h : w.heap[b]? = some (.cells cur e fr)) (j : Nat) (u : Value) : (w.setCell ⟨b, j, none⟩ u).heap[b]? = some (.cells (cur.setIfInBounds j u) e fr) := by
  simp [World.setCell, Array.getElem?_modify, h]
theorem cells3 {w : World} {b : Nat} {a0 a1 a2 : Value} {e : TypeId} (h : w.heap[b]? = some (.cells #[a0, a1, a2] e (0, 0))) :
    w.cell? ⟨b, 0, none⟩ = some a0 ∧ w.cell? ⟨b, 1, none⟩ = some a1 ∧ w.cell? ⟨b, 2, none⟩ = some a2 ∧ w.frozen? ⟨b, 0, none⟩ = false ∧ w.frozen? ⟨b, 1, none⟩ = false ∧ w.frozen? ⟨b, 2, none⟩ = false :=
  ⟨by rw [cell_of_row w b 0 _ _ _ h]; rfl, by rw [cell_of_row w b 1 _ _ _ h]; rfl, by rw [cell_of_row w b 2 _ _ _ h]; rfl, by simp [World.frozen?, h], by simp [World.frozen?, h], by simp [World.frozen?, h]⟩
theorem own_pos {w : World} {base : Nat} {e : TypeId} {size : Nat} {v : Value} {n : Nat} {xs : List Value} (h : w.ownsRow base e size v n xs) (hn : 0 < n) :
    ∃ g c, v = .slice (some ⟨g, 0, none⟩) n c ∧ base ≤ g ∧ g < w.heap.size ∧ n ≤ c ∧ c ≤ maxLen := by
  rcases own_form h with ⟨_, h0, _⟩ | ⟨g, c, rfl, h1, h2, h3, h4, _⟩
  · omega
  · exact ⟨g, c, rfl, h1, h2, h3, h4⟩
def Off (v u : Value) : Prop := v.ownBlock = none ∨ u.ownBlock = none ∨ v.ownBlock ≠ u.ownBlock
theorem off_comm {v u : Value} (h : Off v u) : Off u v := by
  rcases h with h | h | h
  · exact .inr (.inl h)
  · exact .inl h
  · exact .inr (.inr (Ne.symm h))
theorem off_push {w : World} {base n : Nat} {v u v' : Value} {xs : List Value} {e : TypeId} {z : Nat} (h : Off v u) (hu : w.ownsRow base e z u n xs) (ha : v'.ownBlock = v.ownBlock ∨ ∃ k, v'.ownBlock = some k ∧ w.heap.size ≤ k) : Off v' u := by
  rcases ha with ha | ⟨k, ha, hk⟩
  · unfold Off; rw [ha]; exact h
  · cases hb : u.ownBlock with
    | none => exact .inr (.inl hb)
    | some g =>
      refine .inr (.inr ?_)
      rw [ha, hb]
      intro e
      have := (World.ownsRow.lt hu g hb).2
      injection e with e
      omega
theorem own_off {w w' : World} {base n : Nat} {v u : Value} {xs : List Value} {e : TypeId} {z : Nat} (h : Off v u) (hu : w.ownsRow base e z u n xs) (hg : w.grownBy w' v.ownBlock) : w'.ownsRow base e z u n xs := by
  rcases h with h | h | h
  · rw [h] at hg
    cases hb : u.ownBlock with
    | none => exact hu.kept hg (.inl hb)
    | some g => exact hu.kept hg (.inr (by rw [hb]; simp))
  · exact hu.kept hg (.inl h)
  · exact hu.kept hg (.inr (Ne.symm h))
theorem own_set {w : World} {base n b : Nat} {v : Value} {xs : List Value} {e : TypeId} {z : Nat} (hu : w.ownsRow base e z v n xs) (hb : v.ownBlock ≠ some b) (j : Nat) (u : Value) : (w.setCell ⟨b, j, none⟩ u).ownsRow base e z v n xs :=
  hu.kept (grown_set (grown_refl w (some b)) j u) (.inr hb)
theorem below_refl (B : Nat) (w : World) : Below B w w := ⟨rfl, rfl, rfl, Nat.le_refl _, fun _ _ => rfl⟩
theorem below_grown {B : Nat} {a w w' : World} {row : Option Nat} (h : Below B a w) (hB : B ≤ a.heap.size) (hg : w.grownBy w' row) (hb : ∀ k, row = some k → B ≤ k) : Below B a w' :=
  h.grown hg (Nat.le_trans hB h.size) hb
theorem below_drw {B : Nat} {a w : World} (h : Below B a w) (n : Nat) : Below B a (w.drewN n) := ⟨h.os, h.tape, h.output, h.size, h.block⟩
theorem below_set {B : Nat} {a w : World} (h : Below B a w) {b : Nat} (hp : B ≤ b) (j : Nat) (u : Value) : Below B a (w.setCell ⟨b, j, none⟩ u) := h.setCell hp u
theorem row_ne {w w' : World} {row : Option Nat} {b : Nat} (hg : w.grownBy w' row) (hb : b < w.heap.size) (hne : row ≠ some b) : w'.heap[b]? = w.heap[b]? := hg.block b hb (fun e => hne e.symm)
end Go.Proofs.Ytmckmebkoiglfaa
