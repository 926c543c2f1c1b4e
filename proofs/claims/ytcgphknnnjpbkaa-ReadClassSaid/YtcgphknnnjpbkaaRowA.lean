/- Slices of rows (two texts each): how they read, how they lie. No condition. -/
import Derived.Test.YtcgphknnnjpbkaaRows
import Derived.Test.YtcgphknnnjpbkaaOwn
import Derived.Test.YtcgphknnnjpbkaaArgs
import Derived.Test.YtcgphknnnjpbkaaSetM
import Derived.Test.YtcgphknnnjpbkaaLater
namespace Go.Proofs.Ytcgphknnnjpbkaa
set_option maxRecDepth 100000
open Go.ChangeShapes Go.WideShapes Go.ChangeAt Go.RowKit
open SetM

def encR (s : Rw) : List Value := [.string s.1, .string s.2]
def flatR (l : List Rw) : List Value := l.flatMap encR
theorem flatR_len (l : List Rw) : (flatR l).length = l.length * 2 := by
  induction l with
  | nil => rfl
  | cons a r ih => simp only [flatR, List.flatMap_cons, List.length_append, List.length_cons] at *; simp only [encR, List.length_cons, List.length_nil]; omega
theorem flatR_app (l k : List Rw) : flatR (l ++ k) = flatR l ++ flatR k := by simp [flatR]
theorem flatR_one (l : List Rw) : ∀ u ∈ flatR l, u.oneCell' = true := by
  intro u hu
  simp only [flatR, List.mem_flatMap, encR] at hu
  obtain ⟨s, _, hs⟩ := hu
  simp at hs
  rcases hs with rfl | rfl <;> rfl
theorem flatR_at (l : List Rw) (i : Nat) (h : i < l.length) : (flatR l)[i * 2]? = some (.string l[i].1) ∧ (flatR l)[i * 2 + 1]? = some (.string l[i].2) := by
  induction l generalizing i with
  | nil => simp at h
  | cons a r ih =>
    cases i with
    | zero => exact ⟨rfl, rfl⟩
    | succ i =>
      have e : flatR (a :: r) = .string a.1 :: .string a.2 :: flatR r := rfl
      have h1 : (i + 1) * 2 = i * 2 + 1 + 1 := by omega
      have h2 := ih i (by simpa using h)
      rw [e, h1, List.getElem?_cons_succ, List.getElem?_cons_succ, List.getElem?_cons_succ, List.getElem?_cons_succ]
      exact h2
theorem flatR_set1 (l : List Rw) (i : Nat) (h : i < l.length) (x : ByteArray) : (flatR l).set (i * 2 + 1) (.string x) = flatR (l.set i (l[i].1, x)) := by
  induction l generalizing i with
  | nil => simp at h
  | cons a r ih =>
    cases i with
    | zero => rfl
    | succ i =>
      have e : ∀ (b : Rw) (q : List Rw), flatR (b :: q) = .string b.1 :: .string b.2 :: flatR q := fun _ _ => rfl
      have h1 : (i + 1) * 2 + 1 = (i * 2 + 1) + 1 + 1 := by omega
      rw [e, h1, List.set_cons_succ, List.set_cons_succ, ih i (by simpa using h), List.set_cons_succ, e]
      rfl
/-- The slice reads as l. -/
def RwAt (w : World) (v : Value) (l : List Rw) : Prop :=
  (v = .slice none 0 0 ∧ l = []) ∨
  ∃ x c, v = .slice (some x) l.length c ∧ l.length ≤ c ∧ c ≤ maxLen ∧ ∀ i (h : i < l.length), w.cell? (x.add (i * 2)) = some (.string l[i].1) ∧ w.cell? (x.add (i * 2 + 1)) = some (.string l[i].2)
theorem rwat_len {w : World} {v : Value} {l : List Rw} (h : RwAt w v l) : ∃ a c, v = .slice a l.length c := by
  rcases h with ⟨rfl, rfl⟩ | ⟨x, c, rfl, _⟩
  · exact ⟨none, 0, rfl⟩
  · exact ⟨some x, c, rfl⟩
theorem rwat_below {w w' : World} {v : Value} {l : List Rw} (h : RwAt w v l) (hb : Below w.heap.size w w') : RwAt w' v l := by
  rcases h with h | ⟨x, c, rfl, h1, h2, h3⟩
  · exact .inl h
  · exact .inr ⟨x, c, rfl, h1, h2, fun i hi => ⟨cell_later hb (h3 i hi).1, cell_later hb (h3 i hi).2⟩⟩
/-- Its address, where it holds something. -/
theorem rwat_some {w : World} {v : Value} {l : List Rw} (h : RwAt w v l) (hp : 0 < l.length) :
    ∃ b off c, v = .slice (some ⟨b, off, none⟩) l.length c ∧ l.length ≤ c ∧ c ≤ maxLen ∧ b < w.heap.size ∧ ∀ i (h : i < l.length), w.cell? ⟨b, off + i * 2, none⟩ = some (.string l[i].1) ∧ w.cell? ⟨b, off + i * 2 + 1, none⟩ = some (.string l[i].2) := by
  rcases h with ⟨rfl, rfl⟩ | ⟨x, c, rfl, h1, h2, h3⟩
  · simp at hp
  · obtain ⟨b, off, spot⟩ := x
    have hc := (h3 0 hp).1
    have hspot : spot = none := by simpa [Addr.add] using World.cell?_spot hc
    subst hspot
    refine ⟨b, off, c, rfl, h1, h2, ?_, fun i hi => ?_⟩
    · have := World.block_lt_of_cell? w _ hc
      rw [addr_add] at this
      exact this
    · have := h3 i hi
      rw [addr_add, addr_add] at this
      exact this
theorem own_rwat {w : World} {base : Nat} {v : Value} {l : List Rw} (h : w.ownsRow base 47 2 v l.length (flatR l)) : RwAt w v l := by
  rcases own_form h with ⟨rfl, h1, h2⟩ | ⟨g, c, rfl, h1, h2, h3, h4, h5⟩
  · exact .inl ⟨rfl, List.eq_nil_of_length_eq_zero h1⟩
  · refine .inr ⟨_, c, rfl, h3, h4, fun i hi => ?_⟩
    rw [addr_add, addr_add]
    simp only [Nat.zero_add]
    exact ⟨h5 _ _ (flatR_at l i hi).1, h5 _ _ (flatR_at l i hi).2⟩
theorem info_rw : (Try.prog.info? 47).map (fun i => (i.zero, i.size, i.bytes)) = some (some (.agg #[.string ⟨#[]⟩, .string ⟨#[]⟩]), 2, 32) := by kernel_rfl

end Go.Proofs.Ytcgphknnnjpbkaa
