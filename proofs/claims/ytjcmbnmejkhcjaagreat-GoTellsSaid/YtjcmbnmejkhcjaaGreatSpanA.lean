/- Slices of stretches: how they read, how they lie. No condition. -/
import Derived.Test.YtjcmbnmejkhcjaaGreatRows
import Derived.Test.YtjcmbnmejkhcjaaGreatOwn
import Derived.Test.YtjcmbnmejkhcjaaGreatArgs
import Derived.Test.YtjcmbnmejkhcjaaGreatSpanM
import Derived.Test.YtjcmbnmejkhcjaaGreatLater
namespace Go.Proofs.YtjcmbnmejkhcjaaGreat
open Go.ChangeShapes Go.WideShapes Go.ChangeAt Go.RowKit
open SpanM

def encS (s : Sp) : List Value := [.int .i64 s.1, .int .i64 s.2]
def flat (l : List Sp) : List Value := l.flatMap encS
theorem flat_len (l : List Sp) : (flat l).length = l.length * 2 := by
  induction l with
  | nil => rfl
  | cons a r ih => simp only [flat, List.flatMap_cons, List.length_append, List.length_cons] at *; simp only [encS, List.length_cons, List.length_nil]; omega
theorem flat_app (l k : List Sp) : flat (l ++ k) = flat l ++ flat k := by simp [flat]
theorem flat_one (l : List Sp) : ∀ u ∈ flat l, u.oneCell' = true := by
  intro u hu
  simp only [flat, List.mem_flatMap, encS] at hu
  obtain ⟨s, _, hs⟩ := hu
  simp at hs
  rcases hs with rfl | rfl <;> rfl
theorem flat_at (l : List Sp) (i : Nat) (h : i < l.length) : (flat l)[i * 2]? = some (.int .i64 l[i].1) ∧ (flat l)[i * 2 + 1]? = some (.int .i64 l[i].2) := by
  induction l generalizing i with
  | nil => simp at h
  | cons a r ih =>
    cases i with
    | zero => exact ⟨rfl, rfl⟩
    | succ i =>
      have e : flat (a :: r) = .int .i64 a.1 :: .int .i64 a.2 :: flat r := rfl
      have h1 : (i + 1) * 2 = i * 2 + 1 + 1 := by omega
      have h2 := ih i (by simpa using h)
      rw [e, h1, List.getElem?_cons_succ, List.getElem?_cons_succ, List.getElem?_cons_succ, List.getElem?_cons_succ]
      exact h2
theorem flat_set1 (l : List Sp) (i : Nat) (h : i < l.length) (x : Int) : (flat l).set (i * 2 + 1) (.int .i64 x) = flat (l.set i (l[i].1, x)) := by
  induction l generalizing i with
  | nil => simp at h
  | cons a r ih =>
    cases i with
    | zero => rfl
    | succ i =>
      have e : ∀ (b : Sp) (q : List Sp), flat (b :: q) = .int .i64 b.1 :: .int .i64 b.2 :: flat q := fun _ _ => rfl
      have h1 : (i + 1) * 2 + 1 = (i * 2 + 1) + 1 + 1 := by omega
      rw [e, h1, List.set_cons_succ, List.set_cons_succ, ih i (by simpa using h), List.set_cons_succ, e]
      rfl
/-- The slice reads as l. -/
def SpAt (w : World) (v : Value) (l : List Sp) : Prop :=
  (v = .slice none 0 0 ∧ l = []) ∨
  ∃ x c, v = .slice (some x) l.length c ∧ l.length ≤ c ∧ c ≤ maxLen ∧ ∀ i (h : i < l.length), w.cell? (x.add (i * 2)) = some (.int .i64 l[i].1) ∧ w.cell? (x.add (i * 2 + 1)) = some (.int .i64 l[i].2)
theorem spat_len {w : World} {v : Value} {l : List Sp} (h : SpAt w v l) : ∃ a c, v = .slice a l.length c := by
  rcases h with ⟨rfl, rfl⟩ | ⟨x, c, rfl, _⟩
  · exact ⟨none, 0, rfl⟩
  · exact ⟨some x, c, rfl⟩
theorem spat_below {w w' : World} {v : Value} {l : List Sp} (h : SpAt w v l) (hb : Below w.heap.size w w') : SpAt w' v l := by
  rcases h with h | ⟨x, c, rfl, h1, h2, h3⟩
  · exact .inl h
  · exact .inr ⟨x, c, rfl, h1, h2, fun i hi => ⟨cell_later hb (h3 i hi).1, cell_later hb (h3 i hi).2⟩⟩
/-- Its address, where it holds something. -/
theorem spat_some {w : World} {v : Value} {l : List Sp} (h : SpAt w v l) (hp : 0 < l.length) :
    ∃ b off c, v = .slice (some ⟨b, off, none⟩) l.length c ∧ l.length ≤ c ∧ c ≤ maxLen ∧ b < w.heap.size ∧ ∀ i (h : i < l.length), w.cell? ⟨b, off + i * 2, none⟩ = some (.int .i64 l[i].1) ∧ w.cell? ⟨b, off + i * 2 + 1, none⟩ = some (.int .i64 l[i].2) := by
  rcases h with ⟨rfl, rfl⟩ | ⟨x, c, rfl, h1, h2, h3⟩
  · simp at hp
  · obtain ⟨b, off, spot⟩ := x
    have hc := (h3 0 hp).1
    have hspot : spot = none := by simpa [Addr.add] using World.cell?_spot hc
    subst hspot
    refine ⟨b, off, c, rfl, h1, h2, ?_, fun i hi => ?_⟩
    · have := World.block_lt_of_cell? w _ hc
      rw [addr_add] at this
      exact this
    · have := h3 i hi
      rw [addr_add, addr_add] at this
      exact this
theorem own_spat {w : World} {base : Nat} {v : Value} {l : List Sp} (h : w.ownsRow base 56 2 v l.length (flat l)) : SpAt w v l := by
  rcases own_form h with ⟨rfl, h1, h2⟩ | ⟨g, c, rfl, h1, h2, h3, h4, h5⟩
  · exact .inl ⟨rfl, List.eq_nil_of_length_eq_zero h1⟩
  · refine .inr ⟨_, c, rfl, h3, h4, fun i hi => ?_⟩
    rw [addr_add, addr_add]
    simp only [Nat.zero_add]
    exact ⟨h5 _ _ (flat_at l i hi).1, h5 _ _ (flat_at l i hi).2⟩
theorem info_sp : (Tryz.prog.info? 56).map (fun i => (i.zero, i.size, i.bytes)) = some (some (.agg #[.int .i64 0, .int .i64 0]), 2, 16) := by kernel_rfl

end Go.Proofs.YtjcmbnmejkhcjaaGreat
