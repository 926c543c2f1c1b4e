/- Slices of edits (two numbers and a text each): how they read, how they lie. No condition. -/
import Derived.Test.YtjkjgfgblfioeaaRows
import Derived.Test.YtjkjgfgblfioeaaOwn
import Derived.Test.YtjkjgfgblfioeaaArgs
import Derived.Test.YtjkjgfgblfioeaaEdM
import Derived.Test.YtjkjgfgblfioeaaLater
namespace Go.Proofs.Ytjkjgfgblfioeaa
open Go.ChangeShapes Go.WideShapes Go.ChangeAt Go.RowKit
open SpanM EdM

def encE (s : Ed) : List Value := [.int .i64 s.1.1, .int .i64 s.1.2, .string s.2]
def flatE (l : List Ed) : List Value := l.flatMap encE
theorem flatE_cons (a : Ed) (r : List Ed) : flatE (a :: r) = .int .i64 a.1.1 :: .int .i64 a.1.2 :: .string a.2 :: flatE r := rfl
theorem flatE_len (l : List Ed) : (flatE l).length = l.length * 3 := by
  induction l with
  | nil => rfl
  | cons a r ih => rw [flatE_cons]; simp only [List.length_cons, ih]; omega
theorem flatE_app (l k : List Ed) : flatE (l ++ k) = flatE l ++ flatE k := by simp [flatE]
theorem flatE_one (l : List Ed) : ∀ u ∈ flatE l, u.oneCell' = true := by
  intro u hu
  simp only [flatE, List.mem_flatMap, encE] at hu
  obtain ⟨s, _, hs⟩ := hu
  simp at hs
  rcases hs with rfl | rfl | rfl <;> rfl
theorem flatE_at (l : List Ed) (i : Nat) (h : i < l.length) : (flatE l)[i * 3]? = some (.int .i64 l[i].1.1) ∧ (flatE l)[i * 3 + 1]? = some (.int .i64 l[i].1.2) ∧ (flatE l)[i * 3 + 2]? = some (.string l[i].2) := by
  induction l generalizing i with
  | nil => simp at h
  | cons a r ih =>
    cases i with
    | zero => exact ⟨rfl, rfl, rfl⟩
    | succ i =>
      have h1 : (i + 1) * 3 = i * 3 + 1 + 1 + 1 := by omega
      have h2 := ih i (by simpa using h)
      rw [flatE_cons, h1]
      simp only [List.getElem?_cons_succ]
      exact h2
theorem flatE_take (l : List Ed) (k : Nat) : (flatE l).take (k * 3) = flatE (l.take k) := by
  induction l generalizing k with
  | nil => simp [flatE]
  | cons a r ih =>
    cases k with
    | zero => simp [flatE]
    | succ k =>
      rw [flatE_cons, show (k + 1) * 3 = k * 3 + 1 + 1 + 1 by omega, List.take_succ_cons, List.take_succ_cons, List.take_succ_cons, ih, List.take_succ_cons, flatE_cons]
theorem flatE_drop (l : List Ed) (k : Nat) : (flatE l).drop (k * 3) = flatE (l.drop k) := by
  induction l generalizing k with
  | nil => simp [flatE]
  | cons a r ih =>
    cases k with
    | zero => simp
    | succ k =>
      rw [flatE_cons, show (k + 1) * 3 = k * 3 + 1 + 1 + 1 by omega, List.drop_succ_cons, List.drop_succ_cons, List.drop_succ_cons, ih, List.drop_succ_cons]
theorem flatE_set1 (l : List Ed) (i : Nat) (h : i < l.length) (x : Int) : (flatE l).set (i * 3 + 1) (.int .i64 x) = flatE (l.set i ((l[i].1.1, x), l[i].2)) := by
  induction l generalizing i with
  | nil => simp at h
  | cons a r ih =>
    cases i with
    | zero => rfl
    | succ i =>
      have h1 : (i + 1) * 3 + 1 = (i * 3 + 1) + 1 + 1 + 1 := by omega
      rw [flatE_cons, h1, List.set_cons_succ, List.set_cons_succ, List.set_cons_succ, ih i (by simpa using h), List.set_cons_succ, flatE_cons]
      rfl
theorem flatE_set2 (l : List Ed) (i : Nat) (h : i < l.length) (x : ByteArray) : (flatE l).set (i * 3 + 2) (.string x) = flatE (l.set i (l[i].1, x)) := by
  induction l generalizing i with
  | nil => simp at h
  | cons a r ih =>
    cases i with
    | zero => rfl
    | succ i =>
      have h1 : (i + 1) * 3 + 2 = (i * 3 + 2) + 1 + 1 + 1 := by omega
      rw [flatE_cons, h1, List.set_cons_succ, List.set_cons_succ, List.set_cons_succ, ih i (by simpa using h), List.set_cons_succ, flatE_cons]
      rfl
/-- The slice reads as l. -/
def EdAt (w : World) (v : Value) (l : List Ed) : Prop :=
  (v = .slice none 0 0 ∧ l = []) ∨
  ∃ x c, v = .slice (some x) l.length c ∧ l.length ≤ c ∧ c ≤ maxLen ∧ ∀ i (h : i < l.length), w.cell? (x.add (i * 3)) = some (.int .i64 l[i].1.1) ∧ w.cell? (x.add (i * 3 + 1)) = some (.int .i64 l[i].1.2) ∧ w.cell? (x.add (i * 3 + 2)) = some (.string l[i].2)
theorem edat_len {w : World} {v : Value} {l : List Ed} (h : EdAt w v l) : ∃ a c, v = .slice a l.length c := by
  rcases h with ⟨rfl, rfl⟩ | ⟨x, c, rfl, _⟩
  · exact ⟨none, 0, rfl⟩
  · exact ⟨some x, c, rfl⟩
theorem edat_below {w w' : World} {v : Value} {l : List Ed} (h : EdAt w v l) (hb : Below w.heap.size w w') : EdAt w' v l := by
  rcases h with h | ⟨x, c, rfl, h1, h2, h3⟩
  · exact .inl h
  · exact .inr ⟨x, c, rfl, h1, h2, fun i hi => ⟨cell_later hb (h3 i hi).1, cell_later hb (h3 i hi).2.1, cell_later hb (h3 i hi).2.2⟩⟩
/-- Its address, where it holds something. -/
theorem edat_some {w : World} {v : Value} {l : List Ed} (h : EdAt w v l) (hp : 0 < l.length) :
    ∃ b off c, v = .slice (some ⟨b, off, none⟩) l.length c ∧ l.length ≤ c ∧ c ≤ maxLen ∧ b < w.heap.size ∧ ∀ i (h : i < l.length), w.cell? ⟨b, off + i * 3, none⟩ = some (.int .i64 l[i].1.1) ∧ w.cell? ⟨b, off + i * 3 + 1, none⟩ = some (.int .i64 l[i].1.2) ∧ w.cell? ⟨b, off + i * 3 + 2, none⟩ = some (.string l[i].2) := by
  rcases h with ⟨rfl, rfl⟩ | ⟨x, c, rfl, h1, h2, h3⟩
  · simp at hp
  · obtain ⟨b, off, spot⟩ := x
    have hc := (h3 0 hp).1
    have hspot : spot = none := by simpa [Addr.add] using World.cell?_spot hc
    subst hspot
    refine ⟨b, off, c, rfl, h1, h2, ?_, fun i hi => ?_⟩
    · have := World.block_lt_of_cell? w _ hc
      rw [addr_add] at this
      exact this
    · have := h3 i hi
      rw [addr_add, addr_add, addr_add] at this
      exact this
theorem own_edat {w : World} {base : Nat} {v : Value} {l : List Ed} (h : w.ownsRow base 44 3 v l.length (flatE l)) : EdAt w v l := by
  rcases own_form h with ⟨rfl, h1, h2⟩ | ⟨g, c, rfl, h1, h2, h3, h4, h5⟩
  · exact .inl ⟨rfl, List.eq_nil_of_length_eq_zero h1⟩
  · refine .inr ⟨_, c, rfl, h3, h4, fun i hi => ?_⟩
    rw [addr_add, addr_add, addr_add]
    simp only [Nat.zero_add]
    exact ⟨h5 _ _ (flatE_at l i hi).1, h5 _ _ (flatE_at l i hi).2.1, h5 _ _ (flatE_at l i hi).2.2⟩
theorem info_ed : (Try.prog.info? 44).map (fun i => (i.zero, i.size, i.bytes)) = some (some (.agg #[.int .i64 0, .int .i64 0, .string ⟨#[]⟩]), 3, 32) := by kernel_rfl
theorem litE (w : World) (b off c : Nat) (l : List Ed) (hm : l.length ≤ c) (hc : c ≤ 1000) (h : ∀ i (h : i < l.length), w.cell? ⟨b, off + i * 3, none⟩ = some (.int .i64 l[i].1.1) ∧ w.cell? ⟨b, off + i * 3 + 1, none⟩ = some (.int .i64 l[i].1.2) ∧ w.cell? ⟨b, off + i * 3 + 2, none⟩ = some (.string l[i].2)) :
    EdAt w (.slice (some ⟨b, off, none⟩) l.length c) l :=
  .inr ⟨_, _, rfl, hm, by unfold maxLen; omega, fun i hi => by rw [addr_add, addr_add, addr_add]; exact h i hi⟩
theorem allocE (w : World) (l : List Ed) (hm : l.length ≤ 1000) : EdAt (w.alloc (.cells (flatE l).toArray 44)) (.slice (some ⟨w.heap.size, 0, none⟩) l.length l.length) l :=
  litE _ _ 0 _ l (Nat.le_refl _) hm fun i hi => by
    have h1 := World.cell?_alloc_mark w (flatE l).toArray 44 (0, 0) (i * 3)
    have h2 := World.cell?_alloc_mark w (flatE l).toArray 44 (0, 0) (i * 3 + 1)
    have h3 := World.cell?_alloc_mark w (flatE l).toArray 44 (0, 0) (i * 3 + 2)
    have hf := flatE_at l i hi
    rw [Nat.zero_add]
    exact ⟨by rw [h1, ← hf.1]; simp, by rw [h2, ← hf.2.1]; simp, by rw [h3, ← hf.2.2]; simp⟩
/-- A part of it. -/
theorem edat_take {w : World} {a : Option Addr} {n c : Nat} {l : List Ed} (h : EdAt w (.slice a n c) l) (k : Nat) (hk : k ≤ l.length) : EdAt w (.slice a k c) (l.take k) := by
  rcases h with ⟨h0, rfl⟩ | ⟨x, c', h0, h1, h2, h3⟩
  · cases h0
    obtain rfl : k = 0 := by simpa using hk
    exact .inl ⟨rfl, rfl⟩
  · cases h0
    have hl : (l.take k).length = k := by rw [List.length_take]; omega
    refine .inr ⟨x, c, by rw [hl], by omega, h2, fun i hi => ?_⟩
    rw [List.getElem_take]
    exact h3 i (by omega)
theorem edat_drop {w : World} {a : Option Addr} {n c : Nat} {l : List Ed} (h : EdAt w (.slice a n c) l) (k : Nat) (hk : k ≤ l.length) : EdAt w (.slice (if c = k then a else a.map (·.add (k * 3))) (n - k) (c - k)) (l.drop k) := by
  rcases h with ⟨h0, rfl⟩ | ⟨x, c', h0, h1, h2, h3⟩
  · cases h0
    obtain rfl : k = 0 := by simpa using hk
    exact .inl ⟨rfl, rfl⟩
  · cases h0
    have hl : (l.drop k).length = l.length - k := List.length_drop
    by_cases hck : c = k
    · have : l.drop k = [] := List.eq_nil_of_length_eq_zero (by omega)
      rw [if_pos hck, this]
      exact .inr ⟨x, c - k, by rw [show l.length - k = 0 by omega]; rfl, by simp, by omega, fun i hi => by simp at hi⟩
    · rw [if_neg hck]
      refine .inr ⟨x.add (k * 3), c - k, by rw [hl]; rfl, by omega, by omega, fun i hi => ?_⟩
      rw [List.getElem_drop]
      have h4 := h3 (k + i) (by omega)
      have ea : ∀ y : Nat, (x.add (k * 3)).add y = x.add (k * 3 + y) := fun y => Go.Deep.add_add x _ _
      rw [ea, ea, ea, show k * 3 + i * 3 = (k + i) * 3 by omega, show k * 3 + (i * 3 + 1) = (k + i) * 3 + 1 by omega, show k * 3 + (i * 3 + 2) = (k + i) * 3 + 2 by omega]
      exact h4
end Go.Proofs.Ytjkjgfgblfioeaa
