/- A table of ranges: a block of two cells and a row of records of six cells each; how they read, how they change. No condition. -/
import Derived.Test.YtjmoeahlbgdkbaaRows
import Derived.Test.YtjmoeahlbgdkbaaOwn
import Derived.Test.YtjmoeahlbgdkbaaArgs
import Derived.Test.YtjmoeahlbgdkbaaLater
namespace Go.Proofs.Ytjmoeahlbgdkbaa
open Go.ChangeShapes Go.WideShapes Go.ChangeAt Go.RowKit
structure Mk where
  id : Int
  f : Int
  t : Int
  b : Bool
  c : Bool
  p : Int
instance : Inhabited Mk := ⟨⟨0, 0, 0, false, false, 0⟩⟩
def encM (r : Mk) : List Value := [.int .i64 r.id, .int .i64 r.f, .int .i64 r.t, .bool r.b, .bool r.c, .int .i64 r.p]
def flatM (l : List Mk) : List Value := l.flatMap encM
/-- What Get tells of it. -/
def vR (r : Mk) : Value := .agg #[.int .i64 r.f, .int .i64 r.t, .bool r.b, .bool r.c, .int .i64 r.p]
theorem flatM_cons (a : Mk) (r : List Mk) : flatM (a :: r) = encM a ++ flatM r := rfl
theorem flatM_len (l : List Mk) : (flatM l).length = l.length * 6 := by
  induction l with
  | nil => rfl
  | cons a r ih => rw [flatM_cons, List.length_append, ih]; simp [encM]; omega
theorem flatM_app (l k : List Mk) : flatM (l ++ k) = flatM l ++ flatM k := by simp [flatM]
theorem flatM_one (l : List Mk) : ∀ u ∈ flatM l, u.oneCell' = true := by
  intro u hu
  simp only [flatM, List.mem_flatMap, encM] at hu
  obtain ⟨s, _, hs⟩ := hu
  simp at hs
  rcases hs with rfl | rfl | rfl | rfl | rfl | rfl <;> rfl
theorem flatM_get (l : List Mk) (i k : Nat) (h : i < l.length) (hk : k < 6) : (flatM l)[i * 6 + k]? = (encM l[i])[k]? := by
  induction l generalizing i with
  | nil => simp at h
  | cons a r ih =>
    have he : (encM a).length = 6 := rfl
    rw [flatM_cons]
    cases i with
    | zero => rw [List.getElem?_append_left (by omega), Nat.zero_mul, Nat.zero_add]; rfl
    | succ i =>
      rw [List.getElem?_append_right (by omega), he, show (i + 1) * 6 + k - 6 = i * 6 + k by omega]
      exact ih i (by simpa using h)
theorem flatM_set (l : List Mk) (i k : Nat) (hk : k < 6) (u : Value) (g : Mk → Mk) (h : ∀ r, (encM r).set k u = encM (g r)) : (flatM l).set (i * 6 + k) u = flatM (l.modify i g) := by
  induction l generalizing i with
  | nil => cases i <;> simp [flatM]
  | cons a r ih =>
    have he : (encM a).length = 6 := rfl
    rw [flatM_cons]
    cases i with
    | zero => rw [List.set_append_left _ _ (by omega), Nat.zero_mul, Nat.zero_add, h]; rfl
    | succ i =>
      rw [List.set_append_right _ _ (by omega), he, show (i + 1) * 6 + k - 6 = i * 6 + k by omega, ih i]
      rfl
theorem info_rec : (Try.prog.info? 82).map (fun i => (i.zero, i.size, i.bytes)) = some (some (.agg #[.int .i64 0, .int .i64 0, .int .i64 0, .bool false, .bool false, .int .i64 0]), 6, 40) := by kernel_rfl
/-- Block tb is a table: the last id, the records. -/
structure Tab (w : World) (base tb : Nat) (last : Int) (v : Value) (l : List Mk) : Prop where
  low : base ≤ tb
  at0 : w.heap[tb]? = some (.cells #[.int .i64 last, v] 75 (0, 0))
  own : w.ownsRow base 82 6 v l.length (flatM l)
  off : v.ownBlock ≠ some tb
theorem Tab.later {w w' : World} {base tb : Nat} {last : Int} {v : Value} {l : List Mk} (h : Tab w base tb last v l) (hb : Below w.heap.size w w') : Tab w' base tb last v l :=
  ⟨h.low, by rw [hb.block tb (Array.getElem?_eq_some_iff.1 h.at0).1]; exact h.at0, own_below h.own hb, h.off⟩
theorem Tab.base {w : World} {base base' tb : Nat} {last : Int} {v : Value} {l : List Mk} (h : Tab w base tb last v l) (hb : base' ≤ base) : Tab w base' tb last v l :=
  ⟨Nat.le_trans hb h.low, h.at0, own_base h.own hb, h.off⟩
theorem Tab.lt {w : World} {base tb : Nat} {last : Int} {v : Value} {l : List Mk} (h : Tab w base tb last v l) : tb < w.heap.size := (Array.getElem?_eq_some_iff.1 h.at0).1
theorem heap_set {w : World} {b : Nat} {cur : Array Value} {e : TypeId} {fr : Nat × Nat} (h : w.heap[b]? = some (.cells cur e fr)) (j : Nat) (u : Value) : (w.setCell ⟨b, j, none⟩ u).heap[b]? = some (.cells (cur.setIfInBounds j u) e fr) := by
  simp [World.setCell, Array.getElem?_modify, h]
theorem cells2 {w : World} {b : Nat} {a0 a1 : Value} {e : TypeId} (h : w.heap[b]? = some (.cells #[a0, a1] e (0, 0))) :
    w.cell? ⟨b, 0, none⟩ = some a0 ∧ w.cell? ⟨b, 1, none⟩ = some a1 ∧ w.frozen? ⟨b, 0, none⟩ = false ∧ w.frozen? ⟨b, 1, none⟩ = false :=
  ⟨by rw [cell_of_row w b 0 _ _ _ h]; rfl, by rw [cell_of_row w b 1 _ _ _ h]; rfl, by simp [World.frozen?, h], by simp [World.frozen?, h]⟩
/-- A record's cells. -/
theorem Tab.cell {w : World} {base tb : Nat} {last : Int} {l : List Mk} {g c : Nat} (h : Tab w base tb last (.slice (some ⟨g, 0, none⟩) l.length c) l) (i : Nat) (hi : i < l.length) :
    w.cell? ⟨g, i * 6, none⟩ = some (.int .i64 l[i].id) ∧ w.cell? ⟨g, i * 6 + 1, none⟩ = some (.int .i64 l[i].f) ∧ w.cell? ⟨g, i * 6 + 2, none⟩ = some (.int .i64 l[i].t) ∧ w.cell? ⟨g, i * 6 + 3, none⟩ = some (.bool l[i].b) ∧ w.cell? ⟨g, i * 6 + 4, none⟩ = some (.bool l[i].c) ∧ w.cell? ⟨g, i * 6 + 5, none⟩ = some (.int .i64 l[i].p) := by
  have hc := fun k (hk : k < 6) => (World.ownsRow.cellAt h.own (i * 6 + k) (by omega)).trans (flatM_get l i k hi hk)
  exact ⟨hc 0 (by omega), hc 1 (by omega), hc 2 (by omega), hc 3 (by omega), hc 4 (by omega), hc 5 (by omega)⟩
theorem Tab.frozen {w : World} {base tb : Nat} {last : Int} {l : List Mk} {g c : Nat} (h : Tab w base tb last (.slice (some ⟨g, 0, none⟩) l.length c) l) (j : Nat) : w.frozen? ⟨g, j, none⟩ = false := World.ownsRow.frozenAt h.own j
/-- Its row: nil, or in a block of its own. -/
theorem Tab.form {w : World} {base tb : Nat} {last : Int} {v : Value} {l : List Mk} (h : Tab w base tb last v l) :
    (v = .slice none 0 0 ∧ l = []) ∨ ∃ g c, v = .slice (some ⟨g, 0, none⟩) l.length c ∧ base ≤ g ∧ g < w.heap.size ∧ l.length ≤ c ∧ c ≤ maxLen ∧ g ≠ tb := by
  rcases own_form h.own with ⟨rfl, h1, _⟩ | ⟨g, c, rfl, h1, h2, h3, h4, _⟩
  · exact .inl ⟨rfl, List.eq_nil_of_length_eq_zero h1⟩
  · exact .inr ⟨g, c, rfl, h1, h2, h3, h4, fun e => h.off (by rw [e]; rfl)⟩
theorem tab_new (w : World) : Tab (w.alloc (.cells #[.int .i64 0, .slice none 0 0] 75)) w.heap.size w.heap.size 0 (.slice none 0 0) [] :=
  ⟨Nat.le_refl _, heap_alloc_new w _, ⟨rfl, .inl ⟨rfl, rfl⟩⟩, by simp [Value.ownBlock]⟩
/-- What may change when a table is changed: its block, its row, and new blocks. -/
structure Kp (w w' : World) (tb : Nat) (v : Value) : Prop where
  os : w'.os = w.os
  tape : w'.tape = w.tape
  output : w'.output = w.output
  size : w.heap.size ≤ w'.heap.size
  block : ∀ k, k < w.heap.size → k ≠ tb → v.ownBlock ≠ some k → w'.heap[k]? = w.heap[k]?
end Go.Proofs.Ytjmoeahlbgdkbaa
