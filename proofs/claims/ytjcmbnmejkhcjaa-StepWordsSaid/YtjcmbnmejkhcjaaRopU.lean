/- Contracts of layer 3's laws: are pieces a tree by their depths and priorities; are they the text. Condition: a text that is not too long. -/
import Derived.Test.YtjcmbnmejkhcjaaRopP
namespace Go.Proofs.Ytjcmbnmejkhcjaa
open Go.ChangeShapes Go.WideShapes Go.ChangeAt Go.RowKit
attribute [local go_sem ↓] Go.wp_at_zero Go.wp_at_succ
set_option maxRecDepth 100000
theorem pd_ge (t : T) : ∀ k, ∀ q ∈ t.pd k, k ≤ q.2.2 := by
  induction t with
  | nil => intro k q hq; simp [T.pd] at hq
  | node l n x p r ihl ihr =>
    intro k q hq
    rw [T.pd] at hq
    rcases List.mem_append.1 hq with hq | hq
    · have := ihl (k + 1) q hq; omega
    · rcases List.mem_cons.1 hq with rfl | hq
      · exact Int.le_refl _
      · have := ihr (k + 1) q hq; omega
theorem seg_mem {A P Z : List Pd} (i : Nat) (h1 : A.length ≤ i) (h2 : i < A.length + P.length) (h : i < (A ++ (P ++ Z)).length) : (A ++ (P ++ Z))[i] ∈ P := by
  rw [List.getElem_append_right h1, List.getElem_append_left (by omega)]
  exact List.getElem_mem _
theorem seg_at {A Z : List Pd} (q : Pd) (h : A.length < (A ++ q :: Z).length) : (A ++ q :: Z)[A.length] = q := by
  rw [List.getElem_append_right (Nat.le_refl _)]
  simp
theorem flatP_get (l : List Pd) (i k : Nat) (h : i < l.length) (hk : k < 3) : (flatP l)[i * 3 + k]? = (encP l[i])[k]? := by
  induction l generalizing i with
  | nil => simp at h
  | cons a r ih =>
    have he : (encP a).length = 3 := rfl
    rw [show flatP (a :: r) = encP a ++ flatP r from rfl]
    cases i with
    | zero => rw [List.getElem?_append_left (by omega), Nat.zero_mul, Nat.zero_add]; rfl
    | succ i =>
      rw [List.getElem?_append_right (by omega), he, show (i + 1) * 3 + k - 3 = i * 3 + k by omega]
      exact ih i (by simpa using h)
/-- A slice that reads as these pieces. -/
def PdAt (w : World) (a : Option Addr) (c : Nat) (l : List Pd) : Prop :=
  l = [] ∨ ∃ g, a = some ⟨g, 0, none⟩ ∧ g < w.heap.size ∧ l.length ≤ c ∧ c ≤ maxLen ∧ ∀ i (h : i < l.length), w.cell? ⟨g, i * 3, none⟩ = some (.string l[i].1) ∧ w.cell? ⟨g, i * 3 + 1, none⟩ = some (.int .u32 l[i].2.1) ∧ w.cell? ⟨g, i * 3 + 2, none⟩ = some (.int .i64 l[i].2.2)
theorem pdat_bl {w w' : World} {a : Option Addr} {c : Nat} {l : List Pd} (h : PdAt w a c l) (hb : Below w.heap.size w w') : PdAt w' a c l := by
  rcases h with h | ⟨g, h1, h2, h3, h4, h5⟩
  · exact .inl h
  · exact .inr ⟨g, h1, Nat.lt_of_lt_of_le h2 hb.size, h3, h4, fun i hi => ⟨cell_later hb (h5 i hi).1, cell_later hb (h5 i hi).2.1, cell_later hb (h5 i hi).2.2⟩⟩
def UnderRel (lo m0 hi : Nat) (w : World) (root i : Value) (wr : World) : Prop := ∃ j : Nat, i = .int .i64 j ∧ lo ≤ j ∧ j ≤ hi ∧ ((j ≤ m0 ∧ root = .int .i64 (-1)) ∨ (m0 < j ∧ root = .int .i64 m0)) ∧ w = wr
theorem pd_ps (t : T) : ∀ k, (t.pd k).map (·.1) = t.ps.map (·.2.1) := by
  induction t with
  | nil => intro k; rfl
  | node l n x p r ihl ihr => intro k; simp [T.pd, T.ps, ihl, ihr]
theorem adj_at {l : List Pc} (h : Adj l) (i : Nat) (hi : i + 1 < l.length) : 64 < l[i].2.1.size + l[i + 1].2.1.size := by
  induction l generalizing i with
  | nil => simp at hi
  | cons a r ih =>
    cases r with
    | nil => simp at hi
    | cons b q =>
      cases i with
      | zero => exact h.1
      | succ i => exact ih h.2 i (by simpa using hi)
theorem top_all {t : T} (h : ∀ q ∈ t.ps, PcOk q) : t.top 4294967295 := by
  cases t with
  | nil => trivial
  | node l n x p r =>
    have h1 := (h (n, x, p) (by simp [T.ps])).2.2
    simp only at h1
    show p ≤ 4294967295
    omega
theorem txP_take (l : List Pc) (k : Nat) (h : k < l.length) : txP (l.take (k + 1)) = txP (l.take k) ++ l[k].2.1.data.toList := by
  rw [List.take_succ_eq_append_getElem h, txP_app, txP_cons, txP_nil, List.append_nil]
theorem txP_le (l : List Pc) (k : Nat) : (txP (l.take k)).length ≤ (txP l).length := by
  conv => rhs; rw [← List.take_append_drop k l, txP_app, List.length_append]
  omega
def WholeRel (t : T) (w : World) (s i : Value) (wr : World) : Prop := ∃ (k : Nat) (sv : ByteArray), i = .int .i64 k ∧ s = .string sv ∧ Hid (sv.data.toList = txP (t.ps.take k)) ∧ k ≤ t.ps.length ∧ sv.size ≤ 1000000 ∧ w = wr
end Go.Proofs.Ytjcmbnmejkhcjaa
