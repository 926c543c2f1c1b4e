/- What a walk is told of a slice that came in: of integers, of strings, of bools. -/
import Derived.Test.YtcgphknnnjpbkaaBase
import Derived.SliceStrings
import Derived.Deep.Grids
namespace Go.Proofs.Ytcgphknnnjpbkaa
open Go.ChangeShapes Go.WideShapes Go.ChangeAt Go.RowKit

def IsInts (k : IntKind) (w : World) (a : Option Addr) (len cap : Nat) (zs : List Int) : Prop :=
  (a = none ∧ len = 0 ∧ cap = 0 ∧ zs = []) ∨
  ∃ x, a = some x ∧ len ≤ cap ∧ cap ≤ maxLen ∧ zs.length = cap ∧ (∀ i, i < zs.length → w.cell? (x.add i) = some (.int k (zs.getD i 0))) ∧ ∀ n ∈ zs, (Lit.int k n).wf = true
def IsStrs (w : World) (a : Option Addr) (len cap : Nat) (zs : List ByteArray) : Prop :=
  (a = none ∧ len = 0 ∧ cap = 0 ∧ zs = []) ∨
  ∃ x, a = some x ∧ len ≤ cap ∧ cap ≤ maxLen ∧ zs.length = cap ∧ (∀ i, i < zs.length → w.cell? (x.add i) = some (.string (zs.getD i ByteArray.empty))) ∧ ∀ s ∈ zs, s.size ≤ maxLen
def IsBools (w : World) (a : Option Addr) (len cap : Nat) (zs : List Bool) : Prop :=
  (a = none ∧ len = 0 ∧ cap = 0 ∧ zs = []) ∨
  ∃ x, a = some x ∧ len ≤ cap ∧ cap ≤ maxLen ∧ zs.length = cap ∧ (∀ i, i < zs.length → w.cell? (x.add i) = some (.bool (zs.getD i false)))
theorem addr_add (b off i : Nat) : (⟨b, off, none⟩ : Addr).add i = ⟨b, off + i, none⟩ := by
  rcases Nat.eq_zero_or_pos i with h0 | h0
  · subst h0; simp [Addr.add]
  · simp [Addr.add, show i ≠ 0 by omega]
theorem ints_cell {K : IntKind} {w : World} {a : Option Addr} {n cap : Nat} {z : List Int} (h : IsInts K w a n cap z) (hp : 0 < n) :
    ∃ b off, a = some ⟨b, off, none⟩ ∧ n ≤ z.length ∧ n ≤ cap ∧ cap ≤ maxLen ∧ ∀ i, i < z.length → w.cell? ⟨b, off + i, none⟩ = some (.int K (z.getD i 0)) := by
  rcases h with ⟨rfl, rfl, rfl, rfl⟩ | ⟨x, rfl, hl, hm, hz, hcell, hwz⟩
  · omega
  · obtain ⟨b, off, spot⟩ := x
    have hc := hcell 0 (by omega)
    have hspot : spot = none := by simpa [Addr.add] using World.cell?_spot hc
    subst hspot
    exact ⟨b, off, rfl, by omega, hl, hm, fun i hi => by rw [← addr_add]; exact hcell i hi⟩
theorem strs_cell {w : World} {a : Option Addr} {n cap : Nat} {z : List ByteArray} (h : IsStrs w a n cap z) (hp : 0 < n) :
    ∃ b off, a = some ⟨b, off, none⟩ ∧ n ≤ z.length ∧ n ≤ cap ∧ cap ≤ maxLen ∧ ∀ i, i < z.length → w.cell? ⟨b, off + i, none⟩ = some (.string (z.getD i ByteArray.empty)) := by
  rcases h with ⟨rfl, rfl, rfl, rfl⟩ | ⟨x, rfl, hl, hm, hz, hcell, hwz⟩
  · omega
  · obtain ⟨b, off, spot⟩ := x
    have hc := hcell 0 (by omega)
    have hspot : spot = none := by simpa [Addr.add] using World.cell?_spot hc
    subst hspot
    exact ⟨b, off, rfl, by omega, hl, hm, fun i hi => by rw [← addr_add]; exact hcell i hi⟩
theorem bools_cell {w : World} {a : Option Addr} {n cap : Nat} {z : List Bool} (h : IsBools w a n cap z) (hp : 0 < n) :
    ∃ b off, a = some ⟨b, off, none⟩ ∧ n ≤ z.length ∧ n ≤ cap ∧ cap ≤ maxLen ∧ ∀ i, i < z.length → w.cell? ⟨b, off + i, none⟩ = some (.bool (z.getD i false)) := by
  rcases h with ⟨rfl, rfl, rfl, rfl⟩ | ⟨x, rfl, hl, hm, hz, hcell⟩
  · omega
  · obtain ⟨b, off, spot⟩ := x
    have hc := hcell 0 (by omega)
    have hspot : spot = none := by simpa [Addr.add] using World.cell?_spot hc
    subst hspot
    exact ⟨b, off, rfl, by omega, hl, hm, fun i hi => by rw [← addr_add]; exact hcell i hi⟩
theorem ints_len {K : IntKind} {w : World} {a : Option Addr} {n cap : Nat} {z : List Int} (h : IsInts K w a n cap z) : n ≤ z.length := by
  rcases h with ⟨rfl, rfl, rfl, rfl⟩ | ⟨x, rfl, hl, hm, hz, hcell, hwz⟩ <;> omega
theorem strs_len {w : World} {a : Option Addr} {n cap : Nat} {z : List ByteArray} (h : IsStrs w a n cap z) : n ≤ z.length := by
  rcases h with ⟨rfl, rfl, rfl, rfl⟩ | ⟨x, rfl, hl, hm, hz, hcell, hwz⟩ <;> omega
theorem bools_len {w : World} {a : Option Addr} {n cap : Nat} {z : List Bool} (h : IsBools w a n cap z) : n ≤ z.length := by
  rcases h with ⟨rfl, rfl, rfl, rfl⟩ | ⟨x, rfl, hl, hm, hz, hcell⟩ <;> omega
theorem getD_take {α : Type} (z : List α) (n k : Nat) (d : α) (h : k < n) : (z.take n).getD k d = z.getD k d := by simp [List.getD, h]
section
variable {H : Type} {enc : TypeId × Value → H} {P : Program} {w : World} {base : Nat} {spare : Nat → Bool} {held : Bool}
theorem okWide_arr {r : Reach} {b0 : Nat} {t : TypeId} {v : Value} {n : Nat} {e : TypeId} (ht : P.underlying t = some (.array n e)) (h : Value.okWide P w r b0 t v) : ∃ cs, v = .agg cs ∧ cs.size = P.cellsOf t := by
  simp only [Value.okWide, ht] at h
  obtain ⟨cs, h1, h2, _⟩ := h
  exact ⟨cs, h1, h2⟩
theorem open_arr4 {r : Reach} {b0 : Nat} {t e : TypeId} {k : IntKind} {v : Value} {d : DataW H} {p : List MemPlace} (ht : P.underlying t = some (.array 4 e)) (he : P.underlying e = some (.int k)) (hC : P.cellsOf t = 4) (hCe : P.cellsOf e = 1)
    (hv : Value.okWide P w r b0 t v) (h : DataW.Trod enc P w base spare held t v d p) :
    ∃ a b c x : Int, v = .agg #[.int k a, .int k b, .int k c, .int k x] ∧ (Lit.int k a).wf = true ∧ (Lit.int k b).wf = true ∧ (Lit.int k c).wf = true ∧ (Lit.int k x).wf = true := by
  obtain ⟨cs, rfl, hsz⟩ := okWide_arr ht hv
  obtain ⟨l⟩ := cs
  match l, hsz.trans hC with
  | [c0, c1, c2, c3], _ =>
    obtain ⟨fuel, hf⟩ := h
    obtain ⟨xs, m, _, hx, _, hlen, hg⟩ := DataW.trod_array ht hf
    match xs, hlen with
    | [y0, y1, y2, y3], _ =>
      have g0 := hg 0 (by omega)
      have g1 := hg 1 (by omega)
      have g2 := hg 2 (by omega)
      have g3 := hg 3 (by omega)
      simp only [Value.cells, hCe] at g0 g1 g2 g3
      obtain ⟨a, e0, _, wa⟩ := DataW.trod_int he g0
      obtain ⟨b, e1, _, wb⟩ := DataW.trod_int he g1
      obtain ⟨c, e2, _, wc⟩ := DataW.trod_int he g2
      obtain ⟨x, e3, _, wx⟩ := DataW.trod_int he g3
      simp at e0 e1 e2 e3
      subst e0 e1 e2 e3
      exact ⟨a, b, c, x, rfl, wa, wb, wc, wx⟩
end
end Go.Proofs.Ytcgphknnnjpbkaa
