/- Arguments of layer 18's laws: formats. No condition. -/
import Derived.Test.YtbphckblbbbakaaDoorChecked
import Derived.Test.YtbphckblbbbakaaDoorOwn
import Derived.Test.YtbphckblbbbakaaDoorArgs
import Derived.Deep.Slices
import Derived.Deep.SlicePairs
import Derived.ChangeSame
namespace Go.Proofs.YtbphckblbbbakaaDoor
open Go.ChangeShapes Go.WideShapes Go.ChangeAt Go.RowKit Go.Deep
/-- A part of a format: its kind, its number, its way to turn, its two texts. -/
structure Fm where
  k : Int
  n : Int
  c : Int
  th : ByteArray
  el : ByteArray
instance : Inhabited Fm := ⟨⟨0, 0, 0, ⟨#[]⟩, ⟨#[]⟩⟩⟩
def WfF (d : Fm) : Prop := (Lit.int .i64 d.k).wf = true ∧ (Lit.int .i64 d.n).wf = true ∧ (Lit.int .i64 d.c).wf = true ∧ d.th.size ≤ maxLen ∧ d.el.size ≤ maxLen
def FmCells (w : World) (x : Addr) (i : Nat) (d : Fm) : Prop :=
  w.cell? (x.add (i * 5)) = some (.int .i64 d.k) ∧ w.cell? (x.add (i * 5 + 1)) = some (.int .i64 d.n) ∧ w.cell? (x.add (i * 5 + 2)) = some (.int .i64 d.c) ∧ w.cell? (x.add (i * 5 + 3)) = some (.string d.th) ∧ w.cell? (x.add (i * 5 + 4)) = some (.string d.el)
/-- The slice reads as l. -/
def FmAt (w : World) (v : Value) (l : List Fm) : Prop :=
  (v = .slice none 0 0 ∧ l = []) ∨ ∃ x c, v = .slice (some x) l.length c ∧ l.length ≤ c ∧ c ≤ maxLen ∧ ∀ i (h : i < l.length), FmCells w x i l[i]
theorem fmat_below {w w' : World} {v : Value} {l : List Fm} (h : FmAt w v l) (hb : Below w.heap.size w w') : FmAt w' v l := by
  rcases h with h | ⟨x, c, rfl, h1, h2, h3⟩
  · exact .inl h
  · refine .inr ⟨x, c, rfl, h1, h2, fun i hi => ?_⟩
    obtain ⟨c0, c1, c2, c3, c4⟩ := h3 i hi
    exact ⟨cell_later hb c0, cell_later hb c1, cell_later hb c2, cell_later hb c3, cell_later hb c4⟩
theorem fmat_len {w : World} {v : Value} {l : List Fm} (h : FmAt w v l) : ∃ a c, v = .slice a l.length c := by
  rcases h with ⟨rfl, rfl⟩ | ⟨x, c, rfl, _⟩
  · exact ⟨none, 0, rfl⟩
  · exact ⟨some x, c, rfl⟩
/-- Its address, where it holds something. -/
theorem fmat_some {w : World} {v : Value} {l : List Fm} (h : FmAt w v l) (hp : 0 < l.length) :
    ∃ b off c, v = .slice (some ⟨b, off, none⟩) l.length c ∧ l.length ≤ c ∧ c ≤ maxLen ∧ b < w.heap.size ∧ ∀ i (h : i < l.length), w.cell? ⟨b, off + i * 5, none⟩ = some (.int .i64 l[i].k) ∧ w.cell? ⟨b, off + i * 5 + 1, none⟩ = some (.int .i64 l[i].n) ∧ w.cell? ⟨b, off + i * 5 + 2, none⟩ = some (.int .i64 l[i].c) ∧ w.cell? ⟨b, off + i * 5 + 3, none⟩ = some (.string l[i].th) ∧ w.cell? ⟨b, off + i * 5 + 4, none⟩ = some (.string l[i].el) := by
  rcases h with ⟨rfl, rfl⟩ | ⟨x, c, rfl, h1, h2, h3⟩
  · simp at hp
  · obtain ⟨b, off, spot⟩ := x
    have hc := (h3 0 hp).1
    have hspot : spot = none := by simpa [Addr.add] using World.cell?_spot hc
    subst hspot
    refine ⟨b, off, c, rfl, h1, h2, ?_, fun i hi => ?_⟩
    · have := World.block_lt_of_cell? w _ hc
      rw [addr_add] at this
      exact this
    · have := h3 i hi
      unfold FmCells at this
      simpa only [addr_add, Nat.add_assoc] using this
section
variable {H : Type} {enc : TypeId × Value → H} {W : World} {base : Nat} {held : Bool}
set_option maxRecDepth 100000 in
theorem open_fmts {r : Reach} {b0 : Nat} {v : Value} {d : DataW H} {p : List MemPlace} (hv : Value.okWide Tryd.prog W r b0 22 v) (h : DataW.Trod enc Tryd.prog W base (fun _ => true) held 22 v d p) :
    ∃ l : List Fm, FmAt W v l ∧ ∀ d ∈ l, WfF d := by
  obtain ⟨a, len, cap, rfl⟩ := okWide_slice Tryd.underlying22 hv
  obtain ⟨fuel, hf⟩ := h
  rcases open_slice Tryd.underlying22 hf with ⟨hcs, _⟩ | ⟨x, l, c, m, n, D, Pl, hcs, _, hl, hm, hmm, _, hx⟩
  · simp [Value.cells] at hcs
    obtain ⟨rfl, rfl, rfl⟩ := hcs
    exact ⟨[], .inl ⟨rfl, rfl⟩, by simp⟩
  · simp [Value.cells] at hcs
    obtain ⟨rfl, rfl, rfl⟩ := hcs
    have hC : Tryd.prog.cellsOf 41 = 5 := by kernel_rfl
    have hC1 : Tryd.prog.cellsOf 3 = 1 := by kernel_rfl
    have hCs : Tryd.prog.cellsOf 9 = 1 := by kernel_rfl
    have hex : ∀ i, i < len → ∃ d : Fm, FmCells W x i d ∧ WfF d := by
      intro i hi
      obtain ⟨cs, h1, h2⟩ := hx i (by simp only [if_true] at hmm; omega)
      rw [hC] at h1
      obtain ⟨_, hlen, hcell⟩ := World.cells?_some h1
      obtain ⟨xs, k, _, _, _, hxl, hg⟩ := DataW.trod_struct Tryd.underlying41 h2
      match cs, hlen with
      | [v0, v1, v2, v3, v4], _ =>
        have e0 := hcell 0 (by omega)
        have e1 := hcell 1 (by omega)
        have e2 := hcell 2 (by omega)
        have e3 := hcell 3 (by omega)
        have e4 := hcell 4 (by omega)
        rw [add_add] at e0 e1 e2 e3 e4
        match xs, hxl with
        | [y0, y1, y2, y3, y4], _ =>
          have g0 := hg 0 _ rfl
          have g1 := hg 1 _ rfl
          have g2 := hg 2 _ rfl
          have g3 := hg 3 _ rfl
          have g4 := hg 4 _ rfl
          replace g0 : DataW.trod enc Tryd.prog W base (fun _ => true) held k 3 (([v0, v1, v2, v3, v4].drop 0).take (Tryd.prog.cellsOf 3)) = some y0 := g0
          replace g1 : DataW.trod enc Tryd.prog W base (fun _ => true) held k 3 (([v0, v1, v2, v3, v4].drop 1).take (Tryd.prog.cellsOf 3)) = some y1 := g1
          replace g2 : DataW.trod enc Tryd.prog W base (fun _ => true) held k 3 (([v0, v1, v2, v3, v4].drop 2).take (Tryd.prog.cellsOf 3)) = some y2 := g2
          replace g3 : DataW.trod enc Tryd.prog W base (fun _ => true) held k 9 (([v0, v1, v2, v3, v4].drop 3).take (Tryd.prog.cellsOf 9)) = some y3 := g3
          replace g4 : DataW.trod enc Tryd.prog W base (fun _ => true) held k 9 (([v0, v1, v2, v3, v4].drop 4).take (Tryd.prog.cellsOf 9)) = some y4 := g4
          rw [hC1] at g0 g1 g2
          rw [hCs] at g3 g4
          obtain ⟨a0, q0, _, w0⟩ := DataW.trod_int Tryd.underlying3 g0
          obtain ⟨a1, q1, _, w1⟩ := DataW.trod_int Tryd.underlying3 g1
          obtain ⟨a2, q2, _, w2⟩ := DataW.trod_int Tryd.underlying3 g2
          obtain ⟨a3, q3, _, w3⟩ := DataW.trod_string Tryd.underlying9 g3
          obtain ⟨a4, q4, _, w4⟩ := DataW.trod_string Tryd.underlying9 g4
          simp at q0 q1 q2 q3 q4
          subst q0 q1 q2 q3 q4
          exact ⟨⟨a0, a1, a2, a3, a4⟩, ⟨by simpa using e0, by simpa using e1, by simpa using e2, by simpa using e3, by simpa using e4⟩, w0, w1, w2, w3, w4⟩
    obtain ⟨q, hq⟩ := choose_lt hex
    refine ⟨(List.range len).map q, .inr ⟨x, cap, by simp, by simpa using hl, hm, fun i hi => ?_⟩, fun s hs => ?_⟩
    · simp at hi
      simp only [List.getElem_map, List.getElem_range]
      exact (hq i hi).1
    · simp at hs
      obtain ⟨i, hi, rfl⟩ := hs
      exact (hq i hi).2
end
end Go.Proofs.YtbphckblbbbakaaDoor
