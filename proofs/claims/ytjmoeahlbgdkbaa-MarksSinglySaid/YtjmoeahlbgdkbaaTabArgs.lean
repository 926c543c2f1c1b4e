/- Arguments of layer 7's laws: a range, two bools, a slice of pairs of integers. No condition. -/
import Derived.Test.YtjmoeahlbgdkbaaArgs
import Derived.Test.YtjmoeahlbgdkbaaSpanArgs
import Derived.Deep.Slices
import Derived.ChangeSame
namespace Go.Proofs.Ytjmoeahlbgdkbaa
open Go.ChangeShapes Go.WideShapes Go.ChangeAt Go.RowKit Go.Deep
open SpanM
section
variable {H : Type} {enc : TypeId × Value → H} {W : World} {base : Nat} {spare : Nat → Bool} {held : Bool}
/-- A range that came in: its two ends, its two flags, its parent. -/
structure Rg where
  f : Int
  t : Int
  b : Bool
  c : Bool
  p : Int
def vG (g : Rg) : Value := .agg #[.int .i64 g.f, .int .i64 g.t, .bool g.b, .bool g.c, .int .i64 g.p]
def WfG (g : Rg) : Prop := (Lit.int .i64 g.f).wf = true ∧ (Lit.int .i64 g.t).wf = true ∧ (Lit.int .i64 g.p).wf = true
set_option maxRecDepth 100000 in
theorem open_range {r : Reach} {b0 : Nat} {v : Value} {d : DataW H} {p : List MemPlace} (hv : Value.okWide Try.prog W r b0 43 v) (h : DataW.Trod enc Try.prog W base spare held 43 v d p) :
    ∃ g : Rg, v = vG g ∧ WfG g := by
  obtain ⟨cs, rfl, hsz⟩ := okWide_struct Try.underlying43 hv
  have hC : Try.prog.cellsOf 43 = 5 := by kernel_rfl
  have hC2 : Try.prog.cellsOf 41 = 2 := by kernel_rfl
  have hC1 : Try.prog.cellsOf 3 = 1 := by kernel_rfl
  have hCb : Try.prog.cellsOf 4 = 1 := by kernel_rfl
  obtain ⟨l⟩ := cs
  match l, hsz.trans hC with
  | [c0, c1, c2, c3, c4], _ =>
    obtain ⟨fuel, hf⟩ := h
    obtain ⟨xs, k, _, _, _, hxl, hg⟩ := DataW.trod_struct Try.underlying43 hf
    match xs, hxl with
    | [y0, y1, y2, y3], _ =>
      have g0 := hg 0 _ rfl
      have g1 := hg 1 _ rfl
      have g2 := hg 2 _ rfl
      have g3 := hg 3 _ rfl
      replace g0 : DataW.trod enc Try.prog W base spare held k 41 (([c0, c1, c2, c3, c4].drop 0).take (Try.prog.cellsOf 41)) = some y0 := g0
      replace g1 : DataW.trod enc Try.prog W base spare held k 4 (([c0, c1, c2, c3, c4].drop 2).take (Try.prog.cellsOf 4)) = some y1 := g1
      replace g2 : DataW.trod enc Try.prog W base spare held k 4 (([c0, c1, c2, c3, c4].drop 3).take (Try.prog.cellsOf 4)) = some y2 := g2
      replace g3 : DataW.trod enc Try.prog W base spare held k 3 (([c0, c1, c2, c3, c4].drop 4).take (Try.prog.cellsOf 3)) = some y3 := g3
      rw [hC2] at g0
      rw [hCb] at g1 g2
      rw [hC1] at g3
      obtain ⟨ys, k2, _, _, _, hyl, hs⟩ := DataW.trod_struct Try.underlying41 g0
      match ys, hyl with
      | [z0, z1], _ =>
        have s0 := hs 0 _ rfl
        have s1 := hs 1 _ rfl
        replace s0 : DataW.trod enc Try.prog W base spare held k2 3 (([c0, c1].drop 0).take (Try.prog.cellsOf 3)) = some z0 := s0
        replace s1 : DataW.trod enc Try.prog W base spare held k2 3 (([c0, c1].drop 1).take (Try.prog.cellsOf 3)) = some z1 := s1
        rw [hC1] at s0 s1
        obtain ⟨f, q0, _, w0⟩ := DataW.trod_int Try.underlying3 s0
        obtain ⟨t, q1, _, w1⟩ := DataW.trod_int Try.underlying3 s1
        obtain ⟨b, q2, _⟩ := DataW.trod_bool Try.underlying4 g1
        obtain ⟨c, q3, _⟩ := DataW.trod_bool Try.underlying4 g2
        obtain ⟨p, q4, _, w4⟩ := DataW.trod_int Try.underlying3 g3
        simp at q0 q1 q2 q3 q4
        subst q0 q1 q2 q3 q4
        exact ⟨⟨f, t, b, c, p⟩, rfl, w0, w1, w4⟩
theorem open_bools2 {P : Program} {r : Reach} {b0 : Nat} {t e : TypeId} {v : Value} {d : DataW H} {p : List MemPlace} (ht : P.underlying t = some (.array 2 e)) (he : P.underlying e = some .bool) (hC : P.cellsOf t = 2) (hCe : P.cellsOf e = 1)
    (hv : Value.okWide P W r b0 t v) (h : DataW.Trod enc P W base spare held t v d p) :
    ∃ a b : Bool, v = .agg #[.bool a, .bool b] := by
  obtain ⟨cs, rfl, hsz⟩ := okWide_arr ht hv
  obtain ⟨l⟩ := cs
  match l, hsz.trans hC with
  | [c0, c1], _ =>
    obtain ⟨fuel, hf⟩ := h
    obtain ⟨xs, m, _, hx, _, hlen, hg⟩ := DataW.trod_array ht hf
    match xs, hlen with
    | [y0, y1], _ =>
      have g0 := hg 0 (by omega)
      have g1 := hg 1 (by omega)
      simp only [Value.cells, hCe] at g0 g1
      obtain ⟨a, e0, _⟩ := DataW.trod_bool he g0
      obtain ⟨b, e1, _⟩ := DataW.trod_bool he g1
      simp at e0 e1
      subst e0 e1
      exact ⟨a, b, rfl⟩
set_option maxRecDepth 100000 in
/-- A slice of pairs reads as stretches do. -/
theorem open_pairs {r : Reach} {b0 : Nat} {v : Value} {d : DataW H} {p : List MemPlace} (hv : Value.okWide Try.prog W r b0 53 v) (h : DataW.Trod enc Try.prog W base (fun _ => true) held 53 v d p) :
    ∃ l : List Sp, SpAt W v l ∧ ∀ s ∈ l, Wf s := by
  obtain ⟨a, len, cap, rfl⟩ := okWide_slice Try.underlying53 hv
  obtain ⟨fuel, hf⟩ := h
  rcases open_slice Try.underlying53 hf with ⟨hcs, _⟩ | ⟨x, l, c, m, n, D, Pl, hcs, _, hl, hm, hmm, _, hx⟩
  · simp [Value.cells] at hcs
    obtain ⟨rfl, rfl, rfl⟩ := hcs
    exact ⟨[], .inl ⟨rfl, rfl⟩, by simp⟩
  · simp [Value.cells] at hcs
    obtain ⟨rfl, rfl, rfl⟩ := hcs
    have hC : Try.prog.cellsOf 57 = 2 := by kernel_rfl
    have hC1 : Try.prog.cellsOf 3 = 1 := by kernel_rfl
    have hex : ∀ i, i < len → ∃ s : Sp, W.cell? (x.add (i * 2)) = some (.int .i64 s.1) ∧ W.cell? (x.add (i * 2 + 1)) = some (.int .i64 s.2) ∧ Wf s := by
      intro i hi
      obtain ⟨cs, h1, h2⟩ := hx i (by simp only [if_true] at hmm; omega)
      rw [hC] at h1
      obtain ⟨_, hlen, hcell⟩ := World.cells?_some h1
      obtain ⟨xs, k, _, _, _, hxl, hg⟩ := DataW.trod_array Try.underlying57 h2
      match cs, hlen with
      | [v0, v1], _ =>
        have e0 := hcell 0 (by omega)
        have e1 := hcell 1 (by omega)
        rw [add_add] at e0 e1
        match xs, hxl with
        | [y0, y1], _ =>
          have g0 := hg 0 (by omega)
          have g1 := hg 1 (by omega)
          simp only [hC1] at g0 g1
          obtain ⟨f, q0, _, w0⟩ := DataW.trod_int Try.underlying3 g0
          obtain ⟨t, q1, _, w1⟩ := DataW.trod_int Try.underlying3 g1
          simp at q0 q1
          subst q0 q1
          exact ⟨(f, t), by simpa using e0, by simpa using e1, w0, w1⟩
    obtain ⟨q, hq⟩ := choose_lt hex
    refine ⟨(List.range len).map q, .inr ⟨x, cap, by simp, by simpa using hl, hm, fun i hi => ?_⟩, fun s hs => ?_⟩
    · simp at hi
      simp only [List.getElem_map, List.getElem_range]
      exact ⟨(hq i hi).1, (hq i hi).2.1⟩
    · simp at hs
      obtain ⟨i, hi, rfl⟩ := hs
      exact (hq i hi).2.2
end
end Go.Proofs.Ytjmoeahlbgdkbaa
