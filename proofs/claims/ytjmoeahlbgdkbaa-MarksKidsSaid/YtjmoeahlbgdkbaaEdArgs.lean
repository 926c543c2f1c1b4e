/- Arguments that are slices of edits, or of hints at edits: what a walk is told. No condition. -/
import Derived.Test.YtjmoeahlbgdkbaaEdA
import Derived.Deep.Slices
import Derived.ChangeSame
namespace Go.Proofs.Ytjmoeahlbgdkbaa
open Go.ChangeShapes Go.WideShapes Go.ChangeAt Go.RowKit Go.Deep
open SpanM EdM
section
variable {H : Type} {enc : TypeId × Value → H} {W : World} {base : Nat} {held : Bool}
def WfE (e : Ed) : Prop := (Lit.int .i64 e.1.1).wf = true ∧ (Lit.int .i64 e.1.2).wf = true ∧ e.2.size ≤ maxLen
theorem edat_make {W : World} {x : Addr} {len cap : Nat} (hl : len ≤ cap) (hm : cap ≤ maxLen) (hex : ∀ i, i < len → ∃ e : Ed, W.cell? (x.add (i * 3)) = some (.int .i64 e.1.1) ∧ W.cell? (x.add (i * 3 + 1)) = some (.int .i64 e.1.2) ∧ W.cell? (x.add (i * 3 + 2)) = some (.string e.2) ∧ WfE e) :
    ∃ l : List Ed, EdAt W (.slice (some x) len cap) l ∧ ∀ e ∈ l, WfE e := by
  obtain ⟨q, hq⟩ := choose_lt hex
  refine ⟨(List.range len).map q, .inr ⟨x, cap, by simp, by simpa using hl, hm, fun i hi => ?_⟩, fun s hs => ?_⟩
  · simp at hi
    simp only [List.getElem_map, List.getElem_range]
    exact ⟨(hq i hi).1, (hq i hi).2.1, (hq i hi).2.2.1⟩
  · simp at hs
    obtain ⟨i, hi, rfl⟩ := hs
    exact (hq i hi).2.2.2
set_option maxRecDepth 100000 in
theorem open_edits {r : Reach} {b0 : Nat} {v : Value} {d : DataW H} {p : List MemPlace} (hv : Value.okWide Try.prog W r b0 35 v) (h : DataW.Trod enc Try.prog W base (fun _ => true) held 35 v d p) :
    ∃ l : List Ed, EdAt W v l ∧ ∀ e ∈ l, WfE e := by
  obtain ⟨a, len, cap, rfl⟩ := okWide_slice Try.underlying35 hv
  obtain ⟨fuel, hf⟩ := h
  rcases open_slice Try.underlying35 hf with ⟨hcs, _⟩ | ⟨x, l, c, m, n, D, Pl, hcs, _, hl, hm, hmm, _, hx⟩
  · simp [Value.cells] at hcs
    obtain ⟨rfl, rfl, rfl⟩ := hcs
    exact ⟨[], .inl ⟨rfl, rfl⟩, by simp⟩
  · simp [Value.cells] at hcs
    obtain ⟨rfl, rfl, rfl⟩ := hcs
    have hC : Try.prog.cellsOf 61 = 3 := by kernel_rfl
    have hC2 : Try.prog.cellsOf 41 = 2 := by kernel_rfl
    have hC1 : Try.prog.cellsOf 3 = 1 := by kernel_rfl
    have hC0 : Try.prog.cellsOf 9 = 1 := by kernel_rfl
    refine edat_make hl hm fun i hi => ?_
    obtain ⟨cs, h1, h2⟩ := hx i (by simp only [if_true] at hmm; omega)
    rw [hC] at h1
    obtain ⟨_, hlen, hcell⟩ := World.cells?_some h1
    obtain ⟨xs, k, _, _, _, hxl, hg⟩ := DataW.trod_struct Try.underlying61 h2
    match cs, hlen with
    | [v0, v1, v2], _ =>
      have e0 := hcell 0 (by omega)
      have e1 := hcell 1 (by omega)
      have e2 := hcell 2 (by omega)
      rw [add_add] at e0 e1 e2
      match xs, hxl with
      | [y0, y1], _ =>
        have g0 := hg 0 _ rfl
        have g1 := hg 1 _ rfl
        replace g0 : DataW.trod enc Try.prog W base (fun _ => true) held k 41 (([v0, v1, v2].drop 0).take (Try.prog.cellsOf 41)) = some y0 := g0
        replace g1 : DataW.trod enc Try.prog W base (fun _ => true) held k 9 (([v0, v1, v2].drop 2).take (Try.prog.cellsOf 9)) = some y1 := g1
        rw [hC2] at g0
        rw [hC0] at g1
        obtain ⟨ys, k2, _, _, _, hyl, hs⟩ := DataW.trod_struct Try.underlying41 g0
        match ys, hyl with
        | [z0, z1], _ =>
          have s0 := hs 0 _ rfl
          have s1 := hs 1 _ rfl
          replace s0 : DataW.trod enc Try.prog W base (fun _ => true) held k2 3 (([v0, v1].drop 0).take (Try.prog.cellsOf 3)) = some z0 := s0
          replace s1 : DataW.trod enc Try.prog W base (fun _ => true) held k2 3 (([v0, v1].drop 1).take (Try.prog.cellsOf 3)) = some z1 := s1
          rw [hC1] at s0 s1
          obtain ⟨f, q0, _, w0⟩ := DataW.trod_int Try.underlying3 s0
          obtain ⟨t, q1, _, w1⟩ := DataW.trod_int Try.underlying3 s1
          obtain ⟨s, q2, _, w2⟩ := DataW.trod_string Try.underlying9 g1
          simp at q0 q1 q2
          subst q0 q1 q2
          exact ⟨((f, t), s), by simpa using e0, by simpa using e1, by simpa using e2, w0, w1, w2⟩
end
end Go.Proofs.Ytjmoeahlbgdkbaa
