/- Arguments that are slices of pairs of integers. No condition. -/
import Derived.Test.YtjkjgfgblfioeaaArgs
import Derived.Test.YtjkjgfgblfioeaaSelArgs
import Derived.Deep.Slices
import Derived.ChangeSame
namespace Go.Proofs.Ytjkjgfgblfioeaa
open Go.ChangeShapes Go.WideShapes Go.ChangeAt Go.RowKit Go.Deep
open SpanM
section
variable {H : Type} {enc : TypeId × Value → H} {W : World} {base : Nat} {spare : Nat → Bool} {held : Bool}
set_option maxRecDepth 100000 in
/-- A slice of pairs reads as stretches do. -/
theorem open_pairs {r : Reach} {b0 : Nat} {v : Value} {d : DataW H} {p : List MemPlace} (hv : Value.okWide Try.prog W r b0 23 v) (h : DataW.Trod enc Try.prog W base (fun _ => true) held 23 v d p) :
    ∃ l : List Sp, SpAt W v l ∧ ∀ s ∈ l, Wf s := by
  obtain ⟨a, len, cap, rfl⟩ := okWide_slice Try.underlying23 hv
  obtain ⟨fuel, hf⟩ := h
  rcases open_slice Try.underlying23 hf with ⟨hcs, _⟩ | ⟨x, l, c, m, n, D, Pl, hcs, _, hl, hm, hmm, _, hx⟩
  · simp [Value.cells] at hcs
    obtain ⟨rfl, rfl, rfl⟩ := hcs
    exact ⟨[], .inl ⟨rfl, rfl⟩, by simp⟩
  · simp [Value.cells] at hcs
    obtain ⟨rfl, rfl, rfl⟩ := hcs
    have hC : Try.prog.cellsOf 49 = 2 := by kernel_rfl
    have hC1 : Try.prog.cellsOf 3 = 1 := by kernel_rfl
    have hex : ∀ i, i < len → ∃ s : Sp, W.cell? (x.add (i * 2)) = some (.int .i64 s.1) ∧ W.cell? (x.add (i * 2 + 1)) = some (.int .i64 s.2) ∧ Wf s := by
      intro i hi
      obtain ⟨cs, h1, h2⟩ := hx i (by simp only [if_true] at hmm; omega)
      rw [hC] at h1
      obtain ⟨_, hlen, hcell⟩ := World.cells?_some h1
      obtain ⟨xs, k, _, _, _, hxl, hg⟩ := DataW.trod_array Try.underlying49 h2
      match cs, hlen with
      | [v0, v1], _ =>
        have e0 := hcell 0 (by omega)
        have e1 := hcell 1 (by omega)
        rw [add_add] at e0 e1
        match xs, hxl with
        | [y0, y1], _ =>
          have g0 := hg 0 (by omega)
          have g1 := hg 1 (by omega)
          simp only [hC1] at g0 g1
          obtain ⟨f, q0, _, w0⟩ := DataW.trod_int Try.underlying3 g0
          obtain ⟨t, q1, _, w1⟩ := DataW.trod_int Try.underlying3 g1
          simp at q0 q1
          subst q0 q1
          exact ⟨(f, t), by simpa using e0, by simpa using e1, w0, w1⟩
    obtain ⟨q, hq⟩ := choose_lt hex
    refine ⟨(List.range len).map q, .inr ⟨x, cap, by simp, by simpa using hl, hm, fun i hi => ?_⟩, fun s hs => ?_⟩
    · simp at hi
      simp only [List.getElem_map, List.getElem_range]
      exact ⟨(hq i hi).1, (hq i hi).2.1⟩
    · simp at hs
      obtain ⟨i, hi, rfl⟩ := hs
      exact (hq i hi).2.2
end
end Go.Proofs.Ytjkjgfgblfioeaa
