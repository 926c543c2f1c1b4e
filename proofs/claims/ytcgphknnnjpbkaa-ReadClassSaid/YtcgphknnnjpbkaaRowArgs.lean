/- Arguments that are rows, or slices of them: what a walk is told. No condition. -/
import Derived.Test.YtcgphknnnjpbkaaRowA
import Derived.Deep.SlicePairs
import Derived.Lib.SmallJoins
namespace Go.Proofs.Ytcgphknnnjpbkaa
set_option maxRecDepth 100000
open Go.ChangeShapes Go.WideShapes Go.ChangeAt Go.RowKit Go.Deep Go.Joins
open SetM
section
variable {H : Type} {enc : TypeId × Value → H} {W : World} {base : Nat} {held : Bool}
def WfR (s : Rw) : Prop := s.1.size ≤ maxLen ∧ s.2.size ≤ maxLen
theorem rw_fields : ∃ f0 f1 : Field, Try.prog.underlying 47 = some (.struct #[f0, f1]) ∧ f0.offset = 0 ∧ f1.offset = 1 ∧ f0.type = 9 ∧ f1.type = 9 ∧ oneCellFields Try.prog #[f0, f1] = true := by
  refine ⟨_, _, Try.underlying47, ?_, ?_, ?_, ?_, ?_⟩ <;> kernel_rfl
theorem open_row {r : Reach} {b0 : Nat} {v : Value} {d : DataW H} {p : List MemPlace} {spare : Nat → Bool} (hv : Value.okWide Try.prog W r b0 47 v) (h : DataW.Trod enc Try.prog W base spare held 47 v d p) :
    ∃ s : Rw, v = .agg #[.string s.1, .string s.2] ∧ WfR s := by
  obtain ⟨f0, f1, hs, _, _, t0, t1, hone⟩ := rw_fields
  obtain ⟨v0, v1, y0, y1, n, rfl, _, _, h0, h1⟩ := open_agg2 hs hone (by kernel_rfl) hv h
  rw [t0] at h0
  rw [t1] at h1
  obtain ⟨a, e0, _, wa⟩ := DataW.trod_string Try.underlying9 h0
  obtain ⟨b, e1, _, wb⟩ := DataW.trod_string Try.underlying9 h1
  simp at e0 e1
  subst e0 e1
  exact ⟨(a, b), rfl, wa, wb⟩
theorem open_rows {r : Reach} {b0 : Nat} {v : Value} {d : DataW H} {p : List MemPlace} (hv : Value.okWide Try.prog W r b0 23 v) (h : DataW.Trod enc Try.prog W base (fun _ => true) held 23 v d p) :
    ∃ l : List Rw, RwAt W v l ∧ ∀ s ∈ l, WfR s := by
  obtain ⟨a, len, cap, rfl⟩ := okWide_slice Try.underlying23 hv
  obtain ⟨fuel, hf⟩ := h
  obtain ⟨f0, f1, hs, o0, o1, t0, t1, hone⟩ := rw_fields
  rcases open_slice_pairs Try.underlying23 hs (by kernel_rfl) o0 o1 (by rw [t0]; kernel_rfl) (by rw [t1]; kernel_rfl) hf with ⟨hcs, _⟩ | ⟨x, l, c, m, n, V0, V1, D0, D1, P0, P1, hcs, _, hl, hm, hmm, _, hcell⟩
  · simp [Value.cells] at hcs
    obtain ⟨rfl, rfl, rfl⟩ := hcs
    exact ⟨[], .inl ⟨rfl, rfl⟩, by simp⟩
  · simp [Value.cells] at hcs
    obtain ⟨rfl, rfl, rfl⟩ := hcs
    rw [t0, t1] at hcell
    have hex : ∀ i, i < len → ∃ s : Rw, W.cell? (x.add (i * 2)) = some (.string s.1) ∧ W.cell? (x.add (i * 2 + 1)) = some (.string s.2) ∧ WfR s := by
      intro i hi
      obtain ⟨h0, h1, h2, h3⟩ := hcell i (by simp only [if_true] at hmm; omega)
      obtain ⟨a, e0, _, wa⟩ := DataW.trod_string Try.underlying9 h2
      obtain ⟨b, e1, _, wb⟩ := DataW.trod_string Try.underlying9 h3
      simp at e0 e1
      rw [e0] at h0
      rw [e1] at h1
      exact ⟨(a, b), h0, h1, wa, wb⟩
    obtain ⟨q, hq⟩ := choose_lt hex
    refine ⟨(List.range len).map q, .inr ⟨x, cap, by simp, by simpa using hl, hm, fun i hi => ?_⟩, fun s hs => ?_⟩
    · simp at hi
      simp only [List.getElem_map, List.getElem_range]
      exact ⟨(hq i hi).1, (hq i hi).2.1⟩
    · simp at hs
      obtain ⟨i, hi, rfl⟩ := hs
      exact (hq i hi).2.2
end
end Go.Proofs.Ytcgphknnnjpbkaa
