/- Arguments that are stretches, or slices of them: what a walk is told. No condition. -/
import Derived.Test.YtmjadcjpgcbalaaDoorSpanA
import Derived.Deep.SlicePairs
import Derived.Lib.SmallJoins
namespace Go.Proofs.YtmjadcjpgcbalaaDoor
open Go.ChangeShapes Go.WideShapes Go.ChangeAt Go.RowKit Go.Deep Go.Joins
open SpanM
section
variable {H : Type} {enc : TypeId × Value → H} {W : World} {base : Nat} {held : Bool}
def Wf (s : Sp) : Prop := (Lit.int .i64 s.1).wf = true ∧ (Lit.int .i64 s.2).wf = true
set_option maxRecDepth 100000 in
theorem sp_fields : ∃ f0 f1 : Field, Tryd.prog.underlying 39 = some (.struct #[f0, f1]) ∧ f0.offset = 0 ∧ f1.offset = 1 ∧ f0.type = 3 ∧ f1.type = 3 ∧ oneCellFields Tryd.prog #[f0, f1] = true := by
  refine ⟨_, _, Tryd.underlying39, ?_, ?_, ?_, ?_, ?_⟩ <;> kernel_rfl
set_option maxRecDepth 100000 in
theorem open_span {r : Reach} {b0 : Nat} {v : Value} {d : DataW H} {p : List MemPlace} {spare : Nat → Bool} (hv : Value.okWide Tryd.prog W r b0 39 v) (h : DataW.Trod enc Tryd.prog W base spare held 39 v d p) :
    ∃ s : Sp, v = .agg #[.int .i64 s.1, .int .i64 s.2] ∧ Wf s := by
  obtain ⟨f0, f1, hs, _, _, t0, t1, hone⟩ := sp_fields
  obtain ⟨v0, v1, y0, y1, n, rfl, _, _, h0, h1⟩ := open_agg2 hs hone (by kernel_rfl) hv h
  rw [t0] at h0
  rw [t1] at h1
  obtain ⟨a, e0, _, wa⟩ := DataW.trod_int Tryd.underlying3 h0
  obtain ⟨b, e1, _, wb⟩ := DataW.trod_int Tryd.underlying3 h1
  simp at e0 e1
  subst e0 e1
  exact ⟨(a, b), rfl, wa, wb⟩
end
end Go.Proofs.YtmjadcjpgcbalaaDoor
