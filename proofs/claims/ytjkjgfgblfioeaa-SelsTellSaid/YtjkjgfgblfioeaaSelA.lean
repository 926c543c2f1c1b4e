/- Words on selections: their stretch, what a function makes beside drawing; contracts of sels.Span, of the order by stretches, of sels.cover. No condition. -/
import Derived.Test.YtjkjgfgblfioeaaSpanC
import Derived.Test.YtjkjgfgblfioeaaLater
import Derived.Laws.ResultCell
import Derived.Deep.RegionWith
import Derived.Deep.DeepCutAuto
import Derived.BigRegion
namespace Go.Proofs.Ytjkjgfgblfioeaa
open Go.ChangeShapes Go.WideShapes Go.ChangeAt Go.RowKit
open SpanM
attribute [local go_sem ↓] Go.wp_at_zero Go.wp_at_succ
set_option maxRecDepth 100000
set_option linter.unusedVariables false
/-- The stretch of a selection. -/
def ky (s : Sp) : Sp := (min s.1 s.2, max s.1 s.2)
theorem selres_cell1 {fn : Func} {p : Tmp} {ty : TypeId} (h : fn.results = #[.cell p ty]) (tmps : Array Value) (P : Program) (w : World) :
    (results fn tmps).run P w = ((asAddr (tmps.getD p undef)).run P w).andThen fun a w₁ => (loadVar ty a).run P w₁ := by
  simp only [results, h]
  simp [Sem.run_bind, Result.andThen]
def selO (a1 a2 : Int) : Obj := .cells #[.int .i64 a1, .int .i64 a2] 38
def spO (a1 a2 : Int) : Obj := .cells #[.int .i64 a1, .int .i64 a2] 35
set_option maxHeartbeats 2000000 in
theorem span_s (a1 a2 : Int) (k1 k2 : Int) (h1 : min a1 a2 = k1) (h2 : max a1 a2 = k2) (w : World) : Calls Try.prog 16 #[.agg #[.int .i64 a1, .int .i64 a2]] w fun e w' => e = .returned (.agg #[.int .i64 k1, .int .i64 k2]) ∧ w' = (w.alloc (.cells #[.int .i64 a1, .int .i64 a2] 38)).alloc (.cells #[.int .i64 k1, .int .i64 k2] 35) := by
  subst h1 h2
  rcases Int.lt_trichotomy a1 a2 with h | h | h
  · have e1 : min a1 a2 = a1 := by omega
    have e2 : max a1 a2 = a2 := by omega
    rw [e1, e2]
    have g1 : a1 ≤ a2 := by omega
    have g2 : ¬ a2 < a1 := by omega
    have g3 : ¬ a2 ≤ a1 := by omega
    go_enter Try.func16, Try.ntmps16
    go_wp2
    refine bodyPost_ret (v := .agg #[.int .i64 a1, .int .i64 a2]) ?_ rfl ⟨rfl, rfl⟩
    rw [selres_cell1 rfl]
    go_simp
  · subst h
    have e1 : min a1 a1 = a1 := by omega
    have e2 : max a1 a1 = a1 := by omega
    rw [e1, e2]
    have g2 : ¬ a1 < a1 := by omega
    go_enter Try.func16, Try.ntmps16
    go_wp2
    refine bodyPost_ret (v := .agg #[.int .i64 a1, .int .i64 a1]) ?_ rfl ⟨rfl, rfl⟩
    rw [selres_cell1 rfl]
    go_simp
  · have e1 : min a1 a2 = a2 := by omega
    have e2 : max a1 a2 = a1 := by omega
    rw [e1, e2]
    have g1 : a2 ≤ a1 := by omega
    have g2 : ¬ a1 < a2 := by omega
    have g3 : ¬ a1 ≤ a2 := by omega
    go_enter Try.func16, Try.ntmps16
    go_wp2
    refine bodyPost_ret (v := .agg #[.int .i64 a2, .int .i64 a1]) ?_ rfl ⟨rfl, rfl⟩
    rw [selres_cell1 rfl]
    go_simp
theorem grw_of {w w' : World} (hb : Below w.heap.size w w') (hd : w.drawn ≤ w'.drawn) : ∃ q os', w' = Go.Sort.grow (w.drewN q) os' := by
  refine ⟨w'.drawn - w.drawn, (w'.heap.toList.drop w.heap.size).toArray, ?_⟩
  obtain ⟨h1, h2, h3, h4, h5⟩ := hb
  obtain ⟨hp, tp, dr, os, ou⟩ := w
  obtain ⟨hp', tp', dr', os', ou'⟩ := w'
  simp only at h1 h2 h3 h4 h5 hd
  subst h1 h2 h3
  unfold Go.Sort.grow World.drewN
  simp only
  congr 1
  · apply Array.ext_getElem?
    intro k
    rw [Array.getElem?_append]
    by_cases hk : k < hp.size
    · rw [if_pos hk]; exact h5 k hk
    · rw [if_neg hk]
      simp [List.getElem?_drop, show hp.size + (k - hp.size) = k by omega]
  · omega
end Go.Proofs.Ytjkjgfgblfioeaa
