/- Arguments that are trees, or slices of them: what a walk is told. No condition. -/
import Derived.Test.YtmacpmblodhcpaaDoorRxT
namespace Go.Proofs.YtmacpmblodhcpaaDoor
open Go.ChangeShapes Go.WideShapes Go.ChangeAt Go.RowKit Go.Deep Go.Joins
open SetM
section
variable {H : Type} {enc : TypeId × Value → H} {W : World} {base : Nat} {held : Bool}
set_option maxRecDepth 100000 in
theorem open_rx {r : Reach} {b0 : Nat} {v : Value} {d : DataW H} {p : List MemPlace} (hv : Value.okWide Tryd.prog W r b0 25 v) (h : DataW.Trod enc Tryd.prog W base (fun _ => true) held 25 v d p) :
    ∃ t : Rt, v = t.v ∧ RxAt W t ∧ WfX t := by
  obtain ⟨cs, rfl, hsz⟩ := okWide_struct Tryd.underlying25 hv
  obtain ⟨fuel, hf⟩ := h
  obtain ⟨t, ht, ha, hw⟩ := open_cells fuel _ _ hf
  refine ⟨t, ?_, ha, hw⟩
  unfold Rt.v
  rw [ht]
  simp [Value.cells]
set_option maxRecDepth 100000 in
theorem open_rxs {r : Reach} {b0 : Nat} {v : Value} {d : DataW H} {p : List MemPlace} (hv : Value.okWide Tryd.prog W r b0 23 v) (h : DataW.Trod enc Tryd.prog W base (fun _ => true) held 23 v d p) :
    ∃ l : List Rt, KsAt W v l ∧ (∀ i (h : i < l.length), RxAt W l[i]) ∧ ∀ x ∈ l, WfX x := by
  obtain ⟨a, len, cap, rfl⟩ := okWide_slice Tryd.underlying23 hv
  obtain ⟨fuel, hf⟩ := h
  have hC : Tryd.prog.cellsOf 25 = 8 := by kernel_rfl
  rcases DataW.trod_slice Tryd.underlying23 hf with ⟨hcs, _⟩ | ⟨x, l, c, elems, rest, m, hn, hcs, _, _, hl, hm, hel, hx, _⟩
  · simp [Value.cells] at hcs
    obtain ⟨rfl, rfl, rfl⟩ := hcs
    exact ⟨[], .inl ⟨rfl, rfl⟩, fun i hi => by simp at hi, fun x hx => by cases hx⟩
  · simp [Value.cells] at hcs
    obtain ⟨rfl, rfl, rfl⟩ := hcs
    have hex : ∀ i, i < len → ∃ t : Rt, (∀ j u, t.cs[j]? = some u → W.cell? (x.add (i * 8 + j)) = some u) ∧ RxAt W t ∧ WfX t := by
      intro i hi
      have hxi := hx i hi
      rw [hC, List.getElem?_eq_getElem (by omega)] at hxi
      obtain ⟨cs', h1, h2⟩ := Option.bind_eq_some_iff.1 hxi
      obtain ⟨t, ht, ha, hw⟩ := open_cells m cs' _ h2
      refine ⟨t, fun j u hu => ?_, ha, hw⟩
      rw [ht] at hu
      obtain ⟨_, hlen, hcell⟩ := World.cells?_some h1
      have hj : j < cs'.length := (List.getElem?_eq_some_iff.1 hu).1
      have := hcell j (by omega)
      rw [add_add] at this
      rw [← hu]
      exact this
    obtain ⟨q, hq⟩ := choose_lt hex
    refine ⟨(List.range len).map q, .inr ⟨x, cap, by simp, by simpa using hl, hm, fun i hi j u hu => ?_⟩, fun i hi => ?_, fun x hx => ?_⟩
    · simp at hi
      simp only [List.getElem_map, List.getElem_range] at hu
      exact (hq i hi).1 j u hu
    · simp at hi
      simp only [List.getElem_map, List.getElem_range]
      exact (hq i hi).2.1
    · simp at hx
      obtain ⟨i, hi, rfl⟩ := hx
      exact (hq i hi).2.2
end
end Go.Proofs.YtmacpmblodhcpaaDoor
