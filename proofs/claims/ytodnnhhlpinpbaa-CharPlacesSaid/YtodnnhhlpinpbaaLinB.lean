/- The reference's answers on lines: where they begin and end, offsets, places, indentation. Condition: a text that is not too long. -/
import Derived.Test.YtodnnhhlpinpbaaLinA
import Derived.Test.YtodnnhhlpinpbaaTalC
import Derived.Test.YtodnnhhlpinpbaaOwn
namespace Go.Proofs.Ytodnnhhlpinpbaa
open Go.ChangeShapes Go.WideShapes Go.ChangeAt Go.RowKit
set_option maxRecDepth 100000
set_option linter.unusedVariables false
def natV (ps : List Nat) : List Value := ps.map fun (p : Nat) => .int .i64 (p : Int)
def StInv (x : ByteArray) (w : World) (v i : Value) (wr : World) : Prop :=
  ∃ (k : Nat) (ps : List Nat), i = .int .i64 k ∧ k ≤ x.size ∧ ps.length ≤ k + 1 ∧ Hid (stL (x.data.toList.take k) = ps) ∧ wr.ownsRow w.heap.size 3 1 v ps.length (natV ps) ∧ Below w.heap.size w wr
def StPost (L : List UInt8) (w : World) (e : Ending) (w' : World) : Prop :=
  ∃ (g c n : Nat), e = .returned (.slice (some ⟨g, 0, none⟩) n c) ∧ (n : Int) = nBrk L + 1 ∧ n ≤ c ∧ c ≤ maxLen ∧ g < w'.heap.size ∧ (∀ j : Nat, j < n → w'.cell? ⟨g, j, none⟩ = some (.int .i64 (lnS L j))) ∧ Below w.heap.size w w'
theorem info_i4 : ∃ i, Try.prog.info? 3 = some i ∧ i.zero = some (.int .i64 0) ∧ i.size = 1 ∧ i.bytes = 8 := ⟨_, rfl, by kernel_rfl, by kernel_rfl, by kernel_rfl⟩
theorem st_post {L : List UInt8} {w w' : World} {v : Value} (h : w'.ownsRow w.heap.size 3 1 v (stL L).length (natV (stL L))) (hb : Below w.heap.size w w') : StPost L w (.returned v) w' := by
  have hl := stL_len L
  have h0 := nBrk_le L
  rcases own_form h with ⟨_, h1, _⟩ | ⟨g, c, rfl, _, h2, h3, h4, h5⟩
  · omega
  · refine ⟨g, c, _, rfl, hl, h3, h4, h2, fun j hj => ?_, hb⟩
    refine h5 j _ ?_
    unfold natV
    rw [List.getElem?_map, List.getElem?_eq_getElem hj, stL_get]
    rfl
theorem lnC_cases (L : List UInt8) (i : Int) : (lnC L i = 0 ∧ 0 ≤ i ∧ i ≤ nBrk L) ∨ (lnC L i = 3 ∧ (i < 0 ∨ nBrk L < i)) := by
  unfold lnC
  by_cases h : 0 ≤ i ∧ i ≤ nBrk L
  · rw [if_pos h]; exact .inl ⟨rfl, h⟩
  · rw [if_neg h]; exact .inr ⟨rfl, by omega⟩
def lnSv (L : List UInt8) (i : Int) : Int := if lnC L i = 0 then (lnS L i : Int) else 0
def lnEv (L : List UInt8) (i : Int) : Int := if lnC L i = 0 then (lnE L i : Int) else 0
theorem lnSv_in {L : List UInt8} {i : Int} (h : lnC L i = 0) : lnSv L i = (lnS L i : Int) := if_pos h
theorem lnEv_in {L : List UInt8} {i : Int} (h : lnC L i = 0) : lnEv L i = (lnE L i : Int) := if_pos h
theorem lnSv_no {L : List UInt8} {i : Int} (h : lnC L i = 3) : lnSv L i = 0 := if_neg (by rw [h]; decide)
theorem lnEv_no {L : List UInt8} {i : Int} (h : lnC L i = 3) : lnEv L i = 0 := if_neg (by rw [h]; decide)
end Go.Proofs.Ytodnnhhlpinpbaa
