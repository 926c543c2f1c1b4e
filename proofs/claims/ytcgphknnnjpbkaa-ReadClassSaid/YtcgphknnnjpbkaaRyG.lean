/- Contracts: gimletref13.May; awake of layer 13. Condition: a tree that is not too big. -/
import Derived.Test.YtcgphknnnjpbkaaRyF
namespace Go.Proofs.Ytcgphknnnjpbkaa
open Go.ChangeShapes Go.WideShapes Go.ChangeAt Go.RowKit
open SetM
attribute [local go_sem ↓] Go.wp_at_zero Go.wp_at_succ
set_option maxRecDepth 100000
set_option linter.unusedVariables false
mutual
  theorem sM_er : ∀ t, sM (er t) = sM t
    | .mk _ _ _ _ _ _ _ _ _ l => by rw [er, sM, sM, sL_er l]
  theorem sL_er : ∀ l, sL (erL l) = sL l
    | [] => by rw [erL]
    | t :: l => by rw [erL, sL, sL, sM_er t, sL_er l]
end
theorem seqk_map (p : Int → Bool) (l : List Rt) : (l.map er).all (fun t => p t.k) = l.all (fun t => p t.k) := by
  rw [List.all_map]
  congr 1
  funext t
  rw [Function.comp, er_eq]
  rfl
theorem mkB_er (k : Int) (l : List Rt) : mkB k (l.map er) = mkB k l := by
  unfold mkB
  rw [List.length_map, seqk_map seqkB, seqk_map altkB, seqk_map atomB]
mutual
  theorem okM_er : ∀ t, okM (er t) = okM t
    | .mk _ _ _ _ _ _ _ _ _ l => by rw [er, okM, okM, okL_er l, erL_map, mkB_er]
  theorem okL_er : ∀ l, okL (erL l) = okL l
    | [] => by rw [erL]
    | t :: l => by rw [erL, okL, okL, okM_er t, okL_er l]
end
theorem cnB_er {a b : Rt} (h : er a = b) (g L : Int) : cnB a g L = cnB b g L := by
  unfold cnB
  rw [← h, pM_er, dM_er, okM_er]
/-- One character. -/
def lfR (c : ByteArray) : Rt := .mk 2 c false (.slice none 0 0) [] 0 0 false (.slice none 0 0) []
theorem lf_rx (w : World) (c : ByteArray) : RxAt w (lfR c) := .mk _ (.inl ⟨rfl, rfl⟩) (.inl ⟨rfl, rfl⟩) (fun i hi => by simp [lfR, Rt.kids] at hi)
theorem er_lf (c : ByteArray) : er (lfR c) = lfR c := by rw [er_eq]; rfl
/-- A literal list of trees. -/
theorem ks_lit {w : World} {l : List Rt} {n : Nat} (hn : l.length = n) (h1 : n ≤ 1000) (arr : Array Value) (ha : arr.toList = flatX l) : KsAt (w.alloc (.cells arr 26)) (.slice (some ⟨w.heap.size, 0, none⟩) n n) l := by
  refine .inr ⟨⟨w.heap.size, 0, none⟩, n, by rw [hn], by omega, by unfold maxLen; omega, fun i hi j u hu => ?_⟩
  exact cells_lit w arr _ _ u (by rw [ha]; exact flatX_at l i hi j u hu)
end Go.Proofs.Ytcgphknnnjpbkaa
