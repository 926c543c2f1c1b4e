/- Contracts: deep.SameRx, rxtree.Same. No condition. -/
import Derived.Test.YtmacpmblodhcpaaDoorRxQ
namespace Go.Proofs.YtmacpmblodhcpaaDoor
open Go.ChangeShapes Go.WideShapes Go.ChangeAt Go.RowKit
open SetM
attribute [local go_sem ↓] Go.wp_at_zero Go.wp_at_succ
set_option maxRecDepth 100000
set_option linter.unusedVariables false
set_option linter.unusedSimpArgs false
theorem tleq (a b : ByteArray) (r : Bool) (h : decide (a = b) = r) : (a.toList == b.toList) = r := by
  rw [← h]; by_cases e : a = b <;> simp [e, tl_iff]
theorem bleq (a b : Bool) (r : Bool) (h : decide (a = b) = r) : (a == b) = r := by
  rw [← h]; cases a <;> cases b <;> rfl
theorem ileq (a b : Int) (r : Bool) (h : decide (a = b) = r) : (a == b) = r := by
  rw [← h]; by_cases e : a = b <;> simp [e]
theorem cells_lit2 (w0 : World) (arr : Array Value) (e : TypeId) (j : Nat) (u : Value) (hu : arr.toList[j]? = some u) {n : Nat} (hn : w0.heap.size = n) : (w0.alloc (.cells arr e)).cell? ((⟨n, 0, none⟩ : Addr).add j) = some u := by
  subst hn; exact cells_lit w0 arr e j u hu
end Go.Proofs.YtmacpmblodhcpaaDoor
