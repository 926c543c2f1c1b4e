/- A region that draws its order, whose operations only read and whose calls may make memory of their own: one walk in the order of the text. -/
import Derived.Test.YtcgphknnnjpbkaaBase
import Derived.Deep.QuietTactic
import Derived.BigQuiet
import Derived.Deep.RegionWith
namespace Go.Proofs.Ytcgphknnnjpbkaa
open Go.ChangeShapes Go.WideShapes Go.ChangeAt Go.RowKit

/-- A world that is W with at most new blocks and draws. -/
structure Later (W : World) where
  now : World
  below : Below W.heap.size W now
theorem later_cell {W : World} (u : Later W) (b o : Nat) (h : b < W.heap.size) : u.now.cell? ⟨b, o, none⟩ = W.cell? ⟨b, o, none⟩ := u.below.cell (p := ⟨b, o, none⟩) h
theorem later_frozen {W : World} (u : Later W) (b o : Nat) (h : b < W.heap.size) : u.now.frozen? ⟨b, o, none⟩ = W.frozen? ⟨b, o, none⟩ := u.below.frozen (p := ⟨b, o, none⟩) h
theorem later_heap {W : World} (u : Later W) (b : Nat) (h : b < W.heap.size) : u.now.heap[b]? = W.heap[b]? := u.below.block b h
theorem later_call {P : Program} {f : FuncId} {args : Array Value} {W : World} {u : Later W} {v : Value}
    (h : Calls P f args u.now fun e w' => e = .returned v ∧ Below u.now.heap.size u.now w') : Calls P f args u.now fun e w'' => e = .returned v ∧ ∃ u' : Later W, w'' = u'.now :=
  h.mono fun _ w' ⟨he, hb⟩ => ⟨he, ⟨w', bl_trans u.below hb⟩, rfl⟩
theorem later_call_same {P : Program} {f : FuncId} {args : Array Value} {W : World} {u : Later W} {v : Value}
    (h : Calls P f args u.now fun e w' => e = .returned v ∧ u.now = w') : Calls P f args u.now fun e w'' => e = .returned v ∧ ∃ u' : Later W, w'' = u'.now :=
  h.mono fun _ _ ⟨he, hb⟩ => ⟨he, u, hb.symm⟩
theorem wp_region_later {P : Program} {id : Nat} {Q : Exit → Act → World → Prop} {a : Act} {w : World} {l : List Oper} (hm : P.follows .mixedOrders = true) (hB : Region.lexB .any l.toArray = true)
    (h : wpQuiet P l.toArray (fun w' => ∃ u : Later w, w' = u.now) (fun a' => ∀ w', (∃ u : Later w, w' = u.now) → Q .normal a' w') l a) : (Code.region id l.toArray true).wp P Q a w :=
  wp_region_quiet (C := fun w' => ∃ u : Later w, w' = u.now) hm hB ⟨⟨_, bl_drew (bl_refl w)⟩, rfl⟩ (by simpa using h)
end Go.Proofs.Ytcgphknnnjpbkaa
