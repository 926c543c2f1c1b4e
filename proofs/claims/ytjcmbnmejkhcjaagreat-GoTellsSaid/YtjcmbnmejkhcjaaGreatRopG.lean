/- A rope in memory among trees of pieces: Insert, Delete, Cut, Join. Condition: texts that are not too long. -/
import Derived.Test.YtjcmbnmejkhcjaaGreatRopF
namespace Go.Proofs.YtjcmbnmejkhcjaaGreat
open Go.ChangeShapes Go.WideShapes Go.ChangeAt Go.RowKit
attribute [local go_sem ↓] Go.wp_at_zero Go.wp_at_succ
set_option maxRecDepth 100000
/-- What is reserved stays, but for the dice's cell and a rope. -/
def Keep2 (R : List Nat) (d r : Nat) (w w' : World) : Prop := ∀ k ∈ R, k ≠ d → k ≠ r → w'.heap[k]? = w.heap[k]?
theorem keep2_of {R : List Nat} {d : Nat} {w w' : World} (h : Keeps R d w w') (r : Nat) : Keep2 R d r w w' := fun k hk hn _ => h k hk hn
theorem keep2_set {R : List Nat} {d r : Nat} {w w' : World} (h : Keep2 R d r w w') (o : Nat) (u : Value) : Keep2 R d r w (w'.setCell ⟨r, o, none⟩ u) := fun k hk hn hr => (Below.heap_setCell w' _ _ k hr).trans (h k hk hn hr)
/-- A rope's cell is written: no tree lies there. -/
theorem Live.set {w0 : World} {S0 R : List Nat} {d g : Nat} {w : World} {ts : List T} (h : Live w0 S0 R d g w ts) {r : Nat} (hr : r ∈ R) (hrd : r ≠ d) (hrg : r ≠ g) (hs : r ∈ S0 ∨ w0.heap.size ≤ r) (o : Nat) (u : Value) : Live w0 S0 R d g (w.setCell ⟨r, o, none⟩ u) ts := by
  have hb : ∀ k, k ≠ r → (w.setCell ⟨r, o, none⟩ u).heap[k]? = w.heap[k]? := fun k hk => Below.heap_setCell w _ _ k hk
  have hsz : (w.setCell ⟨r, o, none⟩ u).heap.size = w.heap.size := by simp [World.setCell]
  refine ⟨?_, h.dR, h.gR, fun k hk => by rw [hsz]; exact h.hR k hk, fun t ht => ?_, h.nd, h.off, h.src, h.chg.set (hs.imp (fun h => List.mem_cons_of_mem _ h) id) o u⟩
  · obtain ⟨rest, last, hd⟩ := h.dice
    exact ⟨rest, last, hd.kept (hb d (Ne.symm hrd)) (hb g (Ne.symm hrg))⟩
  · obtain ⟨h1, h2⟩ := h.own t ht
    exact ⟨h1.kept t (fun k hk => hb k (by rintro rfl; exact h.off _ (bks_mem ht hk) hr)), h2⟩
/-- What is asked of a rope's block. -/
structure RpIn (w0 : World) (S0 R : List Nat) (d g r : Nat) : Prop where
  rR : r ∈ R
  rd : r ≠ d
  rg : r ≠ g
  src : r ∈ S0 ∨ w0.heap.size ≤ r
def RopePost (w0 : World) (S0 R : List Nat) (d g r : Nat) (ts : List T) (s : List UInt8) (w : World) (e : Ending) (w' : World) : Prop := ∃ t : T, e = .returned (.int .i64 0) ∧ t.text = s ∧ Live w0 S0 R d g w' (t :: ts) ∧ RpC w' r d t ∧ Keep2 R d r w w'
end Go.Proofs.YtjcmbnmejkhcjaaGreat
