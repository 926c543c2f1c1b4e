/- Rows of bytes that a call makes: two beside one another; a row as a text. No condition. -/
import Derived.Test.YtbphckblbbbakaaDoorFmY
namespace Go.Proofs.YtbphckblbbbakaaDoor
open Go.ChangeShapes Go.WideShapes Go.ChangeAt Go.RowKit
theorem own_conv {w : World} {base : Nat} {v : Value} {l : List UInt8} (h : w.ownsRow base 5 1 v l.length (Lib.byteCells l)) : (convert 43 9 v).run Tryd.prog w = .ok (.string (mkB l)) w := by
  rcases own_form h with ⟨rfl, h0, _⟩ | ⟨g, c, rfl, hg1, hg2, hg3, hg4, hg5⟩
  · have hC : l = [] := List.eq_nil_of_length_eq_zero h0
    subst hC
    rw [Go.run_convert_bytes_string w 43 9 5 none 0 0 Tryd.underlying43 Tryd.underlying5 Tryd.underlying9]; rfl
  · exact Go.run_convert_bytes_back w 43 9 5 ⟨g, 0, none⟩ c l Tryd.underlying43 Tryd.underlying5 Tryd.underlying9 (fun j hj => by
      rw [addr_add, Nat.zero_add]
      exact hg5 j _ (by simp [Lib.byteCells, hj]))
/-- Two rows of bytes beside one another. -/
structure Two (w : World) (base : Nat) (vb vc : Value) (X Y : List UInt8) : Prop where
  one : w.ownsRow base 5 1 vb X.length (Lib.byteCells X)
  two : w.ownsRow base 5 1 vc Y.length (Lib.byteCells Y)
  dis : ∀ n, vb.ownBlock = some n → vc.ownBlock ≠ some n
theorem two_new (w : World) (base : Nat) : Two w base (.slice none 0 0) (.slice none 0 0) [] [] := ⟨World.ownsRow_nil _ _ _ _, World.ownsRow_nil _ _ _ _, fun n h => by cases h⟩
theorem Two.bl {w w' : World} {base : Nat} {vb vc : Value} {X Y : List UInt8} (h : Two w base vb vc X Y) (hb : Below w.heap.size w w') : Two w' base vb vc X Y := ⟨own_below h.one hb, own_below h.two hb, h.dis⟩
theorem Two.pushB {w w' : World} {base : Nat} {vb vc vb' : Value} {X Y : List UInt8} (c : UInt8) (h : Two w base vb vc X Y) (hg : w.grownBy w' vb.ownBlock) (ho : w'.ownsRow base 5 1 vb' (X.length + 1) (Lib.byteCells X ++ [.int .u8 (c.toNat : Int)])) (ha : vb'.ownBlock = vb.ownBlock ∨ ∃ n, vb'.ownBlock = some n ∧ w.heap.size ≤ n) : Two w' base vb' vc (X ++ [c]) Y := by
  refine ⟨by rw [List.length_append, byteCells_one]; exact ho, h.two.kept hg ?_, fun n hn => ?_⟩
  · rcases hv : vc.ownBlock with _ | m
    · exact .inl rfl
    · exact .inr (fun e => h.dis m e.symm hv)
  · rcases ha with ha | ⟨m, ha, hm⟩
    · exact h.dis n (ha ▸ hn)
    · intro e
      have := (h.two.lt n e).2
      rw [ha] at hn
      injection hn with hn
      omega
theorem Two.pushC {w w' : World} {base : Nat} {vb vc vc' : Value} {X Y : List UInt8} (c : UInt8) (h : Two w base vb vc X Y) (hg : w.grownBy w' vc.ownBlock) (ho : w'.ownsRow base 5 1 vc' (Y.length + 1) (Lib.byteCells Y ++ [.int .u8 (c.toNat : Int)])) (ha : vc'.ownBlock = vc.ownBlock ∨ ∃ n, vc'.ownBlock = some n ∧ w.heap.size ≤ n) : Two w' base vb vc' X (Y ++ [c]) := by
  refine ⟨h.one.kept hg ?_, by rw [List.length_append, byteCells_one]; exact ho, fun n hn => ?_⟩
  · rcases hv : vb.ownBlock with _ | m
    · exact .inl rfl
    · exact .inr (fun e => h.dis m hv e.symm)
  · rcases ha with ha | ⟨m, ha, hm⟩
    · rw [ha]; exact h.dis n hn
    · rw [ha]
      have := (h.one.lt n hn).2
      intro e
      injection e with e
      omega
end Go.Proofs.YtbphckblbbbakaaDoor
