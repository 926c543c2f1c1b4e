/- The layer's awake: a history of two, one value pushed, back and forth. No condition. -/
import Derived.Test.YtmckmebkoiglfaaPastI
namespace Go.Proofs.Ytmckmebkoiglfaa
open Go.ChangeShapes Go.WideShapes Go.ChangeAt Go.RowKit
theorem bl_low {W w w' : World} (h : Below W.heap.size W w) (g : Below W.heap.size w w') : Below W.heap.size W w' := h.trans g
set_option maxRecDepth 100000 in
set_option maxHeartbeats 4000000 in
theorem awake29_any (w : World) :
    Calls Try.prog 7 #[] w fun e w' => e = .returned (.bool true) ∧ Below w.heap.size w w' := by
  go_enter Try.func7, Try.ntmps7
  go_wp2_with fail
  refine (newI_any 2 _ (by omega) (by omega)).mono ?_
  rintro e w1 ⟨rfl, hb1, hs1, hp1⟩
  have s1 : w.heap.size ≤ w1.heap.size := hb1.size
  go_wp2_with fail
  refine (pushI_any _ w.heap.size 2 [] [] 1 _ hp1 s1 (by simp)).mono ?_
  rintro e w2 ⟨rfl, hb2, hp2⟩
  have hp2' : PastI w2 w.heap.size w.heap.size 2 [1] [] := hp2
  have B2 := bl_low hb1 hb2
  have s2 : w.heap.size ≤ w2.heap.size := B2.size
  clear hp1 hp2 hb1 hb2
  go_wp2_with fail
  refine (backI_any _ w.heap.size 2 0 [] [] 1 2 _ hp2' rfl s2 (by omega) (by simp)).mono ?_
  rintro e w3 ⟨rfl, hb3, hp3⟩
  have B3 := bl_low B2 hb3
  have s3 : w.heap.size ≤ w3.heap.size := B3.size
  clear hp2' B2 hb3
  go_wp2_with fail
  refine (forthI_any _ w.heap.size 2 0 [] [] 2 1 _ hp3 rfl s3 (by omega) (by simp)).mono ?_
  rintro e w4 ⟨rfl, hb4, hp4⟩
  have B4 := bl_low B3 hb4
  clear hp3 B3 hb4
  go_wp2_with fail
  refine (forthI_none _ w.heap.size 2 [1] 9 _ hp4).mono ?_
  rintro e w5 ⟨rfl, hb5, hp5⟩
  have B5 := bl_low B4 hb5
  clear hp4 B4 hb5
  go_wp2
  go_ret
  exact ⟨rfl, B5⟩
end Go.Proofs.Ytmckmebkoiglfaa
