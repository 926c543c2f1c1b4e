/- The layer's awake. -/
import Derived.Test.YtdlagabepilcfaaLead
namespace Go.Proofs.Ytdlagabepilcfaa
open Go.ChangeShapes Go.WideShapes Go.ChangeAt Go.RowKit
theorem adapte_any (s L U : ByteArray) (X : List UInt8) (w : World) (hs : s.size ≤ 1000000) (hL : L.size ≤ 100) (hU : U.size ≤ 100) (hX : adL L.data.toList (unL U.data.toList) s.data.toList false = X) :
    Calls Try.prog 11 #[.string s, .string L, .string U] w fun e w' => e = .returned (.string ⟨X.toArray⟩) ∧ Below w.heap.size w w' := by
  rw [← hX]; exact adapt_any s L U w hs hL hU
set_option maxRecDepth 100000 in
set_option maxHeartbeats 4000000 in
theorem awake24_any (w : World) :
    Calls Try.prog 9 #[] w fun e w' => e = .returned (.bool true) ∧ Below w.heap.size w w' := by
  go_enter Try.func9, Try.ntmps9
  go_wp2_with fail
  refine (adapte_any _ _ _ [97, 10, 32, 32, 46, 32, 98, 9, 99] _ (by decide) (by decide) (by decide) (by decide +kernel)).mono ?_
  rintro e w1 ⟨rfl, hb1⟩
  go_wp2
  refine wp_loop_rounds 3 ?_
  rw [rounds_succ]
  go_wp2
  go_ret
  exact ⟨rfl, (by repeat (first | exact bl_refl _ | assumption | refine bl_alloc ?_ _ | refine bl_drewN ?_ _ | refine bl_drew ?_ | refine bl_trans ?_ (by assumption)))⟩
theorem adaptx_any (s L U X : ByteArray) (w : World) (hs : s.size ≤ 1000000) (hL : L.size ≤ 100) (hU : U.size ≤ 100) (hX : (⟨(adL L.data.toList (unL U.data.toList) s.data.toList false).toArray⟩ : ByteArray) = X) :
    Calls Try.prog 11 #[.string s, .string L, .string U] w fun e w' => e = .returned (.string X) ∧ Below w.heap.size w w' := by
  rw [← hX]; exact adapt_any s L U w hs hL hU
end Go.Proofs.Ytdlagabepilcfaa
