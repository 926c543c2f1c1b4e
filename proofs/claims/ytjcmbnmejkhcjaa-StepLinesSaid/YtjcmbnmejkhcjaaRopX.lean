/- Ropes at the laws: what is refused; pieces compared. -/
import Derived.Test.YtjcmbnmejkhcjaaRopW
import Derived.LaidEqlPtr
namespace Go.Proofs.Ytjcmbnmejkhcjaa
open Go.ChangeShapes Go.WideShapes Go.ChangeAt Go.RowKit
attribute [local go_sem ↓] Go.wp_at_zero Go.wp_at_succ
set_option maxRecDepth 100000
theorem count_no {w : World} {r d : Nat} {t : T} (hc : RpC w r d t) (ht : t.At w) (k : Int) (hx : k < 0 ∨ (t.text.length : Int) < k) :
    Calls Try.prog 34 #[.pointer (some ⟨r, 0, none⟩), .int .i64 k] w fun e w' => e = .returned (.tuple #[.agg #[.int .i64 0, .int .i64 0, .int .i64 0, .int .i64 0], .int .i64 3]) ∧ Below w.heap.size w w' := by
  have hm : mayR 0 k t.text.length = 3 := by unfold mayR; rw [if_pos (by omega)]
  have HM := hide (fun W (hb : Below w.heap.size w W) => (hm ▸ may_r (rp_bl hc hb) (ht.later t hb) 0 k : Calls Try.prog 60 #[.pointer (some ⟨r, 0, none⟩), .int .i64 0, .int .i64 k] W fun e w' => e = .returned (.int .i64 3) ∧ W = w'))
  clear hc ht hx hm
  go_enter Try.func34, Try.ntmps34
  go_wp2_with fail
  refine (HM.out _ (bl_alloc (bl_refl _) _)).mono ?_
  rintro e w1 ⟨rfl, rfl⟩
  go_wp2
  refine bodyPost_ret (v := .tuple #[.agg #[.int .i64 0, .int .i64 0, .int .i64 0, .int .i64 0], .int .i64 3]) (by simp [results, Try.results34, go_sem]) rfl ⟨rfl, ?_⟩
  first
  | exact bl_alloc (bl_refl _) _
  | exact bl_set (bl_alloc (bl_refl _) _) (Nat.le_refl _) _
  | exact (by repeat (first | exact bl_refl _ | assumption | refine bl_alloc ?_ _ | refine bl_drewN ?_ _ | refine bl_drew ?_ | refine bl_trans ?_ (by assumption)))
end Go.Proofs.Ytjcmbnmejkhcjaa
