/- The awake of the rope's laws. -/
import Derived.Test.YtidfpnedbcaicaaRopeD
import Derived.Test.YtidfpnedbcaicaaLater
namespace Go.Proofs.Ytidfpnedbcaicaa
open Go.ChangeShapes Go.WideShapes Go.ChangeAt Go.RowKit
open Go.Shelf

set_option maxRecDepth 100000
theorem aw_x : (⟨#[97, 98]⟩ : ByteArray) ++ ⟨#[99, 100]⟩ = ⟨#[97, 98, 99, 100]⟩ := by decide
theorem aw_y : (⟨#[97, 98, 99, 100]⟩ : ByteArray).extract 1 3 = ⟨#[98, 99]⟩ := by decide
set_option maxHeartbeats 4000000 in
theorem awake3_any (w : World) :
    Calls Try.prog 15 #[] w fun e w' => e = .returned (.bool true) ∧ Below w.heap.size w w' := by
  go_enter Try.func15, Try.ntmps15
  go_wp2_with fail
  have hcj : ∀ j, j < 1 → (w.alloc (Obj.cells #[Value.int IntKind.u32 5] 54)).cell? ((⟨w.heap.size, 0, none⟩ : Addr).add j) = some (.int .u32 (([5] : List Int).getD j 0)) := by
    intro j hj
    obtain rfl : j = 0 := by omega
    exact cells_lit w #[.int .u32 5] _ 0 _ rfl
  refine (dnew_some _ ⟨w.heap.size, 0, none⟩ 1 1 [5] rfl (by omega) (by simp) hcj).mono ?_
  rintro e w1 ⟨d, g, rfl, hd0, hg0, hd1, hg1, hd, hb1⟩
  have hs0 : (w.alloc (Obj.cells #[Value.int IntKind.u32 5] 54)).heap.size = w.heap.size + 1 := by simp
  have hbw := bl_trans (bl_alloc (bl_refl w) (Obj.cells #[Value.int IntKind.u32 5] 54)) hb1
  have HD := hide hd
  clear hd
  go_wp2_with fail
  have q0 := cells_lit w1 #[.string ⟨#[97, 98]⟩, .string ⟨#[99, 100]⟩] 9 0 _ rfl
  have q1 := cells_lit w1 #[.string ⟨#[97, 98]⟩, .string ⟨#[99, 100]⟩] 9 1 _ rfl
  have hb2 := bl_alloc (bl_refl w1) (Obj.cells #[.string ⟨#[97, 98]⟩, .string ⟨#[99, 100]⟩] 9)
  have hsz := hb2.size
  refine (rnew_two _ w1.heap.size d g [5] 0 ⟨#[97, 98]⟩ ⟨#[99, 100]⟩ 2 (by omega) (by decide) (by decide) (by decide) q0 q1 (HD.out.kept (hb2.block d hd1) (hb2.block g hg1)) (by omega) (by omega)).mono ?_
  rintro e w2 ⟨r, n, rfl, ho, hgw⟩
  rw [aw_x] at ho
  have hb3 : Below w.heap.size w w2 := bl_grown (bl_trans hbw hb2) hgw (fun k hk => by have := Option.some.inj hk; omega)
  have HO := hide ho
  clear ho q0 q1
  go_wp2_with fail
  have HS : Calls Try.prog 25 #[.pointer (some ⟨r, 0, none⟩), .int .i64 1, .int .i64 3] w2 fun e w' => e = .returned (.tuple #[.string ⟨#[98, 99]⟩, .int .i64 0]) ∧ Below w2.heap.size w2 w' := by
    have := rslice_one w2 r n _ _ 1 3 HO.out (by decide) (by decide) (by decide)
    rw [aw_y] at this
    exact this
  refine HS.mono ?_
  rintro e w3 ⟨rfl, hb4⟩
  have HO3 := hide (HO.out.later hb4)
  clear HS
  go_wp2_with fail
  refine (rlen_at r n 4 w3 HO3.out.2.2.1 HO3.out.cells.1).mono ?_
  rintro e w4 ⟨rfl, rfl⟩
  go_wp2_with fail
  refine (rtext_one w3 r n _ _ HO3.out (by decide) (by decide)).mono ?_
  rintro e w4 ⟨rfl, hb5⟩
  have HO4 := hide (HO3.out.later hb5)
  go_wp2_with fail
  refine (rpieces_one w4 r n _ _ HO4.out).mono ?_
  rintro e w5 ⟨A, c, rfl, hb6⟩
  go_wp2
  go_ret
  exact ⟨rfl, bl_trans (bl_trans (bl_trans hb3 hb4) hb5) hb6⟩
end Go.Proofs.Ytidfpnedbcaicaa
