/- Contract: the library's sort at rows. No condition but short slices. -/
import Derived.Test.YtmfaeonlmfejdaaRowD
import Derived.Test.YtmfaeonlmfejdaaRowS
import Derived.Test.YtmfaeonlmfejdaaLay
import Derived.Sort.LotA
namespace Go.Proofs.Ytmfaeonlmfejdaa
open Go.ChangeShapes Go.WideShapes Go.ChangeAt Go.RowKit
open SetM
section
open Go.Sort Go.Proofs
theorem cmpT_neg (x y : ByteArray) : decide (cmpT x y < 0) = bl x y := by
  unfold cmpT
  cases h : bl x y
  · cases g : bl y x <;> simp
  · simp
theorem cmpT_zero (x y : ByteArray) : (cmpT x y = 0) ↔ x = y := by
  unfold cmpT
  constructor
  · intro h
    cases h1 : bl x y
    · cases h2 : bl y x
      · exact bl_tri _ _ h1 h2
      · rw [h1, h2] at h; simp at h
    · rw [h1] at h; simp at h
  · rintro rfl; rw [bl_irr]; rfl
theorem cmpR_neg (a b : Rw) : decide (cmpR a b < 0) = less a b := by
  unfold cmpR less
  by_cases h : cmpT a.1 b.1 = 0
  · rw [if_pos h, cmpT_neg]
    rw [cmpT_zero] at h
    rw [h, bl_irr, (eqB_iff _ _).2 rfl]; rfl
  · rw [if_neg h, cmpT_neg]
    rw [cmpT_zero] at h
    have : eqB a.1 b.1 = false := by rw [eqB_d]; simp [h]
    rw [this]; simp
theorem ltOf_less : ltOf cmpR = less := by
  funext a b
  exact cmpR_neg a b
theorem swo_less : SWO less where
  irrefl a := less_irr a
  trans _ _ _ h1 h2 := less_trans h1 h2
  ntrans a b c h1 h2 := le_trans (a := c) (b := b) (c := a) h2 h1
end
section
open Go.Proofs
variable (fv : Value) (w : World)
end
end Go.Proofs.Ytmfaeonlmfejdaa
