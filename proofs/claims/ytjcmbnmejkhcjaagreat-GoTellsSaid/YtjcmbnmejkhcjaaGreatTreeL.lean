/- How far a text's beginning reaches under a count: over texts beside one another (plain mathematics of a rope's Upto). -/
import Derived.Test.YtjcmbnmejkhcjaaGreatTalB
namespace Go.Proofs.YtjcmbnmejkhcjaaGreat
theorem cnt_cons (way : Int) (c : UInt8) (r : List UInt8) : cnt way (c :: r) = cnt way [c] + cnt way r := by
  rw [← cnt_app]; rfl
theorem upL_cons (way : Int) (c : UInt8) (r : List UInt8) (m : Int) : upL way (c :: r) m = if m - cnt way [c] < 0 then 0 else 1 + upL way r (m - cnt way [c]) := rfl
theorem upL_app (way : Int) (L Y : List UInt8) : ∀ m : Int, 0 ≤ m → upL way (L ++ Y) m = if m < cnt way L then upL way L m else L.length + upL way Y (m - cnt way L) := by
  induction L with
  | nil =>
    intro m hm
    rw [cnt_nil, if_neg (by omega)]
    simp
  | cons c r ih =>
    intro m hm
    have h0 := cnt_bd way r
    rw [cnt_cons, List.cons_append, upL_cons, upL_cons]
    by_cases h1 : m - cnt way [c] < 0
    · rw [if_pos h1, if_pos h1, if_pos (by omega)]
    · rw [if_neg h1, if_neg h1, ih _ (by omega)]
      by_cases h2 : m < cnt way [c] + cnt way r
      · rw [if_pos h2, if_pos (by omega)]
      · rw [if_neg h2, if_neg (by omega), show m - (cnt way [c] + cnt way r) = m - cnt way [c] - cnt way r by omega, List.length_cons]
        omega
theorem upL_all (way : Int) (l : List UInt8) (m : Int) (h : cnt way l ≤ m) : upL way l m = l.length := by
  have h0 := cnt_bd way l
  have h1 := upL_app way l [] m (by omega)
  rw [List.append_nil, if_neg (by omega)] at h1
  rw [h1]
  simp [upL]
theorem upL_lo (way : Int) (L Y : List UInt8) (m : Int) (hm : 0 ≤ m) (h : m < cnt way L) : upL way (L ++ Y) m = upL way L m := by
  rw [upL_app _ _ _ _ hm, if_pos h]
theorem upL_hi (way : Int) (L Y : List UInt8) (m : Int) (h : cnt way L ≤ m) : upL way (L ++ Y) m = L.length + upL way Y (m - cnt way L) := by
  have h0 := cnt_bd way L
  rw [upL_app _ _ _ _ (by omega), if_neg (by omega)]
end Go.Proofs.YtjcmbnmejkhcjaaGreat
