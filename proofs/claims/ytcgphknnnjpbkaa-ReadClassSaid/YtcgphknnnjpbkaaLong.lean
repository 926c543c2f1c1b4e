/- Contract of gimletlaw0.Long: do texts have more than n bytes together, one for each of them too? -/
import Derived.Test.YtcgphknnnjpbkaaRows
import Derived.Test.YtcgphknnnjpbkaaArgs
namespace Go.Proofs.Ytcgphknnnjpbkaa
open Go.ChangeShapes Go.WideShapes Go.ChangeAt Go.RowKit

def longL : Int → List ByteArray → Bool
  | _, [] => false
  | n, s :: r => if n ≤ s.size then true else longL (n - s.size - 1) r
def tot : List ByteArray → Nat
  | [] => 0
  | s :: r => s.size + tot r
theorem tot_le : ∀ (l : List ByteArray) (n : Int), 0 ≤ n → longL n l = false → (tot l : Int) ≤ n
  | [], n, h0, _ => by simpa [tot] using h0
  | s :: r, n, h0, h => by
    unfold longL at h
    by_cases hc : n ≤ s.size
    · rw [if_pos hc] at h; cases h
    · rw [if_neg hc] at h
      have := tot_le r (n - s.size - 1) (by omega) h
      unfold tot; omega
theorem long_end (z : List ByteArray) (n : Int) : longL n (z.drop z.length) = false := by rw [List.drop_of_length_le (Nat.le_refl _)]; rfl
theorem long_yes (z : List ByteArray) (n : Int) (k : Nat) (h : k < z.length) (hc : n ≤ (z.getD k ByteArray.empty).size) : longL n (z.drop k) = true := by
  have e : z.getD k ByteArray.empty = z[k] := by simp [List.getD, h]
  rw [e] at hc
  rw [List.drop_eq_getElem_cons h, longL, if_pos hc]
theorem long_no (z : List ByteArray) (n : Int) (k : Nat) (h : k < z.length) (hc : ¬ n ≤ (z.getD k ByteArray.empty).size) : longL n (z.drop k) = longL (n - (z.getD k ByteArray.empty).size - 1) (z.drop (k + 1)) := by
  have e : z.getD k ByteArray.empty = z[k] := by simp [List.getD, h]
  rw [e] at hc ⊢
  rw [List.drop_eq_getElem_cons h, longL, if_neg hc]
end Go.Proofs.Ytcgphknnnjpbkaa
