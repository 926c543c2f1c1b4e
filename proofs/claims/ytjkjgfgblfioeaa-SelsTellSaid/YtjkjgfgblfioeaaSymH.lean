/- Contract: two sorted parts of a row merged, as the library's stable sort does: by induction on their length. Condition: neither is empty. -/
import Derived.Test.YtjkjgfgblfioeaaSymF
import Derived.Test.YtjkjgfgblfioeaaSymG
namespace Go.Proofs.Ytjkjgfgblfioeaa
open Go.ChangeShapes Go.WideShapes Go.ChangeAt Go.RowKit
open SpanM SelM
theorem sym_ok (g c base n : Nat) (hl : n ≤ 1000) : ∀ K, SymOK g c base n K := by
  intro K
  induction K with
  | zero => intro P A B S a m b w h; omega
  | succ K ih =>
    intro P A B S a m b w hK hA hB tA tB hAB h hn ha hm hb
    by_cases hA1 : A.length = 1
    · obtain ⟨x, rfl⟩ : ∃ x, A = [x] := by
        cases A with
        | nil => simp at hA1
        | cons x r => cases r with
          | nil => exact ⟨x, rfl⟩
          | cons y r => simp at hA1
      exact symA_any g c base n P B S x a m b w h (by simpa using hn) hl hB tB hAB ha (by simpa using hm) (by simpa using hb)
    · by_cases hB1 : B.length = 1
      · obtain ⟨y, rfl⟩ : ∃ y, B = [y] := by
          cases B with
          | nil => simp at hB1
          | cons x r => cases r with
            | nil => exact ⟨x, rfl⟩
            | cons y r => simp at hB1
        exact symB_any g c base n P A S y a m b w h (by simpa using hn) hl (by omega) tA hAB ha hm (by simpa using hb)
      · have hI : SymOK g c base n (A.length + B.length) := fun P' A' B' S' a' m' b' w' h' => ih P' A' B' S' a' m' b' w' (by omega)
        rcases Nat.lt_or_ge ((a + b) / 2) m with hm' | hm'
        · exact symG_any g c base n P A B S a m b w hI (by omega) (by omega) tA tB hAB h hn hl ha hm hb hm'
        · exact symF_any g c base n P A B S a m b w hI (by omega) (by omega) tA tB hAB h hn hl ha hm hb hm'
end Go.Proofs.Ytjkjgfgblfioeaa
