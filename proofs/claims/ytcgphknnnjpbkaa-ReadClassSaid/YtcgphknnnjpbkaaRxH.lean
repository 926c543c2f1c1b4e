/- Trees alike but for where their lists lie are the same; their numbers of parts are. No condition. -/
import Derived.Test.YtcgphknnnjpbkaaRxB
namespace Go.Proofs.Ytcgphknnnjpbkaa
open Go.ChangeShapes Go.WideShapes Go.ChangeAt Go.RowKit
open SetM
set_option linter.unusedVariables false
mutual
  theorem sameM_erl : ∀ a b, sameM (er a) b = sameM a b
    | .mk k ch nt _ rows mi ma lz _ l, .mk k' ch' nt' _ rows' mi' ma' lz' _ l' => by rw [er, sameM, sameM, sameL_erl l l']
  theorem sameL_erl : ∀ l m, sameL (erL l) m = sameL l m
    | [], [] => rfl
    | a :: l, b :: m => by rw [erL, sameL, sameL, sameM_erl a b, sameL_erl l m]
    | [], _ :: _ => by rw [erL]
    | _ :: _, [] => by rw [erL, sameL, sameL]
end
theorem sameM_of {a b : Rt} (h : er a = er b) : sameM a b = true := by
  rw [← sameM_erl, h, sameM_erl]; exact sameM_refl b
mutual
  theorem pM_er : ∀ t, pM (er t) = pM t
    | .mk _ _ _ _ _ _ _ _ _ l => by rw [er, pM, pM, pL_er l]
  theorem pL_er : ∀ l, pL (erL l) = pL l
    | [] => by rw [erL]
    | t :: l => by rw [erL, pL, pL, pM_er t, pL_er l]
end
mutual
  theorem gM_er : ∀ t, gM (er t) = gM t
    | .mk _ _ _ _ _ _ _ _ _ l => by rw [er, gM, gM, gL_er l]
  theorem gL_er : ∀ l, gL (erL l) = gL l
    | [] => by rw [erL]
    | t :: l => by rw [erL, gL, gL, gM_er t, gL_er l]
end
mutual
  theorem dM_er : ∀ t, dM (er t) = dM t
    | .mk _ _ _ _ _ _ _ _ _ l => by rw [er, dM, dM, dL_er l]
  theorem dL_er : ∀ l, dL (erL l) = dL l
    | [] => by rw [erL]
    | t :: l => by rw [erL, dL, dL, dM_er t, dL_er l]
end
end Go.Proofs.Ytcgphknnnjpbkaa
