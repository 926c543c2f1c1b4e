/- A rope's pieces, with their depths. Condition: a text that is not too long. -/
import Derived.Test.YtjcmbnmejkhcjaaRopI
import Derived.Deep.AppendLies
namespace Go.Proofs.Ytjcmbnmejkhcjaa
open Go.ChangeShapes Go.WideShapes Go.ChangeAt Go.RowKit
attribute [local go_sem ↓] Go.wp_at_zero Go.wp_at_succ
set_option maxRecDepth 100000
/-- A piece as it is told: its text, its priority, how deep it hangs. -/
abbrev Pd := ByteArray × Int × Int
def encP (q : Pd) : List Value := [.string q.1, .int .u32 q.2.1, .int .i64 q.2.2]
def flatP (l : List Pd) : List Value := l.flatMap encP
theorem flatP_app (l m : List Pd) : flatP (l ++ m) = flatP l ++ flatP m := by simp [flatP]
theorem flatP_one (q : Pd) : flatP [q] = encP q := by simp [flatP]
theorem flatP_len (l : List Pd) : (flatP l).length = l.length * 3 := by
  induction l with
  | nil => rfl
  | cons a r ih =>
    rw [show flatP (a :: r) = encP a ++ flatP r from rfl, List.length_append, ih]
    simp [encP]; omega
def T.pd : T → Int → List Pd
  | .nil, _ => []
  | .node l _ x p r, k => l.pd (k + 1) ++ (x, p, k) :: r.pd (k + 1)
theorem T.pd_len (t : T) : ∀ k, (t.pd k).length = t.ps.length := by
  induction t with
  | nil => intro k; rfl
  | node l n x p r ihl ihr => intro k; simp [T.pd, T.ps, ihl, ihr]
end Go.Proofs.Ytjcmbnmejkhcjaa
