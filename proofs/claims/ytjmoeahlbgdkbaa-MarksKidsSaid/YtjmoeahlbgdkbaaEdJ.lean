/- Contract of the law's apart: edits that rise and stay apart, as hints tell. Condition: a short text. -/
import Derived.Test.YtjmoeahlbgdkbaaEdI
import Derived.Test.YtjmoeahlbgdkbaaEdArgs
namespace Go.Proofs.Ytjmoeahlbgdkbaa
open Go.ChangeShapes Go.WideShapes Go.ChangeAt Go.RowKit
open SpanM EdM
attribute [local go_sem ↓] Go.wp_at_zero Go.wp_at_succ
attribute [local go_sem] later_cell later_frozen
def sizes (l : List Ed) : Nat := (l.map (fun e => e.2.size)).foldr (· + ·) 0
theorem sizes_snoc (l : List Ed) (e : Ed) : sizes (l ++ [e]) = sizes l + e.2.size := by
  induction l with
  | nil => simp [sizes]
  | cons a r ih => unfold sizes at *; simp only [List.cons_append, List.map_cons, List.foldr_cons] at *; omega
/-- Edits that rise and stay apart. -/
structure AP (n : Int) (l : List Ed) : Prop where
  chain : Chain n 0 l
  rise : l.Pairwise fun a b => a.1.1 < b.1.1
  sizes : sizes l ≤ 200
  len : l.length ≤ 20
theorem chain_up {l : List Ed} : ∀ {a m n : Int}, Chain m a l → m ≤ n → Chain n a l := by
  induction l with
  | nil => intro a m n h1 h2; unfold Chain at *; omega
  | cons x r ih => intro a m n h1 h2; exact ⟨h1.1, h1.2.1, ih h1.2.2 h2⟩
/-- What a round of apart's loop keeps. -/
def AInv (n : Int) (P : List Ed) (w : World) (es a lf i : Value) (wr : World) : Prop :=
  ∃ (k m : Nat) (at' left : Int) (l : List Ed), i = .int .i64 k ∧ k ≤ P.length ∧ k ≤ 20 ∧ a = .int .i64 at' ∧ lf = .int .i64 left ∧ m ≤ k ∧ Hid (l.length = m) ∧ 0 ≤ at' ∧ at' ≤ n ∧ 0 ≤ left ∧ left ≤ 200 ∧
    Hid (Chain at' 0 l ∧ (l.Pairwise fun a b => a.1.1 < b.1.1) ∧ (sizes l : Int) + left = 200) ∧ wr.ownsRow w.heap.size 61 3 es m (flatE l) ∧ Below w.heap.size w wr
def ApartPost (n : Int) (w : World) (e : Ending) (w' : World) : Prop := ∃ v' l, e = .returned v' ∧ AP n l ∧ Below w.heap.size w w' ∧ w'.ownsRow w.heap.size 61 3 v' l.length (flatE l)
end Go.Proofs.Ytjmoeahlbgdkbaa
