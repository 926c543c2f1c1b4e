/- Small contracts and facts of layer 7's laws: Low and Long with the answer given; what came in stays. No condition. -/
import Derived.Test.YtjmoeahlbgdkbaaLong
import Derived.Test.YtjmoeahlbgdkbaaLow
import Derived.Test.YtjmoeahlbgdkbaaLater
import Derived.Test.YtjmoeahlbgdkbaaOwn
namespace Go.Proofs.Ytjmoeahlbgdkbaa
open Go.ChangeShapes Go.WideShapes Go.ChangeAt Go.RowKit
theorem low_e (x : Int) (n : Nat) (A : Int) (w : World) (hn : 0 < n) (hn' : n < 1000000000) (hA : (lowN x n : Int) = A) : Calls Try.prog 24 #[.int .i64 x, .int .i64 n] w fun e w' => e = .returned (.int .i64 A) ∧ w = w' := by
  subst hA; exact low_any x n w hn hn'
theorem low_f (x m : Int) (n : Nat) (A : Int) (w : World) (hm : (n : Int) = m) (hn : 0 < n) (hn' : n < 1000000000) (hA : (lowN x n : Int) = A) : Calls Try.prog 24 #[.int .i64 x, .int .i64 m] w fun e w' => e = .returned (.int .i64 A) ∧ w = w' := by
  subst hA hm; exact low_any x n w hn hn'
theorem longe_any (w : World) (n : Int) (a : Option Addr) (len cap : Nat) (z : List ByteArray) (r : Bool) (h : IsStrs w a len cap z) (hn : 0 ≤ n) (hn2 : n ≤ 1000000) (hr : longL n (z.take len) = r) :
    Calls Try.prog 26 #[.int .i64 n, .slice a len cap] w fun e w' => e = .returned (.bool r) ∧ w = w' := by
  subst hr; exact long_any w n a len cap z h hn hn2
theorem strs_below {w w' : World} {a : Option Addr} {n cap : Nat} {z : List ByteArray} (h : IsStrs w a n cap z) (hb : Below w.heap.size w w') : IsStrs w' a n cap z := by
  rcases h with h | ⟨x, h1, h2, h3, h4, h5, h6⟩
  · exact .inl h
  · exact .inr ⟨x, h1, h2, h3, h4, fun i hi => cell_later hb (h5 i hi), h6⟩
end Go.Proofs.Ytjmoeahlbgdkbaa
