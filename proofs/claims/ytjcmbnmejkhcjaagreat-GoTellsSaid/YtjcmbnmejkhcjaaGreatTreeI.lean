/- Trees of pieces of their own: one divided at an offset. Condition: texts that are not too long. -/
import Derived.Test.YtjcmbnmejkhcjaaGreatTreeH
import Derived.Deep.RegionWith
namespace Go.Proofs.YtjcmbnmejkhcjaaGreat
open Go.ChangeShapes Go.WideShapes Go.ChangeAt Go.RowKit
attribute [local go_sem ↓] Go.wp_at_zero Go.wp_at_succ
set_option maxRecDepth 100000
theorem live_drew {w0 : World} {S0 R : List Nat} {d g : Nat} {w : World} {ts : List T} (h : Live w0 S0 R d g w ts) : Live w0 S0 R d g w.drew ts := (live_bl h (bl_drew (bl_refl w))).1
def DivPost (w0 : World) (S0 R : List Nat) (d g : Nat) (ts : List T) (s : List UInt8) (k : Nat) (w : World) (e : Ending) (w' : World) : Prop := ∃ a b : T, e = .returned (.tuple #[.pointer a.addr, .pointer b.addr]) ∧ a.text = s.take k ∧ b.text = s.drop k ∧ Live w0 S0 R d g w' (a :: b :: ts) ∧ Keeps R d w w'
theorem app_take {a b : List UInt8} {k : Nat} (h : k = a.length) : (a ++ b).take k = a ∧ (a ++ b).drop k = b := by subst h; simp
theorem ext_take (q : ByteArray) (k : Nat) : (q.extract 0 k).data.toList = q.data.toList.take k := by simp
theorem ext_drop (q : ByteArray) (k : Nat) : (q.extract k q.size).data.toList = q.data.toList.drop k := by
  have e : q.size = q.data.toList.length := by simp
  simp [List.take_of_length_le]
theorem div_text {A Q M : List UInt8} {la K : Nat} (hA : A.length = la) (hK : K ≤ Q.length) : (A ++ (Q ++ M)).take (la + K) = A ++ Q.take K ∧ (A ++ (Q ++ M)).drop (la + K) = Q.drop K ++ M := by
  subst hA
  rw [List.take_append, List.drop_append, List.take_of_length_le (by omega), List.drop_of_length_le (by omega)]
  have e : A.length + K - A.length = K := by omega
  rw [e, List.take_append_of_le_length hK, List.drop_append_of_le_length hK]
  exact ⟨rfl, rfl⟩
end Go.Proofs.YtjcmbnmejkhcjaaGreat
