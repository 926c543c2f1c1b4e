/- Contracts of package rope: build of one piece, lengths. -/
import Derived.Test.YtjcmbnmejkhcjaaGreatRopeA
import Derived.Test.YtjcmbnmejkhcjaaGreatJoinB
import Derived.Test.YtjcmbnmejkhcjaaGreatBuilder
namespace Go.Proofs.YtjcmbnmejkhcjaaGreat
open Go.ChangeShapes Go.WideShapes Go.ChangeAt Go.RowKit
open Go.Shelf

set_option maxRecDepth 100000
theorem rmerge_nil (v : Option Addr) (w : World) : Calls Tryz.prog 48 #[.pointer none, .pointer v] w fun e w' => e = .returned (.pointer v) ∧ w = w' := by
  go_enter Tryz.func48, Tryz.ntmps48
  go_wp2
  go_ret
  exact ⟨rfl, rfl⟩
theorem rsize_at (n : Nat) (m : Int) (w : World) (h : w.cell? ⟨n, 0, none⟩ = some (.int .i64 m)) : Calls Tryz.prog 29 #[.pointer (some ⟨n, 0, none⟩)] w fun e w' => e = .returned (.int .i64 m) ∧ w = w' := by
  go_enter Tryz.func29, Tryz.ntmps29
  go_wp2
  go_ret
  exact ⟨rfl, rfl⟩
theorem rlen_at (r n : Nat) (m : Int) (w : World) (hr : w.cell? ⟨r, 1, none⟩ = some (.pointer (some ⟨n, 0, none⟩))) (h : w.cell? ⟨n, 0, none⟩ = some (.int .i64 m)) : Calls Tryz.prog 16 #[.pointer (some ⟨r, 0, none⟩)] w fun e w' => e = .returned (.int .i64 m) ∧ w = w' := by
  go_enter Tryz.func16, Tryz.ntmps16
  go_wp2_with fail
  refine (rsize_at n m _ h).mono ?_
  rintro e w1 ⟨rfl, rfl⟩
  go_wp2
  go_ret
  exact ⟨rfl, rfl⟩
theorem rmay_at (r n : Nat) (m a b : Int) (w : World) (hr : w.cell? ⟨r, 1, none⟩ = some (.pointer (some ⟨n, 0, none⟩))) (h : w.cell? ⟨n, 0, none⟩ = some (.int .i64 m)) (h0 : 0 ≤ a) (h1 : a ≤ b) (h2 : b ≤ m) :
    Calls Tryz.prog 84 #[.pointer (some ⟨r, 0, none⟩), .int .i64 a, .int .i64 b] w fun e w' => e = .returned (.int .i64 0) ∧ w = w' := by
  have e0 : decide (a < 0) = false := by simp; omega
  have e1 : decide (b < a) = false := by simp; omega
  have e2 : decide (m < b) = false := by simp; omega
  have n0 : ¬ a < 0 := by omega
  have n1 : ¬ b < a := by omega
  have n2 : ¬ m < b := by omega
  clear h0 h1 h2
  go_enter Tryz.func84, Tryz.ntmps84
  go_wp2_with fail
  refine (rlen_at r n m _ hr h).mono ?_
  rintro e w1 ⟨rfl, rfl⟩
  go_wp2
  go_ret
  exact ⟨rfl, rfl⟩
set_option maxHeartbeats 4000000 in
theorem rbuild_one (w : World) (r d g : Nat) (rest : List Int) (last : Int) (s : ByteArray) (h0 : 0 < s.size) (hs : s.size ≤ 64)
    (hr : w.cell? ⟨r, 0, none⟩ = some (.pointer (some ⟨d, 0, none⟩))) (hrd : r ≠ d) (hd : DiceAt w d g rest last) (hdw : d < w.heap.size) (hgw : g < w.heap.size) :
    Calls Tryz.prog 22 #[.pointer (some ⟨r, 0, none⟩), .string s] w fun e w' => ∃ n, e = .returned (.pointer (some ⟨n, 0, none⟩)) ∧ w.heap.size ≤ n ∧ n < w'.heap.size ∧
      (∃ t q, w'.heap[n]? = some (.cells (leafCells s.data.toList s (nxt rest last)) t q)) ∧ DiceAt w' d g rest.tail (nxt rest last) ∧ w.grownBy w' (some d) := by
  have HD := hide hd
  clear hd
  have hmin : min (s.size : Int) 64 = s.size := by omega
  have hall : s.extract 0 s.size = s := by simp
  have hnone : s.extract s.size s.size = ⟨#[]⟩ := by
    apply ByteArray.ext
    simp
  go_enter Tryz.func22, Tryz.ntmps22
  go_wp2_with fail
  refine wp_loop_rounds 2 ?_
  rw [rounds_succ]
  go_wp2_with fail
  refine (rleaf_any w r d g rest last s (by omega) hr hrd HD.out hdw hgw).mono ?_
  rintro e w1 ⟨n, rfl, hn, hn1, hcs, hd1, hg1⟩
  have HC := hide hcs
  have HD1 := hide hd1
  clear hcs hd1
  go_wp2_with fail
  refine (rmerge_nil _ _).mono ?_
  rintro e w2 ⟨rfl, rfl⟩
  go_wp2
  rw [rounds_succ]
  go_wp2
  go_ret
  exact ⟨n, rfl, hn, hn1, HC.out, HD1.out, hg1⟩
end Go.Proofs.YtjcmbnmejkhcjaaGreat
