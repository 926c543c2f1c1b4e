/- Contracts of package rope: what a rope of one piece tells. -/
import Derived.Test.YtjcmbnmejkhcjaaGreatRopeC
import Derived.Deep.AppendLies
import Derived.Deep.RegionHeld3
import Derived.Laws.IdiomRangeMap
namespace Go.Proofs.YtjcmbnmejkhcjaaGreat
open Go.ChangeShapes Go.WideShapes Go.ChangeAt Go.RowKit
open Go.Shelf

set_option maxRecDepth 100000
theorem bgrow_fresh (B b n : Nat) (w : World) (hB : B ≤ b) (hbk : w.heap[b]? = some (.cells #[.pointer none, .slice none 0 0] 84 (0, 0))) (hBw : B ≤ w.heap.size) (hn : n ≤ 281474976710656) :
    Calls Tryz.prog 50 #[.pointer (some ⟨b, 0, none⟩), .int .i64 n] w fun e w' => e = .returned (.tuple #[]) ∧ (Lib.BuilderAt 84 5 B b (.pointer (some ⟨b, 0, none⟩)) [] w' ∧ Below B w w') :=
  Any.Builder_Grow_fresh (P := Tryz.prog) (ρ := ren156) { lays156 with } extra156 B b n w hB hbk hBw hn
set_option maxHeartbeats 4000000 in
theorem rwrite_one (w : World) (B bb r n : Nat) (x : ByteArray) (p : Int) (a b : Nat) (h : OneAt w r n x p) (hx : x.size ≤ 1000000) (hab : a < b) (hbx : b ≤ x.size) (hB : Lib.BuilderAt 84 5 B bb (.pointer (some ⟨bb, 0, none⟩)) [] w) (hBw : B ≤ w.heap.size) :
    Calls Tryz.prog 90 #[.pointer (some ⟨n, 0, none⟩), .pointer (some ⟨bb, 0, none⟩), .int .i64 a, .int .i64 b] w fun e w' => e = .returned (.tuple #[]) ∧ (Lib.BuilderAt 84 5 B bb (.pointer (some ⟨bb, 0, none⟩)) ([] ++ Lib.strCells (x.extract a b)) w' ∧ Below B w w') := by
  obtain ⟨c0, c4, c9, c10, c11⟩ := h.cells
  have HB := hide hB
  clear hB h c0 c9
  have e0 : decide ((b : Int) ≤ (a : Int)) = false := by simp; omega
  have e1 : decide ((a : Int) < 0) = false := by simp
  have e2 : decide ((a : Int) < (x.size : Int)) = true := by simp; omega
  have e3 : decide ((0 : Int) < (b : Int)) = true := by simp; omega
  have e4 : decide ((x.size : Int) < (b : Int)) = false := by simp; omega
  have m0 : max (a : Int) 0 = a := by omega
  have m1 : min (b : Int) x.size = b := by omega
  have w0 : (0 : Int) ≤ a := by omega
  have w1 : (a : Int) ≤ b := by omega
  have w2 : (b : Int) ≤ x.size := by omega
  go_enter Tryz.func90, Tryz.ntmps90
  go_wp2_with fail
  refine (rsize_nil _).mono ?_
  rintro e w1 ⟨rfl, rfl⟩
  go_wp2_with fail
  have hxs : (x.extract a b).size ≤ 1000000 := by rw [ByteArray.size_extract]; omega
  refine (bl_str B bb [] (x.extract a b) _ (.inr HB.out) (by simp only [List.length_nil]; omega) hBw).mono ?_
  rintro e w3 ⟨rfl, hB3, hb3⟩
  have HB3 := hide hB3
  clear hB3
  go_wp2
  refine bodyPost_end (results_none rfl _ _ _) rfl ?_
  exact ⟨rfl, HB3.out, hb3⟩
theorem cells_bytes (s : ByteArray) : ([] ++ Lib.strCells s : List Value) = Lib.byteCells s.data.toList := rfl
set_option maxHeartbeats 4000000 in
theorem rslice_one (w : World) (r n : Nat) (x : ByteArray) (p : Int) (a b : Nat) (h : OneAt w r n x p) (hx : x.size ≤ 1000000) (hab : a < b) (hbx : b ≤ x.size) :
    Calls Tryz.prog 65 #[.pointer (some ⟨r, 0, none⟩), .int .i64 a, .int .i64 b] w fun e w' => e = .returned (.tuple #[.string (x.extract a b), .int .i64 0]) ∧ Below w.heap.size w w' := by
  have hr1 := h.2.2.1
  have hc0 := h.cells.1
  have HO := hide h
  clear h
  have w1 : (0 : Int) ≤ a := by omega
  have w2 : (b : Int) ≤ x.size := by omega
  have w3 : (a : Int) ≤ b := by omega
  have hw : IntKind.i64.wrap ((b : Int) - a) = ((b - a : Nat) : Int) := by
    rw [show ((b : Int) - a) = ((b - a : Nat) : Int) by omega]
    rw [IntKind.wrap_i64]; omega
  go_enter Tryz.func65, Tryz.ntmps65
  go_wp2_with fail
  refine (rmay_at r n x.size a b _ hr1 hc0 w1 w3 w2).mono ?_
  rintro e w4 ⟨rfl, rfl⟩
  go_wp2_with fail
  have hbk : (w.alloc (Obj.cells #[Value.pointer none, Value.slice none 0 0] 84)).heap[w.heap.size]? = some (Obj.cells #[Value.pointer none, Value.slice none 0 0] 84) := Array.getElem?_push_size
  have hb1 := bl_alloc (bl_refl w) (Obj.cells #[Value.pointer none, Value.slice none 0 0] 84)
  refine (bgrow_fresh w.heap.size w.heap.size (b - a) _ (Nat.le_refl _) hbk hb1.size (by omega)).mono ?_
  rintro e w5 ⟨rfl, hB5, hb5⟩
  have HB5 := hide hB5
  have hb6 := hb1.trans hb5
  have hr5 := cell_later hb6 hr1
  clear hB5
  go_wp2_with fail
  refine (rwrite_one w5 w.heap.size w.heap.size r n x p a b (HO.out.later hb6) hx hab hbx HB5.out hb6.size).mono ?_
  rintro e w7 ⟨rfl, hB7, hb7⟩
  rw [cells_bytes] at hB7
  have hb8 := hb6.trans hb7
  have HB7 := hide hB7
  clear hB7
  go_wp2_with fail
  refine (bl_string w.heap.size w.heap.size (x.extract a b).data.toList w7 (.inr HB7.out) hb8.size).mono ?_
  rintro e w9 ⟨rfl, hb9⟩
  have hbb : (⟨(x.extract a b).data.toList.toArray⟩ : ByteArray) = x.extract a b := ByteArray.ext (Array.toArray_toList)
  rw [hbb]
  go_wp2
  go_ret2
  exact ⟨rfl, hb8.trans hb9⟩
end Go.Proofs.YtjcmbnmejkhcjaaGreat
