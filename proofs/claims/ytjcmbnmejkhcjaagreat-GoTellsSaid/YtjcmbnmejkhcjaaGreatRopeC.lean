/- Contracts of package rope: New of two short texts; a rope of one piece. -/
import Derived.Test.YtjcmbnmejkhcjaaGreatRopeB
namespace Go.Proofs.YtjcmbnmejkhcjaaGreat
open Go.ChangeShapes Go.WideShapes Go.ChangeAt Go.RowKit
open Go.Shelf

/-- A rope of one piece, x. -/
def OneAt (w : World) (r n : Nat) (x : ByteArray) (p : Int) : Prop :=
  r < w.heap.size ∧ n < w.heap.size ∧ w.cell? ⟨r, 1, none⟩ = some (.pointer (some ⟨n, 0, none⟩)) ∧ ∃ t q, w.heap[n]? = some (.cells (leafCells x.data.toList x p) t q)
theorem OneAt.later {w w' : World} {r n : Nat} {x : ByteArray} {p : Int} (h : OneAt w r n x p) (hb : Below w.heap.size w w') : OneAt w' r n x p := by
  obtain ⟨h1, h2, h3, t, q, h4⟩ := h
  exact ⟨Nat.lt_of_lt_of_le h1 hb.size, Nat.lt_of_lt_of_le h2 hb.size, cell_later hb h3, t, q, (hb.block n h2).trans h4⟩
theorem OneAt.cells {w : World} {r n : Nat} {x : ByteArray} {p : Int} (h : OneAt w r n x p) : w.cell? ⟨n, 0, none⟩ = some (.int .i64 x.size) ∧ w.cell? ⟨n, 4, none⟩ = some (.string x) ∧ w.cell? ⟨n, 9, none⟩ = some (.int .u32 p) ∧ w.cell? ⟨n, 10, none⟩ = some (.pointer none) ∧ w.cell? ⟨n, 11, none⟩ = some (.pointer none) := by
  obtain ⟨_, _, _, t, q, h4⟩ := h
  refine ⟨?_, ?_, ?_, ?_, ?_⟩ <;> (rw [Lib.cell_of_heap h4]; first | rfl | (unfold leafCells; simp))
set_option maxRecDepth 100000
set_option maxHeartbeats 4000000 in
theorem rnew_two (w : World) (p d g : Nat) (rest : List Int) (last : Int) (x y : ByteArray) (c : Nat) (hc : 2 ≤ c) (hx : 0 < x.size) (hy : 0 < y.size) (hxy : x.size + y.size ≤ 64)
    (hp0 : w.cell? ⟨p, 0, none⟩ = some (.string x)) (hp1 : w.cell? ⟨p, 1, none⟩ = some (.string y)) (hd : DiceAt w d g rest last) (hdw : d < w.heap.size) (hgw : g < w.heap.size) :
    Calls Tryz.prog 11 #[.pointer (some ⟨d, 0, none⟩), .slice (some ⟨p, 0, none⟩) 2 c] w fun e w' => ∃ r n, e = .returned (.tuple #[.pointer (some ⟨r, 0, none⟩), .int .i64 0]) ∧ OneAt w' r n (x ++ y) (nxt rest last) ∧ w.grownBy w' (some d) := by
  have HD := hide hd
  have hpw : p < w.heap.size := World.block_lt_of_cell? w _ hp0
  clear hd
  go_enter Tryz.func11, Tryz.ntmps11
  go_wp2_with fail
  refine wp_loop_rounds 3 ?_
  rw [rounds_succ]
  go_wp2_with fail
  rw [rounds_succ]
  go_wp2_with fail
  rw [rounds_succ]
  go_wp2_with fail
  have hj : (⟨(Lib.join ([x, y].map (·.data.toList)) (⟨#[]⟩ : ByteArray).data.toList).toArray⟩ : ByteArray) = x ++ y := by
    apply ByteArray.ext
    apply Array.ext'
    simp [Lib.join, ByteArray.data_append]
  have hj1 : (Lib.join ([x, y].map (·.data.toList)) (⟨#[]⟩ : ByteArray).data.toList).length ≤ 140737488355328 := by
    simp [Lib.join]
    omega
  have hcj : ∀ (j : Nat) z, [x, y][j]? = some z → (w.alloc (Obj.cells #[.pointer (some ⟨d, 0, none⟩), .pointer none] 62)).cell? ⟨p, 0 + j, none⟩ = some (.string z) := by
    intro j z hz
    rw [Nat.zero_add]
    match j, hz with
    | 0, hz => obtain rfl := Option.some.inj hz; exact cell_later (bl_alloc (bl_refl w) _) hp0
    | 1, hz => obtain rfl := Option.some.inj hz; exact cell_later (bl_alloc (bl_refl w) _) hp1
  have hr0 := cells_lit w #[.pointer (some ⟨d, 0, none⟩), .pointer none] 62 0 _ rfl
  have hr1 := cells_lit w #[.pointer (some ⟨d, 0, none⟩), .pointer none] 62 1 _ rfl
  have hrf : (w.alloc (Obj.cells #[.pointer (some ⟨d, 0, none⟩), .pointer none] 62)).frozen? ⟨w.heap.size, 1, none⟩ = false := by simp [go_sem]
  have hb0 := bl_alloc (bl_refl w) (Obj.cells #[.pointer (some ⟨d, 0, none⟩), .pointer none] 62)
  have hs0 : (w.alloc (Obj.cells #[.pointer (some ⟨d, 0, none⟩), .pointer none] 62)).heap.size = w.heap.size + 1 := by simp
  simp only [Addr.add, Nat.zero_add] at hr0 hr1
  generalize hW : w.alloc (Obj.cells #[.pointer (some ⟨d, 0, none⟩), .pointer none] 62) = W at *
  refine (sjoin_any p 0 c [x, y] ⟨#[]⟩ W hcj (by omega) (by simp) hc hj1).mono ?_
  rintro e w1 ⟨rfl, hb1⟩
  rw [hj]
  clear hj1 hcj hj
  have hs1 := hb1.size
  have hsz : (x ++ y).size = x.size + y.size := ByteArray.size_append ..
  generalize hz : x ++ y = z at *
  go_wp2_with fail
  refine (rbuild_one w1 w.heap.size d g rest last z (by omega) (by omega) (cell_later hb1 hr0) (by omega) (HD.out.kept ((bl_trans hb0 hb1).block d hdw) ((bl_trans hb0 hb1).block g hgw)) (by omega) (by omega)).mono ?_
  rintro e w2 ⟨n, rfl, hn, hn1, hcs, -, hg2⟩
  have HC := hide hcs
  clear hcs
  have hs2 := hg2.size
  have c2 : w2.cell? ⟨w.heap.size, 1, none⟩ = some (.pointer none) := (World.cell?_of_block (a := ⟨w.heap.size, 1, none⟩) (hg2.block w.heap.size (by omega) (fun h => by have := Option.some.inj h; omega))).trans (cell_later hb1 hr1)
  have f2 : w2.frozen? ⟨w.heap.size, 1, none⟩ = false := by
    rw [World.frozen?_of_block (a := ⟨w.heap.size, 1, none⟩) (hg2.block w.heap.size (by omega) (fun h => by have := Option.some.inj h; omega)), World.frozen?_of_block (a := ⟨w.heap.size, 1, none⟩) (hb1.block w.heap.size (by omega))]
    exact hrf
  go_wp2
  go_ret2
  have hgs := grown_set (g := w.heap.size) (grown_refl w2 _) 1 (.pointer (some ⟨n, 0, none⟩))
  have hss := hgs.size
  obtain ⟨t, q, hcn⟩ := HC.out
  refine ⟨w.heap.size, n, rfl, ⟨by omega, by omega, ?_, t, q, ?_⟩, ?_⟩
  · go_simp
  · rw [hz]; exact (hgs.block n hn1 (fun h => by have := Option.some.inj h; omega)).trans hcn
  · refine ⟨(hgs.os.trans hg2.os).trans (hb1.os.trans hb0.os), (hgs.tape.trans hg2.tape).trans (hb1.tape.trans hb0.tape), (hgs.output.trans hg2.output).trans (hb1.output.trans hb0.output), by omega, ?_⟩
    intro q hq hne
    exact ((hgs.block q (by omega) (fun h => by have := Option.some.inj h; omega)).trans (hg2.block q (by omega) hne)).trans ((hb1.block q (by omega)).trans (hb0.block q hq))
end Go.Proofs.YtjcmbnmejkhcjaaGreat
