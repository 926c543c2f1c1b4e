/- Contracts of package rope: a leaf. -/
import Derived.Test.YtjcmbnmejkhcjaaGreatRopeN
import Derived.Test.YtjcmbnmejkhcjaaGreatDiceR
import Derived.Deep.RegionHeld3
namespace Go.Proofs.YtjcmbnmejkhcjaaGreat
open Go.ChangeShapes Go.WideShapes Go.ChangeAt Go.RowKit

/-- The cells of a piece by itself. -/
def leafCells (s : List UInt8) (x : ByteArray) (p : Int) : Array Value :=
  #[.int .i64 s.length, .int .i64 (nBrk s), .int .i64 (nRun s), .int .i64 (nBig s + nRun s), .string x,
    .int .i64 s.length, .int .i64 (nBrk s), .int .i64 (nRun s), .int .i64 (nBig s + nRun s), .int .u32 p, .pointer none, .pointer none]
set_option maxRecDepth 100000 in
set_option maxHeartbeats 4000000 in
theorem rleaf_any (w : World) (r d g : Nat) (rest : List Int) (last : Int) (s : ByteArray) (hs : s.size ≤ 100000000)
    (hr : w.cell? ⟨r, 0, none⟩ = some (.pointer (some ⟨d, 0, none⟩))) (hrd : r ≠ d) (hd : DiceAt w d g rest last) (hdw : d < w.heap.size) (hgw : g < w.heap.size) :
    Calls Tryz.prog 49 #[.pointer (some ⟨r, 0, none⟩), .string s] w fun e w' => ∃ n, e = .returned (.pointer (some ⟨n, 0, none⟩)) ∧ w.heap.size ≤ n ∧ n < w'.heap.size ∧
      (∃ t q, w'.heap[n]? = some (.cells (leafCells s.data.toList s (nxt rest last)) t q)) ∧ DiceAt w' d g rest.tail (nxt rest last) ∧ w.grownBy w' (some d) := by
  have HD := hide hd
  have hrw : r < w.heap.size := World.block_lt_of_cell? w _ hr
  clear hd
  go_enter Tryz.func49, Tryz.ntmps49
  go_wp2_with fail
  refine (of_any s _ hs).mono ?_
  rintro e w1 ⟨rfl, hb1⟩
  have hr1 := cell_later hb1 hr
  have hs1 := hb1.size
  have hT := fun (j : Nat) (u : Value) (hu : ([.int .i64 s.size, .int .i64 (nBrk s.data.toList), .int .i64 (nRun s.data.toList), .int .i64 (nBig s.data.toList + nRun s.data.toList)] : List Value)[j]? = some u) => cells_lit w1 #[.int .i64 s.size, .int .i64 (nBrk s.data.toList), .int .i64 (nRun s.data.toList), .int .i64 (nBig s.data.toList + nRun s.data.toList)] 97 j u hu
  have hD1 : DiceAt (w1.alloc (Obj.cells #[.int .i64 s.size, .int .i64 (nBrk s.data.toList), .int .i64 (nRun s.data.toList), .int .i64 (nBig s.data.toList + nRun s.data.toList)] 97)).drew d g rest last := HD.out.kept ((bl_drew (bl_alloc hb1 _)).block d hdw) ((bl_drew (bl_alloc hb1 _)).block g hgw)
  have ht0 := hT 0 _ rfl; have ht1 := hT 1 _ rfl; have ht2 := hT 2 _ rfl; have ht3 := hT 3 _ rfl
  clear hT
  simp only [Addr.add, Nat.zero_add] at ht0 ht1 ht2 ht3
  have hr2 := cell_later (bl_alloc (bl_refl w1) (Obj.cells #[.int .i64 s.size, .int .i64 (nBrk s.data.toList), .int .i64 (nRun s.data.toList), .int .i64 (nBig s.data.toList + nRun s.data.toList)] 97)) hr1
  have hb2 := bl_drew (bl_alloc hb1 (Obj.cells #[.int .i64 s.size, .int .i64 (nBrk s.data.toList), .int .i64 (nRun s.data.toList), .int .i64 (nBig s.data.toList + nRun s.data.toList)] 97))
  have hs2 : w1.heap.size < (w1.alloc (Obj.cells #[.int .i64 s.size, .int .i64 (nBrk s.data.toList), .int .i64 (nRun s.data.toList), .int .i64 (nBig s.data.toList + nRun s.data.toList)] 97)).drew.heap.size := by simp
  have HD1 := hide hD1
  clear hD1 HD
  unfold talOf
  go_wp2
  try simp only [len_data] at *
  generalize hW : (w1.alloc (Obj.cells #[.int .i64 s.size, .int .i64 (nBrk s.data.toList), .int .i64 (nRun s.data.toList), .int .i64 (nBig s.data.toList + nRun s.data.toList)] 97)) = W at *
  clear hW
  generalize hk : w1.heap.size = k at *
  have hkd : k ≠ d := by omega
  go_region_held3 (fun w' => w'.cell? ⟨r, 0, none⟩ = some (.pointer (some ⟨d, 0, none⟩)) ∧ w'.cell? ⟨k, 0, none⟩ = some (.int .i64 s.size) ∧ w'.cell? ⟨k, 1, none⟩ = some (.int .i64 (nBrk s.data.toList)) ∧ w'.cell? ⟨k, 2, none⟩ = some (.int .i64 (nRun s.data.toList)) ∧ w'.cell? ⟨k, 3, none⟩ = some (.int .i64 (nBig s.data.toList + nRun s.data.toList)) ∧ r < w'.heap.size ∧ k < w'.heap.size)
    (((repeat' apply And.intro) <;> first | (go_simp; done) | (simp only [Addr.add] at *; go_simp; done) | (rw [gk' _ _ (by omega) (by omega)]; go_simp; done) | omega | (simp at *; omega)))
    (first | (go_at_call 79; refine (next_any _ d g rest last HD1.out).mono ?_; rintro e w' ⟨rfl, hD', hg'⟩; have gs' := hg'.size; have gk' : ∀ b o, b < W.drew.heap.size → b ≠ d → w'.cell? ⟨b, o, none⟩ = W.drew.cell? ⟨b, o, none⟩ := fun b o h1 h2 => World.cell?_of_block (hg'.block b h1 (fun h => h2 (Option.some.inj h)))))
  go_wp2
  go_ret
  have hb3 := hb2.block
  have hsz := hb2.size
  refine ⟨w'.heap.size, rfl, by omega, by simp, ⟨99, (0, 0), ?_⟩, ?_, ?_⟩
  · rw [leafCells, len_data]
    exact Array.getElem?_push_size
  · have gd : g < w'.heap.size := by omega
    have dd : d < w'.heap.size := by omega
    exact hD'.kept ((bl_alloc (bl_refl w') _).block d dd) ((bl_alloc (bl_refl w') _).block g gd)
  · refine ⟨((bl_alloc (bl_refl w') _).os).trans (hg'.os.trans hb2.os), ((bl_alloc (bl_refl w') _).tape).trans (hg'.tape.trans hb2.tape), ((bl_alloc (bl_refl w') _).output).trans (hg'.output.trans hb2.output), ?_, ?_⟩
    · have := (bl_alloc (bl_refl w') (Obj.cells #[] 0)).size
      exact Nat.le_trans hsz (Nat.le_trans gs' (bl_alloc (bl_refl w') _).size)
    · intro q hq hne
      exact ((bl_alloc (bl_refl w') _).block q (by omega)).trans ((hg'.block q (by omega) hne).trans (hb3 q hq))
end Go.Proofs.YtjcmbnmejkhcjaaGreat
