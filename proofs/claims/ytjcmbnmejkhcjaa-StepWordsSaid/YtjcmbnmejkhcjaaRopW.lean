/- The laws' way with ropes: a dice of literal numbers, a rope of one part, a twin. -/
import Derived.Test.YtjcmbnmejkhcjaaRopV
import Derived.Test.YtjcmbnmejkhcjaaLow
namespace Go.Proofs.Ytjcmbnmejkhcjaa
open Go.ChangeShapes Go.WideShapes Go.ChangeAt Go.RowKit
attribute [local go_sem ↓] Go.wp_at_zero Go.wp_at_succ
set_option maxRecDepth 100000
def DnewPost (w0 : World) (D : List (Nat × Nat)) (rs : List Rp) (w : World) (e : Ending) (w' : World) : Prop := ∃ b g, e = .returned (.pointer (some ⟨b, 0, none⟩)) ∧ Rst w0 w' ((b, g) :: D) rs ∧ w.heap.size ≤ b
theorem rst_dnew {w0 w : World} {D : List (Nat × Nat)} {rs : List Rp} (h : Rst w0 w D rs) (zs : List Int) (cs : Array Value) (hcs : cs.toList = zs.map (.int .u32)) (hn : zs.length ≤ 1000) (hbd : ∀ x ∈ zs, 0 ≤ x ∧ x < 4294967296) (n : Nat) (hz : zs.length = n) :
    Calls Try.prog 21 #[.slice (some ⟨w.heap.size, 0, none⟩) n n] (w.alloc (.cells cs 54)) (DnewPost w0 D rs w) := by
  have hb1 := bl_alloc (bl_refl w) (Obj.cells cs 54)
  have h1 := h.bl hb1
  refine (dnew_some _ ⟨w.heap.size, 0, none⟩ n n zs hz (by omega) hbd (fun j hj => ?_)).mono ?_
  · refine cells_lit w cs _ j _ ?_
    rw [hcs, List.getElem?_map, List.getElem?_eq_getElem (by omega)]
    simp [List.getD, List.getElem?_eq_getElem (show j < zs.length by omega)]
  · rintro e w' ⟨b, g, rfl, hb0, hg0, hb, hg, hd, hbel⟩
    exact ⟨b, g, rfl, h1.dice hbel hd hb0 hg0 hb hg, Nat.le_trans hb1.size hb0⟩
theorem rst_new1 {w0 w : World} {D : List (Nat × Nat)} {d g : Nat} {rs : List Rp} (h : Rst w0 w D rs) (hd : (d, g) ∈ D) (x : ByteArray) (hlen : x.size ≤ 65536) :
    Calls Try.prog 20 #[.pointer (some ⟨d, 0, none⟩), .slice (some ⟨w.heap.size, 0, none⟩) 1 1] (w.alloc (.cells #[.string x] 9)) (NewsPost w0 D d rs x) := by
  refine rst_new (h.bl (bl_alloc (bl_refl w) (Obj.cells #[.string x] 9))) hd w.heap.size 0 1 [x] (by simp) (fun j z hz => ?_) (by simp) (by simp) x (by simp [cat]) hlen
  rcases j with _ | j
  · obtain rfl : x = z := by simpa using hz
    exact cells_lit w #[.string x] _ 0 _ rfl
  · simp at hz
theorem rst_new2 {w0 w : World} {D : List (Nat × Nat)} {d g : Nat} {rs : List Rp} (h : Rst w0 w D rs) (hd : (d, g) ∈ D) (x y : ByteArray) (hlen : x.size + y.size ≤ 65536) :
    Calls Try.prog 20 #[.pointer (some ⟨d, 0, none⟩), .slice (some ⟨w.heap.size, 0, none⟩) 2 2] (w.alloc (.cells #[.string x, .string y] 9)) (NewsPost w0 D d rs (x ++ y)) := by
  refine rst_new (h.bl (bl_alloc (bl_refl w) (Obj.cells #[.string x, .string y] 9))) hd w.heap.size 0 2 [x, y] (by simp) (fun j z hz => ?_) (by simp) (by simp) (x ++ y) (by simp [cat]) (by rw [ByteArray.size_append]; exact hlen)
  rcases j with _ | _ | j
  · obtain rfl : x = z := by simpa using hz
    exact cells_lit w #[.string x, .string y] _ 0 _ rfl
  · obtain rfl : y = z := by simpa using hz
    exact cells_lit w #[.string x, .string y] _ 1 _ rfl
  · simp at hz
theorem new_nodice (w : World) (v : Value) (hv : ∃ a n c, v = .slice a n c) : Calls Try.prog 20 #[.pointer none, v] w fun e w' => e = .returned (.tuple #[.pointer none, .int .i64 1]) ∧ w = w' := by
  obtain ⟨a, n, c, rfl⟩ := hv
  go_enter Try.func20, Try.ntmps20
  go_wp2
  go_ret2
  exact ⟨rfl, rfl⟩
def TwinPost (w0 : World) (D : List (Nat × Nat)) (d : Nat) (rs : List Rp) (x : ByteArray) (e : Ending) (w' : World) : Prop := ∃ (r : Nat) (t : T), e = .returned (.pointer (some ⟨r, 0, none⟩)) ∧ (∀ q ∈ rs, q.1 ≠ r) ∧ Tx t x ∧ Rst w0 w' D ((r, d, t) :: rs)
/-- Texts as lists. -/
theorem str_ext {x y : ByteArray} (h : x.data.toList = y.data.toList) : x = y := ByteArray.ext (Array.ext' h)
theorem ext_mid (x : ByteArray) (a b : Nat) : (x.extract a b).data.toList = (x.data.toList.take b).drop a := by
  rw [ByteArray.data_extract]
  simp [List.drop_take]
theorem app_list (x y : ByteArray) : (x ++ y).data.toList = x.data.toList ++ y.data.toList := by simp only [ByteArray.data_append, Array.toList_append]
theorem size_list (x : ByteArray) : x.size = x.data.toList.length := rfl
end Go.Proofs.Ytjcmbnmejkhcjaa
