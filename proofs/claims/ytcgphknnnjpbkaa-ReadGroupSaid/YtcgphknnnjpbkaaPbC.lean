/- A variable that holds a tree is put into a group of its own, again and again. No condition. -/
import Derived.Test.YtcgphknnnjpbkaaPbB
import Derived.Test.YtcgphknnnjpbkaaRxB
namespace Go.Proofs.Ytcgphknnnjpbkaa
open Go.ChangeShapes Go.WideShapes Go.ChangeAt Go.RowKit
open SetM
set_option maxRecDepth 100000
set_option linter.unusedVariables false
/-- A variable's block holds this tree, and none of the tree's lists. -/
def GxAt (w : World) (b : Nat) (X : Rt) : Prop := ∃ t, CxAt w b t ∧ RxAt w t ∧ Off b t ∧ er t = X ∧ (∀ o, w.frozen? ⟨b, o, none⟩ = false)
theorem gx_new {w : World} {t : Rt} {rA kA : Option Addr} {rc kc : Nat} (h : RxAt w t) (hr : t.rv = .slice rA t.rows.length rc) (hk : t.kv = .slice kA t.kids.length kc) : GxAt (w.alloc (.cells #[.int .i64 t.k, .string t.ch, .bool t.nt, .slice rA t.rows.length rc, .int .i64 t.mi, .int .i64 t.ma, .bool t.lz, .slice kA t.kids.length kc] 26)) w.heap.size (er t) :=
  ⟨t, cx_new w t hr hk, rx_below h (bl_alloc (bl_refl w) _), off_new h (Nat.le_refl _), rfl, fun o => by go_simp⟩
theorem set8_cell {w : World} {b : Nat} {v0 v1 v2 v3 v4 v5 v6 v7 : Value} {t : Rt} (h : CxAt w b t) (u : Rt) (hu : u.cs = [v0, v1, v2, v3, v4, v5, v6, v7]) : CxAt ((((((((w.setCell ⟨b, 0, none⟩ v0).setCell ⟨b, 1, none⟩ v1).setCell ⟨b, 2, none⟩ v2).setCell ⟨b, 3, none⟩ v3).setCell ⟨b, 4, none⟩ v4).setCell ⟨b, 5, none⟩ v5).setCell ⟨b, 6, none⟩ v6).setCell ⟨b, 7, none⟩ v7) b u := by
  have c0 := h 0 _ rfl
  have c1 := h 1 _ rfl
  have c2 := h 2 _ rfl
  have c3 := h 3 _ rfl
  have c4 := h 4 _ rfl
  have c5 := h 5 _ rfl
  have c6 := h 6 _ rfl
  have c7 := h 7 _ rfl
  intro j q hq
  rw [hu] at hq
  match j, hq with
  | 0, hq => cases hq; go_simp
  | 1, hq => cases hq; go_simp
  | 2, hq => cases hq; go_simp
  | 3, hq => cases hq; go_simp
  | 4, hq => cases hq; go_simp
  | 5, hq => cases hq; go_simp
  | 6, hq => cases hq; go_simp
  | 7, hq => cases hq; go_simp
/-- The step. -/
theorem gx_step {w : World} {b : Nat} {t : Rt} {k : Int} (hc : CxAt w b t) (hx : RxAt w t) (ho : Off b t) (hf : ∀ o, w.frozen? ⟨b, o, none⟩ = false) (arr : Array Value) (ha : arr.toList = t.cs) (T : TypeId) :
    GxAt (((((((((w.setCell ⟨b, 0, none⟩ (.int .i64 k)).setCell ⟨b, 1, none⟩ (.string ⟨#[]⟩)).setCell ⟨b, 2, none⟩ (.bool false)).setCell ⟨b, 3, none⟩ (.slice none 0 0)).setCell ⟨b, 4, none⟩ (.int .i64 0)).setCell ⟨b, 5, none⟩ (.int .i64 0)).setCell ⟨b, 6, none⟩ (.bool false)).setCell ⟨b, 7, none⟩ (.slice (some ⟨w.heap.size, 0, none⟩) 1 1)).alloc (.cells arr T)) b (kdX k [er t]) := by
  have hb : b < w.heap.size := World.block_lt_of_cell? w ⟨b, 0, none⟩ (hc 0 _ rfl)
  obtain ⟨u, hu⟩ : ∃ u : Rt, u = .mk k ⟨#[]⟩ false (.slice none 0 0) [] 0 0 false (.slice (some ⟨w.heap.size, 0, none⟩) 1 1) [t] := ⟨_, rfl⟩
  have h8 := set8_cell hc u (v0 := .int .i64 k) (v1 := .string ⟨#[]⟩) (v2 := .bool false) (v3 := .slice none 0 0) (v4 := .int .i64 0) (v5 := .int .i64 0) (v6 := .bool false) (v7 := .slice (some ⟨w.heap.size, 0, none⟩) 1 1) (by rw [hu]; rfl)
  have hg := grown8 w (g := b) 0 (.int .i64 k) 1 (.string ⟨#[]⟩) 2 (.bool false) 3 (.slice none 0 0) 4 (.int .i64 0) 5 (.int .i64 0) 6 (.bool false) 7 (.slice (some ⟨w.heap.size, 0, none⟩) 1 1)
  have hx8 := rx_off hx ho hg
  obtain ⟨W, hW⟩ : ∃ W, ((((((((w.setCell ⟨b, 0, none⟩ (.int .i64 k)).setCell ⟨b, 1, none⟩ (.string ⟨#[]⟩)).setCell ⟨b, 2, none⟩ (.bool false)).setCell ⟨b, 3, none⟩ (.slice none 0 0)).setCell ⟨b, 4, none⟩ (.int .i64 0)).setCell ⟨b, 5, none⟩ (.int .i64 0)).setCell ⟨b, 6, none⟩ (.bool false)).setCell ⟨b, 7, none⟩ (.slice (some ⟨w.heap.size, 0, none⟩) 1 1)) = W := ⟨_, rfl⟩
  have hsz : W.heap.size = w.heap.size := by rw [← hW]; simp
  have hf8 : ∀ o, W.frozen? ⟨b, o, none⟩ = false := fun o => by rw [← hW]; simp only [World.frozen?_setCell]; exact hf o
  rw [hW] at h8 hx8 ⊢
  have hbl := bl_alloc (bl_refl W) (.cells arr T)
  refine ⟨u, cx_below h8 hbl, ?_, ?_, ?_, fun o => (hbl.frozen (p := ⟨b, o, none⟩) (by show b < W.heap.size; omega)).trans (hf8 o)⟩
  · rw [hu]
    refine .mk _ (.inl ⟨rfl, rfl⟩) (ks1 (fun j q hq => ?_)) (fun i hi => ?_)
    · have := cells_lit W arr T j q (by rw [ha]; exact hq)
      rw [addr_add, Nat.zero_add, hsz] at this
      exact this
    · have : i = 0 := by have : i < 1 := hi; omega
      subst this
      exact rx_below hx8 hbl
  · rw [hu]
    refine .mk _ (fun x len c e => by cases e) (fun x len c e hp => ?_) (fun x hx => ?_)
    · injection e with e
      injection e with e
      subst e
      show w.heap.size ≠ b
      omega
    · obtain rfl : x = t := (by simpa using (show x ∈ [t] from hx))
      exact ho
  · rw [hu, er_eq]; rfl
theorem gx_wrap {bare : Bool} {x : Rt} (n : Nat) : kdX (kG bare) [wrapX bare x n] = wrapX bare x (n + 1) := rfl
end Go.Proofs.Ytcgphknnnjpbkaa
