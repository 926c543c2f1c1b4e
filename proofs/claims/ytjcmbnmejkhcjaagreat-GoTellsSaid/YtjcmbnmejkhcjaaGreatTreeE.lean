/- A tree of pieces: divided between two pieces; its first and its last piece. Condition: a text that is not too long. -/
import Derived.Test.YtjcmbnmejkhcjaaGreatTreeD
namespace Go.Proofs.YtjcmbnmejkhcjaaGreat
open Go.ChangeShapes Go.WideShapes Go.ChangeAt Go.RowKit
attribute [local go_sem ↓] Go.wp_at_zero Go.wp_at_succ
set_option maxRecDepth 100000
theorem nd1 {l r : T} {n : Nat} {x : ByteArray} {p : Int} (h : (T.node l n x p r).blocks.Nodup) : l.blocks.Nodup ∧ r.blocks.Nodup ∧ n ∉ l.blocks ∧ n ∉ r.blocks ∧ (∀ k ∈ l.blocks, k ∉ r.blocks) := by
  have e : (T.node l n x p r).blocks = l.blocks ++ n :: r.blocks := rfl
  rw [e, List.nodup_append, List.nodup_cons] at h
  obtain ⟨h1, ⟨h2, h3⟩, h4⟩ := h
  exact ⟨h1, h3, fun hm => h4 n hm n (by simp) rfl, h2, fun k hk hm => h4 k hk k (List.mem_cons_of_mem _ hm) rfl⟩
theorem tsize_q (t : T) (w : World) (h : t.At w) : Calls Tryz.prog 29 #[.pointer t.addr] w fun e w' => e = .returned (.int .i64 t.text.length) ∧ w' = w := (tsize_any t w h).mono fun _ _ ⟨h1, h2⟩ => ⟨h1, h2.symm⟩
def PrtPost (t : T) (k : Int) (w : World) (e : Ending) (w' : World) : Prop := ∃ a b : T, e = .returned (.tuple #[.pointer a.addr, .pointer b.addr]) ∧ a.At w' ∧ b.At w' ∧ PrtT t k a b ∧ Chg w w' t.blocks
theorem prt_from {t : T} {k : Int} {w W : World} (hb : Below w.heap.size w W) {e : Ending} {w' : World} (h : PrtPost t k W e w') : PrtPost t k w e w' := by
  obtain ⟨a, b, he, ha, hb', hm, hc⟩ := h
  exact ⟨a, b, he, ha, hb', hm, (chg_of hb _).trans hc (fun x hx => .inl hx)⟩
theorem one_in {n m : Nat} {l : List Nat} (h : n ∉ l) (hm : m ∈ l) : m ∉ [n] := fun hx => by rw [List.mem_singleton] at hx; exact h (hx ▸ hm)
theorem prt_fin_right {l r : T} {n : Nat} {x : ByteArray} {p : Int} {W : World} {k e : Int} (ht : (T.node l n x p r).At W) (hnd : (T.node l n x p r).blocks.Nodup) (hlen : (T.node l n x p r).text.length ≤ 1000000) (he : e = l.text.length + (x.size : Int)) (hk : e ≤ k)
    (a b : T) (w1 : World) (ha : a.At w1) (hb : b.At w1) (hp : PrtT r (k - e) a b) (hc : Chg W w1 r.blocks) :
    (w1.heap[n]? = some (.cells (nodeCells (T.text (.node l n x p r)) x p l.addr r.addr) 99 (0, 0))) ∧
    Calls Tryz.prog 77 #[.pointer (some ⟨n, 0, none⟩)] (w1.setCell ⟨n, 11, none⟩ (.pointer a.addr)) fun e' w' => e' = .returned (.tuple #[]) ∧ PrtPost (.node l n x p r) k W (.returned (.tuple #[.pointer (some ⟨n, 0, none⟩), .pointer b.addr])) w' := by
  obtain ⟨n1, n2, n3, n4, n5⟩ := nd1 hnd
  have hnw : n < W.heap.size := ht.blocks_lt _ n (by simp [T.blocks])
  have h1 : w1.heap[n]? = some (.cells (nodeCells (T.text (.node l n x p r)) x p l.addr r.addr) 99 (0, 0)) := (hc.block n hnw n4).trans ht.1
  refine ⟨h1, ?_⟩
  have hbl := prt_blocks hp
  have hna : n ∉ a.blocks := fun hm => n4 (by rw [hbl]; exact List.mem_append_left _ hm)
  have hnb : n ∉ b.blocks := fun hm => n4 (by rw [hbl]; exact List.mem_append_right _ hm)
  have hset := heap_setN h1 11 (.pointer a.addr)
  have hl1 : l.At w1 := ht.2.1.chg hc n5
  have htx := prt_text hp
  have htl : (T.node l n x p r).text.length = l.text.length + (x.size + r.text.length) := by simp [T.text]
  refine (refresh_any l a n x p _ _ _ _ _ hset ?_ ?_ n3 hna ?_).mono ?_
  · exact hl1.kept _ (fun q hq => Below.heap_setCell w1 _ _ q (by rintro rfl; exact n3 hq))
  · exact ha.kept _ (fun q hq => Below.heap_setCell w1 _ _ q (by rintro rfl; exact hna hq))
  · rw [show (T.node l n x p a).text.length = l.text.length + (x.size + a.text.length) by simp [T.text]]
    rw [htx, List.length_append] at htl; omega
  · rintro e' w' ⟨rfl, hat, hch⟩
    have hc1 : Chg W w1 (T.node l n x p r).blocks := hc.mono (fun q hq => by simp [T.blocks, hq])
    have hin : n ∈ (T.node l n x p r).blocks := by simp [T.blocks]
    have hset1 : Chg w1 (w1.setCell ⟨n, 11, none⟩ (.pointer a.addr)) [n] := (chg_refl w1 [n]).set (.inl (by simp)) 11 _
    have hch2 := hset1.trans hch (fun q hq => .inl hq)
    refine ⟨rfl, .node l n x p a, b, rfl, hat, hb.chg hch2 (fun q hq => one_in hnb hq), prt_right he hk hp, ?_⟩
    exact hc1.trans hch2 (fun q hq => .inl (by rw [List.mem_singleton] at hq; rw [hq]; exact hin))
theorem prt_fin_left {l r : T} {n : Nat} {x : ByteArray} {p : Int} {W : World} {k e : Int} (ht : (T.node l n x p r).At W) (hnd : (T.node l n x p r).blocks.Nodup) (hlen : (T.node l n x p r).text.length ≤ 1000000) (he : e = l.text.length + (x.size : Int)) (hk : k < e)
    (a b : T) (w1 : World) (ha : a.At w1) (hb : b.At w1) (hp : PrtT l k a b) (hc : Chg W w1 l.blocks) :
    (w1.heap[n]? = some (.cells (nodeCells (T.text (.node l n x p r)) x p l.addr r.addr) 99 (0, 0))) ∧
    Calls Tryz.prog 77 #[.pointer (some ⟨n, 0, none⟩)] (w1.setCell ⟨n, 10, none⟩ (.pointer b.addr)) fun e' w' => e' = .returned (.tuple #[]) ∧ PrtPost (.node l n x p r) k W (.returned (.tuple #[.pointer a.addr, .pointer (some ⟨n, 0, none⟩)])) w' := by
  obtain ⟨n1, n2, n3, n4, n5⟩ := nd1 hnd
  have hnw : n < W.heap.size := ht.blocks_lt _ n (by simp [T.blocks])
  have h1 : w1.heap[n]? = some (.cells (nodeCells (T.text (.node l n x p r)) x p l.addr r.addr) 99 (0, 0)) := (hc.block n hnw n3).trans ht.1
  refine ⟨h1, ?_⟩
  have hbl := prt_blocks hp
  have hna : n ∉ a.blocks := fun hm => n3 (by rw [hbl]; exact List.mem_append_left _ hm)
  have hnb : n ∉ b.blocks := fun hm => n3 (by rw [hbl]; exact List.mem_append_right _ hm)
  have hset := heap_setN h1 10 (.pointer b.addr)
  have hr1 : r.At w1 := ht.2.2.chg hc (fun q hq hm => n5 q hm hq)
  have htx := prt_text hp
  have htl : (T.node l n x p r).text.length = l.text.length + (x.size + r.text.length) := by simp [T.text]
  refine (refresh_any b r n x p _ _ _ _ _ hset ?_ ?_ hnb n4 ?_).mono ?_
  · exact hb.kept _ (fun q hq => Below.heap_setCell w1 _ _ q (by rintro rfl; exact hnb hq))
  · exact hr1.kept _ (fun q hq => Below.heap_setCell w1 _ _ q (by rintro rfl; exact n4 hq))
  · rw [show (T.node b n x p r).text.length = b.text.length + (x.size + r.text.length) by simp [T.text]]
    rw [htx, List.length_append] at htl; omega
  · rintro e' w' ⟨rfl, hat, hch⟩
    have hc1 : Chg W w1 (T.node l n x p r).blocks := hc.mono (fun q hq => by simp [T.blocks, hq])
    have hin : n ∈ (T.node l n x p r).blocks := by simp [T.blocks]
    have hset1 : Chg w1 (w1.setCell ⟨n, 10, none⟩ (.pointer b.addr)) [n] := (chg_refl w1 [n]).set (.inl (by simp)) 10 _
    have hch2 := hset1.trans hch (fun q hq => .inl hq)
    refine ⟨rfl, a, .node b n x p r, rfl, ha.chg hch2 (fun q hq => one_in hna hq), hat, prt_left he hk hp, ?_⟩
    exact hc1.trans hch2 (fun q hq => .inl (by rw [List.mem_singleton] at hq; rw [hq]; exact hin))
end Go.Proofs.YtjcmbnmejkhcjaaGreat
