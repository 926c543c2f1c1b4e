/- A tree of pieces: what may change in memory; refresh. Condition: a text that is not too long. -/
import Derived.Test.YtjcmbnmejkhcjaaGreatTreeM
import Derived.Test.YtjcmbnmejkhcjaaGreatFoldR
import Derived.Deep.RegionHeld3
import Derived.Deep.DrawnRows
import Derived.BigRegion
namespace Go.Proofs.YtjcmbnmejkhcjaaGreat
open Go.ChangeShapes Go.WideShapes Go.ChangeAt Go.RowKit
attribute [local go_sem ↓] Go.wp_at_zero Go.wp_at_succ
set_option maxRecDepth 100000
/-- What may change: the blocks S, and new ones. -/
structure Chg (w w' : World) (S : List Nat) : Prop where
  os : w'.os = w.os
  tape : w'.tape = w.tape
  output : w'.output = w.output
  size : w.heap.size ≤ w'.heap.size
  block : ∀ k, k < w.heap.size → k ∉ S → w'.heap[k]? = w.heap[k]?
theorem chg_of {w w' : World} (h : Below w.heap.size w w') (S : List Nat) : Chg w w' S := ⟨h.os, h.tape, h.output, h.size, fun k hk _ => h.block k hk⟩
theorem chg_refl (w : World) (S : List Nat) : Chg w w S := chg_of (bl_refl w) S
theorem Chg.trans {a b c : World} {S S2 : List Nat} (h : Chg a b S) (k : Chg b c S2) (hs : ∀ x ∈ S2, x ∈ S ∨ a.heap.size ≤ x) : Chg a c S :=
  ⟨k.os.trans h.os, k.tape.trans h.tape, k.output.trans h.output, Nat.le_trans h.size k.size, fun x hx hn => (k.block x (Nat.lt_of_lt_of_le hx h.size) (fun hm => by
    rcases hs x hm with h1 | h1
    · exact hn h1
    · omega)).trans (h.block x hx hn)⟩
theorem Chg.bl {a b c : World} {S : List Nat} (h : Chg a b S) (k : Below b.heap.size b c) : Chg a c S := h.trans (chg_of k []) (fun x hx => by cases hx)
theorem Chg.mono {w w' : World} {S S' : List Nat} (h : Chg w w' S) (hs : ∀ x ∈ S, x ∈ S') : Chg w w' S' := ⟨h.os, h.tape, h.output, h.size, fun k hk hn => h.block k hk (fun hm => hn (hs k hm))⟩
theorem Chg.set {a w : World} {S : List Nat} (h : Chg a w S) {n : Nat} (hn : n ∈ S ∨ a.heap.size ≤ n) (o : Nat) (u : Value) : Chg a (w.setCell ⟨n, o, none⟩ u) S :=
  ⟨h.os, h.tape, h.output, by simpa [World.setCell] using h.size, fun k hk hm => (Below.heap_setCell w _ u k (by
    rintro rfl
    rcases hn with h1 | h1
    · exact hm h1
    · omega)).trans (h.block k hk hm)⟩
theorem T.At.chg {w w' : World} {S : List Nat} {t : T} (h : t.At w) (hc : Chg w w' S) (hs : ∀ n ∈ t.blocks, n ∉ S) : t.At w' :=
  h.kept t (fun n hn => hc.block n (h.blocks_lt t n hn) (hs n hn))
theorem heap_setN {w : World} {b : Nat} {cur : Array Value} {e : TypeId} {fr : Nat × Nat} (h : w.heap[b]? = some (.cells cur e fr)) (j : Nat) (u : Value) : (w.setCell ⟨b, j, none⟩ u).heap[b]? = some (.cells (cur.setIfInBounds j u) e fr) := by
  simp [World.setCell, Array.getElem?_modify, h]
/-- A piece whose counts may be old: its cells. -/
def oldCells (q0 q1 q2 q3 : Int) (x : ByteArray) (p : Int) (la ra : Option Addr) : Array Value :=
  #[.int .i64 q0, .int .i64 q1, .int .i64 q2, .int .i64 q3, .string x,
    .int .i64 x.size, .int .i64 (nBrk x.data.toList), .int .i64 (nRun x.data.toList), .int .i64 (nBig x.data.toList + nRun x.data.toList), .int .u32 p, .pointer la, .pointer ra]
theorem w64n (n : Int) (h : -9223372036854775808 ≤ n ∧ n ≤ 9223372036854775807) : wrap64 n = n := by unfold wrap64; omega
theorem wrap3 (a b c s : Int) (h : a + b + c = s) (ha : 0 ≤ a ∧ a ≤ 1000000000) (hb : 0 ≤ b ∧ b ≤ 1000000000) (hc : 0 ≤ c ∧ c ≤ 1000000000) : wrap64 (wrap64 (wrap64 (0 + a) + b) + c) = s := by
  rw [w64n (0 + a) (by omega), w64n (0 + a + b) (by omega), w64n _ (by omega)]; omega
theorem lit_at (w0 : World) (arr : Array Value) (e : TypeId) (j : Nat) (u : Value) (hu : arr.toList[j]? = some u) : (w0.alloc (.cells arr e)).cell? ⟨w0.heap.size, j, none⟩ = some u := by
  rw [World.cell?_alloc_mark w0 arr e (0, 0) j, ← hu]
  simp
theorem fold3 (w : World) (g : Nat) (L : List UInt8) (x : ByteArray) (R S : List UInt8) (hS : S = L ++ (x.data.toList ++ R)) (hn : S.length ≤ 1000000)
    (hc : ∀ j u, ([.int .i64 L.length, .int .i64 (nBrk L), .int .i64 (nRun L), .int .i64 (nBig L + nRun L), .int .i64 x.size, .int .i64 (nBrk x.data.toList), .int .i64 (nRun x.data.toList), .int .i64 (nBig x.data.toList + nRun x.data.toList), .int .i64 R.length, .int .i64 (nBrk R), .int .i64 (nRun R), .int .i64 (nBig R + nRun R)] : List Value)[j]? = some u → w.cell? ⟨g, j, none⟩ = some u) :
    Calls Tryz.prog 92 #[.slice (some ⟨g, 0, none⟩) 3 3] w fun e w' => e = .returned (talOf S) ∧ Below w.heap.size w w' := by
  have h := fold_any w g 0 3 3 (fun i j => match i, j with | 0, 0 => L.length | 0, 1 => nBrk L | 0, 2 => nRun L | 0, _ => nBig L + nRun L | 1, 0 => x.size | 1, 1 => nBrk x.data.toList | 1, 2 => nRun x.data.toList | 1, _ => nBig x.data.toList + nRun x.data.toList | _, 0 => R.length | _, 1 => nBrk R | _, 2 => nRun R | _, _ => nBig R + nRun R) (by omega) (by omega) (by omega) (fun i hi => by
    match i, hi with
    | 0, _ => exact ⟨hc 0 _ rfl, hc 1 _ rfl, hc 2 _ rfl, hc 3 _ rfl⟩
    | 1, _ => exact ⟨hc 4 _ rfl, hc 5 _ rfl, hc 6 _ rfl, hc 7 _ rfl⟩
    | 2, _ => exact ⟨hc 8 _ rfl, hc 9 _ rfl, hc 10 _ rfl, hc 11 _ rfl⟩)
  refine h.mono ?_
  rintro e w' ⟨rfl, hb⟩
  refine ⟨?_, hb⟩
  subst hS
  have hx := size_len x
  rw [List.length_append, List.length_append] at hn
  have l1 := bd_all L (by omega)
  have l2 := bd_all x.data.toList (by omega)
  have l3 := bd_all R (by omega)
  unfold talOf
  simp only [foldW]
  rw [wrap3 _ _ _ ((L ++ (x.data.toList ++ R)).length : Int) (by simp only [List.length_append]; omega) (by omega) (by omega) (by omega),
    wrap3 _ _ _ (nBrk (L ++ (x.data.toList ++ R))) (by rw [nBrk_app, nBrk_app]; omega) (by omega) (by omega) (by omega),
    wrap3 _ _ _ (nRun (L ++ (x.data.toList ++ R))) (by rw [nRun_app, nRun_app]; omega) (by omega) (by omega) (by omega),
    wrap3 _ _ _ (nBig (L ++ (x.data.toList ++ R)) + nRun (L ++ (x.data.toList ++ R))) (by rw [nBig_app, nBig_app, nRun_app, nRun_app]; omega) (by omega) (by omega) (by omega)]
theorem node_top {w : World} {n : Nat} {q0 q1 q2 q3 : Int} {x : ByteArray} {p : Int} {la ra : Option Addr} {ty : TypeId} (h : w.heap[n]? = some (.cells (oldCells q0 q1 q2 q3 x p la ra) ty (0, 0))) :
    (w.cell? ⟨n, 0, none⟩ = some (.int .i64 q0) ∧ w.cell? ⟨n, 1, none⟩ = some (.int .i64 q1) ∧ w.cell? ⟨n, 2, none⟩ = some (.int .i64 q2) ∧ w.cell? ⟨n, 3, none⟩ = some (.int .i64 q3)) ∧ w.frozen? ⟨n, 0, none⟩ = false ∧ w.frozen? ⟨n, 1, none⟩ = false ∧ w.frozen? ⟨n, 2, none⟩ = false ∧ w.frozen? ⟨n, 3, none⟩ = false := by
  refine ⟨⟨?_, ?_, ?_, ?_⟩, ?_, ?_, ?_, ?_⟩
  · rw [Lib.cell_of_heap h]; rfl
  · rw [Lib.cell_of_heap h]; rfl
  · rw [Lib.cell_of_heap h]; rfl
  · rw [Lib.cell_of_heap h]; rfl
  all_goals simp [World.frozen?, h]
/-- A piece in memory whose counts may be old. -/
def OldAt (w : World) (n : Nat) (x : ByteArray) (p : Int) (la ra : Option Addr) : Prop := ∃ q0 q1 q2 q3 : Int, w.heap[n]? = some (.cells (oldCells q0 q1 q2 q3 x p la ra) 99 (0, 0))
theorem OldAt.bl {w w' : World} {n : Nat} {x : ByteArray} {p : Int} {la ra : Option Addr} (h : OldAt w n x p la ra) (hb : Below w.heap.size w w') : OldAt w' n x p la ra := by
  obtain ⟨q0, q1, q2, q3, h⟩ := h
  exact ⟨q0, q1, q2, q3, (hb.block n (Array.getElem?_eq_some_iff.1 h).1).trans h⟩
theorem OldAt.set0 {w : World} {n : Nat} {x : ByteArray} {p : Int} {la ra : Option Addr} (h : OldAt w n x p la ra) (u : Int) : OldAt (w.setCell ⟨n, 0, none⟩ (.int .i64 u)) n x p la ra := by
  obtain ⟨q0, q1, q2, q3, h⟩ := h
  exact ⟨u, q1, q2, q3, heap_setN h 0 _⟩
theorem OldAt.set1 {w : World} {n : Nat} {x : ByteArray} {p : Int} {la ra : Option Addr} (h : OldAt w n x p la ra) (u : Int) : OldAt (w.setCell ⟨n, 1, none⟩ (.int .i64 u)) n x p la ra := by
  obtain ⟨q0, q1, q2, q3, h⟩ := h
  exact ⟨q0, u, q2, q3, heap_setN h 1 _⟩
theorem OldAt.set2 {w : World} {n : Nat} {x : ByteArray} {p : Int} {la ra : Option Addr} (h : OldAt w n x p la ra) (u : Int) : OldAt (w.setCell ⟨n, 2, none⟩ (.int .i64 u)) n x p la ra := by
  obtain ⟨q0, q1, q2, q3, h⟩ := h
  exact ⟨q0, q1, u, q3, heap_setN h 2 _⟩
theorem OldAt.set3 {w : World} {n : Nat} {x : ByteArray} {p : Int} {la ra : Option Addr} (h : OldAt w n x p la ra) (u : Int) : OldAt (w.setCell ⟨n, 3, none⟩ (.int .i64 u)) n x p la ra := by
  obtain ⟨q0, q1, q2, q3, h⟩ := h
  exact ⟨q0, q1, q2, u, heap_setN h 3 _⟩
theorem set4_cells {w : World} {n : Nat} {q0 q1 q2 q3 u0 u1 u2 u3 : Int} {x : ByteArray} {p : Int} {la ra : Option Addr} {ty : TypeId} (h : w.heap[n]? = some (.cells (oldCells q0 q1 q2 q3 x p la ra) ty (0, 0))) :
    ((((w.setCell ⟨n, 0, none⟩ (.int .i64 u0)).setCell ⟨n, 1, none⟩ (.int .i64 u1)).setCell ⟨n, 2, none⟩ (.int .i64 u2)).setCell ⟨n, 3, none⟩ (.int .i64 u3)).heap[n]? = some (.cells (oldCells u0 u1 u2 u3 x p la ra) ty (0, 0)) :=
  heap_setN (heap_setN (heap_setN (heap_setN h 0 _) 1 _) 2 _) 3 _
theorem refreshed {l r : T} {n : Nat} {x : ByteArray} {p q0 q1 q2 q3 : Int} {w w1 : World} (hc : Chg w w1 [n]) (hz : w1.heap[n]? = some (.cells (oldCells q0 q1 q2 q3 x p l.addr r.addr) 99 (0, 0))) (hl : l.At w) (hr : r.At w) (hnl : n ∉ l.blocks) (hnr : n ∉ r.blocks) :
    (T.node l n x p r).At ((((w1.setCell ⟨n, 0, none⟩ (.int .i64 (T.node l n x p r).text.length)).setCell ⟨n, 1, none⟩ (.int .i64 (nBrk (T.node l n x p r).text))).setCell ⟨n, 2, none⟩ (.int .i64 (nRun (T.node l n x p r).text))).setCell ⟨n, 3, none⟩ (.int .i64 (nBig (T.node l n x p r).text + nRun (T.node l n x p r).text))) ∧
    Chg w ((((w1.setCell ⟨n, 0, none⟩ (.int .i64 (T.node l n x p r).text.length)).setCell ⟨n, 1, none⟩ (.int .i64 (nBrk (T.node l n x p r).text))).setCell ⟨n, 2, none⟩ (.int .i64 (nRun (T.node l n x p r).text))).setCell ⟨n, 3, none⟩ (.int .i64 (nBig (T.node l n x p r).text + nRun (T.node l n x p r).text))) [n] := by
  have hin : n ∈ [n] ∨ w.heap.size ≤ n := .inl (by simp)
  have hc2 := (((hc.set hin 0 (.int .i64 (T.node l n x p r).text.length)).set hin 1 (.int .i64 (nBrk (T.node l n x p r).text))).set hin 2 (.int .i64 (nRun (T.node l n x p r).text))).set hin 3 (.int .i64 (nBig (T.node l n x p r).text + nRun (T.node l n x p r).text))
  exact ⟨⟨set4_cells hz, hl.chg hc2 (fun k hk hm => hnl (by rw [List.mem_singleton] at hm; rw [← hm]; exact hk)), hr.chg hc2 (fun k hk hm => hnr (by rw [List.mem_singleton] at hm; rw [← hm]; exact hk))⟩, hc2⟩
set_option maxHeartbeats 4000000 in
theorem refresh_any (l r : T) (n : Nat) (x : ByteArray) (p q0 q1 q2 q3 : Int) (w : World) (hn : w.heap[n]? = some (.cells (oldCells q0 q1 q2 q3 x p l.addr r.addr) 99 (0, 0))) (hl : l.At w) (hr : r.At w)
    (hnl : n ∉ l.blocks) (hnr : n ∉ r.blocks) (hlen : (T.node l n x p r).text.length ≤ 1000000) :
    Calls Tryz.prog 77 #[.pointer (some ⟨n, 0, none⟩)] w fun e w' => e = .returned (.tuple #[]) ∧ (T.node l n x p r).At w' ∧ Chg w w' [n] := by
  have hnw : n < w.heap.size := (Array.getElem?_eq_some_iff.1 hn).1
  have cc := fun (j : Nat) => (Lib.cell_of_heap (j := j) hn)
  have c5 : w.cell? ⟨n, 5, none⟩ = some (.int .i64 x.size) := by rw [Lib.cell_of_heap hn]; rfl
  have c6 : w.cell? ⟨n, 6, none⟩ = some (.int .i64 (nBrk x.data.toList)) := by rw [Lib.cell_of_heap hn]; rfl
  have c7 : w.cell? ⟨n, 7, none⟩ = some (.int .i64 (nRun x.data.toList)) := by rw [Lib.cell_of_heap hn]; rfl
  have c8 : w.cell? ⟨n, 8, none⟩ = some (.int .i64 (nBig x.data.toList + nRun x.data.toList)) := by rw [Lib.cell_of_heap hn]; rfl
  have c10 : w.cell? ⟨n, 10, none⟩ = some (.pointer l.addr) := by rw [Lib.cell_of_heap hn]; rfl
  have c11 : w.cell? ⟨n, 11, none⟩ = some (.pointer r.addr) := by rw [Lib.cell_of_heap hn]; rfl
  have HIN := hide (show n ∈ [n] ∨ w.heap.size ≤ n from .inl (by simp))
  have HC0 : Chg w w [n] := chg_refl w _
  have HO0 : OldAt w n x p l.addr r.addr := ⟨_, _, _, _, hn⟩
  have HL := hide hl
  have HR := hide hr
  have HN := hide hn
  have HLEN := hide hlen
  have htx : (T.node l n x p r).text = l.text ++ (x.data.toList ++ r.text) := rfl
  have HTX := hide htx
  clear hl hr hn hlen htx cc
  go_enter Tryz.func77, Tryz.ntmps77
  go_wp2
  go_region_held3 (fun w' => (Chg w w' [n] ∧ OldAt w' n x p l.addr r.addr) ∧ w'.cell? ⟨n, 5, none⟩ = some (.int .i64 x.size) ∧ w'.cell? ⟨n, 6, none⟩ = some (.int .i64 (nBrk x.data.toList)) ∧ w'.cell? ⟨n, 7, none⟩ = some (.int .i64 (nRun x.data.toList)) ∧ w'.cell? ⟨n, 8, none⟩ = some (.int .i64 (nBig x.data.toList + nRun x.data.toList)) ∧ w'.cell? ⟨n, 10, none⟩ = some (.pointer l.addr) ∧ w'.cell? ⟨n, 11, none⟩ = some (.pointer r.addr))
    ((((try go_split_ands); ((repeat' apply And.intro) <;> first | (with_reducible assumption) | (with_reducible exact cell_later hb1 (by with_reducible assumption)) | (with_reducible exact cell_later (bl_drew (bl_refl _)) (by with_reducible assumption)) | (with_reducible exact cell_later (bl_alloc (bl_refl _) _) (by with_reducible assumption)) | (with_reducible exact Chg.bl (by with_reducible assumption) (bl_drew (bl_refl _))) | (with_reducible exact Chg.bl (by with_reducible assumption) (bl_alloc (bl_refl _) _)) | (with_reducible exact OldAt.bl (by with_reducible assumption) (bl_drew (bl_refl _))) | (with_reducible exact OldAt.bl (by with_reducible assumption) (bl_alloc (bl_refl _) _)) | (with_reducible exact Chg.set (Chg.set (Chg.set (Chg.set (by with_reducible assumption) HIN.out _ _) HIN.out _ _) HIN.out _ _) HIN.out _ _) | (with_reducible exact OldAt.set3 (OldAt.set2 (OldAt.set1 (OldAt.set0 (by with_reducible assumption) _) _) _) _) | (go_simp; done)))))
    (first
      | (go_at_call 93; go_split_ands; refine (tall_any _ _ (by first | exact HL.out.chg (by with_reducible assumption) (fun k hk hm => hnl (by rw [List.mem_singleton] at hm; rw [← hm]; exact hk)) | exact HR.out.chg (by with_reducible assumption) (fun k hk hm => hnr (by rw [List.mem_singleton] at hm; rw [← hm]; exact hk)))).mono ?_; unfold talOf; rintro e w1 ⟨rfl, hb1⟩; have hbz := Chg.bl (by with_reducible assumption : Chg w _ [n]) hb1; have hoz := OldAt.bl (by with_reducible assumption : OldAt _ n x p l.addr r.addr) hb1)
      | (go_at_call 92; go_split_ands; refine (fold3 _ _ l.text x r.text _ HTX.out HLEN.out (fun j u hu => lit_at _ _ _ j u hu)).mono ?_; unfold talOf; rintro e w1 ⟨rfl, hb1⟩; have hby := Chg.bl (by with_reducible assumption : Chg w _ [n]) hb1; have hoy := OldAt.bl (by with_reducible assumption : OldAt _ n x p l.addr r.addr) hb1; obtain ⟨t0, t1, t2, t3, hnz⟩ := id hoy; obtain ⟨⟨s0, s1, s2, s3⟩, f0, f1, f2, f3⟩ := node_top hnz; have HNZ := hide hnz; clear hnz)
      | fail)
  all_goals
    have hfin := refreshed hby HNZ.out HL.out HR.out hnl hnr
    have HFIN := hide hfin
    clear hfin
    go_wp2
    first | (refine bodyPost_ret (results_none rfl _ _ _) rfl ?_) | (refine bodyPost_end (results_none rfl _ _ _) rfl ?_)
    exact ⟨rfl, HFIN.out.1, HFIN.out.2⟩
end Go.Proofs.YtjcmbnmejkhcjaaGreat
