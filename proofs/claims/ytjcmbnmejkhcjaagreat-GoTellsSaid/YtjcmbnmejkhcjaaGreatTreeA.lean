/- A tree of pieces in memory: the word for it; size and all. -/
import Derived.Test.YtjcmbnmejkhcjaaGreatRopeD
namespace Go.Proofs.YtjcmbnmejkhcjaaGreat
open Go.ChangeShapes Go.WideShapes Go.ChangeAt Go.RowKit

inductive T where
  | nil
  | node (l : T) (n : Nat) (x : ByteArray) (p : Int) (r : T)
/-- A tree of pieces: of each piece its block, its text, its priority. -/
def T.text : T → List UInt8
  | .nil => []
  | .node l _ x _ r => l.text ++ (x.data.toList ++ r.text)
def T.blocks : T → List Nat
  | .nil => []
  | .node l n _ _ r => l.blocks ++ n :: r.blocks
def T.addr : T → Option Addr
  | .nil => none
  | .node _ n _ _ _ => some ⟨n, 0, none⟩
/-- A piece's cells; what hangs below it reads as s. -/
def nodeCells (s : List UInt8) (x : ByteArray) (p : Int) (la ra : Option Addr) : Array Value :=
  #[.int .i64 s.length, .int .i64 (nBrk s), .int .i64 (nRun s), .int .i64 (nBig s + nRun s), .string x,
    .int .i64 x.size, .int .i64 (nBrk x.data.toList), .int .i64 (nRun x.data.toList), .int .i64 (nBig x.data.toList + nRun x.data.toList), .int .u32 p, .pointer la, .pointer ra]
/-- The tree stands in memory. -/
def T.At (w : World) : T → Prop
  | .nil => True
  | .node l n x p r => w.heap[n]? = some (.cells (nodeCells (T.text (.node l n x p r)) x p l.addr r.addr) 99 (0, 0)) ∧ l.At w ∧ r.At w
theorem T.At.kept {w w' : World} (t : T) (h : t.At w) (hb : ∀ n ∈ t.blocks, w'.heap[n]? = w.heap[n]?) : t.At w' := by
  induction t with
  | nil => trivial
  | node l n x p r ihl ihr =>
    obtain ⟨h1, h2, h3⟩ := h
    refine ⟨(hb n (by simp [T.blocks])).trans h1, ihl h2 (fun m hm => hb m (by simp [T.blocks, hm])), ihr h3 (fun m hm => hb m (by simp [T.blocks, hm]))⟩
theorem T.At.blocks_lt {w : World} (t : T) (h : t.At w) : ∀ n ∈ t.blocks, n < w.heap.size := by
  induction t with
  | nil => intro n hn; cases hn
  | node l n x p r ihl ihr =>
    obtain ⟨h1, h2, h3⟩ := h
    intro m hm
    simp only [T.blocks, List.mem_append, List.mem_cons] at hm
    rcases hm with hm | rfl | hm
    · exact ihl h2 m hm
    · rcases Nat.lt_or_ge m w.heap.size with h' | h'
      · exact h'
      · simp [Array.getElem?_eq_none h'] at h1
    · exact ihr h3 m hm
theorem T.At.later {w w' : World} (t : T) (h : t.At w) (hb : Below w.heap.size w w') : t.At w' :=
  h.kept t (fun n hn => hb.block n (h.blocks_lt t n hn))
theorem node_cell {w : World} {l r : T} {n : Nat} {x : ByteArray} {p : Int} (h : (T.node l n x p r).At w) :
    w.cell? ⟨n, 0, none⟩ = some (.int .i64 (T.text (.node l n x p r)).length) ∧ w.cell? ⟨n, 1, none⟩ = some (.int .i64 (nBrk (T.text (.node l n x p r)))) ∧ w.cell? ⟨n, 2, none⟩ = some (.int .i64 (nRun (T.text (.node l n x p r)))) ∧
    w.cell? ⟨n, 3, none⟩ = some (.int .i64 (nBig (T.text (.node l n x p r)) + nRun (T.text (.node l n x p r)))) ∧ w.cell? ⟨n, 4, none⟩ = some (.string x) ∧ w.cell? ⟨n, 9, none⟩ = some (.int .u32 p) ∧
    w.cell? ⟨n, 10, none⟩ = some (.pointer l.addr) ∧ w.cell? ⟨n, 11, none⟩ = some (.pointer r.addr) := by
  have h1 := h.1
  refine ⟨?_, ?_, ?_, ?_, ?_, ?_, ?_, ?_⟩ <;> (rw [Lib.cell_of_heap h1]; first | rfl | (unfold nodeCells; simp))
set_option maxRecDepth 100000
theorem tsize_any (t : T) (w : World) (h : t.At w) : Calls Tryz.prog 29 #[.pointer t.addr] w fun e w' => e = .returned (.int .i64 t.text.length) ∧ w = w' := by
  cases t with
  | nil => exact rsize_nil w
  | node l n x p r => exact rsize_at n _ w (node_cell h).1
set_option maxHeartbeats 4000000 in
theorem tall_any (t : T) (w : World) (h : t.At w) : Calls Tryz.prog 93 #[.pointer t.addr] w fun e w' => e = .returned (talOf t.text) ∧ Below w.heap.size w w' := by
  cases t with
  | nil =>
    go_enter Tryz.func93, Tryz.ntmps93
    go_wp2
    refine bodyPost_ret (v := .agg #[.int .i64 0, .int .i64 0, .int .i64 0, .int .i64 0]) (by simp [results, Tryz.results93, go_sem]) rfl ⟨rfl, ?_⟩
    first | exact bl_alloc (bl_refl _) _ | exact (by repeat (first | exact bl_refl _ | assumption | refine bl_alloc ?_ _ | refine bl_drewN ?_ _ | refine bl_drew ?_ | refine bl_trans ?_ (by assumption)))
  | node l n x p r =>
    obtain ⟨c0, c1, c2, c3, _⟩ := node_cell h
    have hnw : n < w.heap.size := h.blocks_lt _ n (by simp [T.blocks])
    clear h
    unfold talOf T.addr
    generalize T.text (.node l n x p r) = S at *
    go_enter Tryz.func93, Tryz.ntmps93
    go_wp2
    refine bodyPost_ret (v := .agg #[.int .i64 S.length, .int .i64 (nBrk S), .int .i64 (nRun S), .int .i64 (nBig S + nRun S)]) (by simp [results, Tryz.results93, go_sem]) rfl ⟨rfl, ?_⟩
    first | exact bl_alloc (bl_refl _) _ | exact (by repeat (first | exact bl_refl _ | assumption | refine bl_alloc ?_ _ | refine bl_drewN ?_ _ | refine bl_drew ?_ | refine bl_trans ?_ (by assumption)))
end Go.Proofs.YtjcmbnmejkhcjaaGreat
