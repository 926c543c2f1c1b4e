/- A rope in memory, over its tree: how long it is, what may be cut, a stretch of it, its text. Condition: a text that is not too long. -/
import Derived.Test.YtjcmbnmejkhcjaaGreatTreeJ
import Derived.Test.YtjcmbnmejkhcjaaGreatTreeB
import Derived.Test.YtjcmbnmejkhcjaaGreatRopeE
namespace Go.Proofs.YtjcmbnmejkhcjaaGreat
open Go.ChangeShapes Go.WideShapes Go.ChangeAt Go.RowKit
open Go.Shelf
attribute [local go_sem ↓] Go.wp_at_zero Go.wp_at_succ
set_option maxRecDepth 100000
/-- A rope: its dice, its tree. -/
def RpC (w : World) (r d : Nat) (t : T) : Prop := w.heap[r]? = some (.cells #[.pointer (some ⟨d, 0, none⟩), .pointer t.addr] 62 (0, 0))
theorem rp_cells {w : World} {r d : Nat} {t : T} (h : RpC w r d t) : w.cell? ⟨r, 0, none⟩ = some (.pointer (some ⟨d, 0, none⟩)) ∧ w.cell? ⟨r, 1, none⟩ = some (.pointer t.addr) ∧ w.frozen? ⟨r, 0, none⟩ = false ∧ w.frozen? ⟨r, 1, none⟩ = false := by
  unfold RpC at h
  refine ⟨?_, ?_, ?_, ?_⟩
  · rw [Lib.cell_of_heap h]; rfl
  · rw [Lib.cell_of_heap h]; rfl
  · simp [World.frozen?, h]
  · simp [World.frozen?, h]
theorem rp_lt {w : World} {r d : Nat} {t : T} (h : RpC w r d t) : r < w.heap.size := (Array.getElem?_eq_some_iff.1 h).1
theorem rp_bl {w w' : World} {r d : Nat} {t : T} (h : RpC w r d t) (hb : Below w.heap.size w w') : RpC w' r d t := (hb.block r (rp_lt h)).trans h
theorem rp_keep {R : List Nat} {w w' : World} {r d d' : Nat} {t : T} (h : RpC w r d t) (hk : Keeps R d' w w') (hr : r ∈ R) (hrd : r ≠ d') : RpC w' r d t := (hk r hr hrd).trans h
theorem rp_set {w : World} {r d : Nat} {t : T} (h : RpC w r d t) (t' : T) : RpC (w.setCell ⟨r, 1, none⟩ (.pointer t'.addr)) r d t' := heap_setN h 1 _
theorem len_r {w : World} {r d : Nat} {t : T} (h : RpC w r d t) (ht : t.At w) : Calls Tryz.prog 16 #[.pointer (some ⟨r, 0, none⟩)] w fun e w' => e = .returned (.int .i64 t.text.length) ∧ w = w' := by
  obtain ⟨c0, c1, f0, f1⟩ := rp_cells h
  have HS := hide (tsize_any t w ht)
  clear h ht
  generalize t.addr = ta at *
  generalize t.text.length = n at *
  go_enter Tryz.func16, Tryz.ntmps16
  go_wp2_with fail
  refine HS.out.mono ?_
  rintro e w1 ⟨rfl, rfl⟩
  go_wp2
  go_ret
  exact ⟨rfl, rfl⟩
/-- Why a stretch is none of a text. -/
def mayR (a b n : Int) : Int := if a < 0 ∨ b < a ∨ n < b then 3 else 0
set_option maxHeartbeats 1000000 in
theorem may_r {w : World} {r d : Nat} {t : T} (h : RpC w r d t) (ht : t.At w) (a b : Int) : Calls Tryz.prog 84 #[.pointer (some ⟨r, 0, none⟩), .int .i64 a, .int .i64 b] w fun e w' => e = .returned (.int .i64 (mayR a b t.text.length)) ∧ w = w' := by
  have HL := hide (len_r h ht)
  clear h ht
  generalize t.text.length = n at *
  by_cases h1 : a < 0
  · have e : mayR a b n = 3 := by unfold mayR; rw [if_pos (.inl h1)]
    rw [e]
    clear e HL
    go_enter Tryz.func84, Tryz.ntmps84
    go_wp2
    go_ret
    exact ⟨rfl, rfl⟩
  · by_cases h2 : b < a
    · have e : mayR a b n = 3 := by unfold mayR; rw [if_pos (.inr (.inl h2))]
      rw [e]
      have g1 : decide (a < 0) = false := decide_eq_false h1
      clear e HL
      go_enter Tryz.func84, Tryz.ntmps84
      go_wp2
      go_ret
      exact ⟨rfl, rfl⟩
    · have g1 : decide (a < 0) = false := decide_eq_false h1
      have g2 : decide (b < a) = false := decide_eq_false h2
      by_cases h3 : (n : Int) < b
      · have e : mayR a b n = 3 := by unfold mayR; rw [if_pos (.inr (.inr h3))]
        rw [e]
        have g3 : decide ((n : Int) < b) = true := decide_eq_true h3
        clear e
        go_enter Tryz.func84, Tryz.ntmps84
        go_wp2_with fail
        refine HL.out.mono ?_
        rintro e w1 ⟨rfl, rfl⟩
        go_wp2
        go_ret
        exact ⟨rfl, rfl⟩
      · have e : mayR a b n = 0 := by unfold mayR; rw [if_neg (by omega)]
        rw [e]
        have g3 : decide ((n : Int) < b) = false := decide_eq_false h3
        clear e
        go_enter Tryz.func84, Tryz.ntmps84
        go_wp2_with fail
        refine HL.out.mono ?_
        rintro e w1 ⟨rfl, rfl⟩
        go_wp2
        go_ret
        exact ⟨rfl, rfl⟩
/-- A stretch of a text, as a text. -/
def strOf (l : List UInt8) : ByteArray := ⟨l.toArray⟩
theorem strOf_list (l : List UInt8) : (strOf l).data.toList = l := by simp [strOf]
theorem strOf_of (x : ByteArray) : strOf x.data.toList = x := ByteArray.ext (Array.toArray_toList)
theorem slice_bad {w : World} {r d : Nat} {t : T} (h : RpC w r d t) (ht : t.At w) (a b : Int) (hb : mayR a b t.text.length = 3) :
    Calls Tryz.prog 65 #[.pointer (some ⟨r, 0, none⟩), .int .i64 a, .int .i64 b] w fun e w' => e = .returned (.tuple #[.string ⟨#[]⟩, .int .i64 3]) ∧ w = w' := by
  have HM := hide (may_r h ht a b)
  rw [hb] at HM
  clear h ht hb
  go_enter Tryz.func65, Tryz.ntmps65
  go_wp2_with fail
  refine HM.out.mono ?_
  rintro e w1 ⟨rfl, rfl⟩
  go_wp2
  go_ret2
  exact ⟨rfl, rfl⟩
set_option maxHeartbeats 4000000 in
theorem slice_r {w : World} {r d : Nat} {t : T} (h : RpC w r d t) (ht : t.At w) (hlen : t.text.length ≤ 1000000) (a b : Nat) (hab : a ≤ b) (hb : b ≤ t.text.length) :
    Calls Tryz.prog 65 #[.pointer (some ⟨r, 0, none⟩), .int .i64 a, .int .i64 b] w fun e w' => e = .returned (.tuple #[.string (strOf (cutL t.text a b)), .int .i64 0]) ∧ Below w.heap.size w w' := by
  have HM := hide (may_r h ht a b)
  rw [show mayR a b t.text.length = 0 from by unfold mayR; rw [if_neg (by omega)]] at HM
  obtain ⟨c0, c1, _, _⟩ := rp_cells h
  have HT := hide ht
  have hw : IntKind.i64.wrap ((b : Int) - a) = ((b - a : Nat) : Int) := by
    rw [show ((b : Int) - a) = ((b - a : Nat) : Int) by omega]
    rw [IntKind.wrap_i64]; omega
  have hsub : (b : Int) - (a : Int) = ((b - a : Nat) : Int) := by omega
  obtain ⟨n, hn⟩ : ∃ n : Nat, b - a = n := ⟨_, rfl⟩
  rw [hn] at hw hsub
  have hn2 : n ≤ 1000000 := by omega
  have hcl := cutL_len t.text a b
  have hblt := fun (W : World) (hW : Below w.heap.size w W) (k : Nat) (hk : k ∈ t.blocks) => ht.blocks_lt t k hk
  have HBLT := hide (show ∀ k ∈ t.blocks, k < w.heap.size from fun k hk => ht.blocks_lt t k hk)
  clear h ht hn hblt
  obtain ⟨ta, hta⟩ : ∃ ta, t.addr = ta := ⟨_, rfl⟩
  have HW := hide (fun (W : World) (bb : Nat) (out : List UInt8) (hA : t.At W) (ho : out.length + t.text.length ≤ 4000000) (hB : Lib.BuilderAt 84 5 w.heap.size bb (.pointer (some ⟨bb, 0, none⟩)) (Lib.byteCells out) W) (hBw : w.heap.size ≤ W.heap.size) => twrite_any t W w.heap.size bb out a b hA hlen ho (by omega) (by omega) hB hBw HBLT.out)
  rw [hta] at HW c1
  clear hta
  go_enter Tryz.func65, Tryz.ntmps65
  go_wp2_with fail
  refine HM.out.mono ?_
  rintro e w4 ⟨rfl, rfl⟩
  go_wp2_with fail
  have hbk : (w.alloc (Obj.cells #[Value.pointer none, Value.slice none 0 0] 84)).heap[w.heap.size]? = some (Obj.cells #[Value.pointer none, Value.slice none 0 0] 84) := Array.getElem?_push_size
  have hb1 := bl_alloc (bl_refl w) (Obj.cells #[Value.pointer none, Value.slice none 0 0] 84)
  refine (bgrow_fresh w.heap.size w.heap.size n _ (Nat.le_refl _) hbk hb1.size (by omega)).mono ?_
  rintro e w5 ⟨rfl, hB5, hb5⟩
  have HB5 := hide hB5
  have hb6 := hb1.trans hb5
  have hr5 := cell_later hb6 c1
  clear hB5 hw hsub
  go_wp2_with fail
  refine (HW.out w5 w.heap.size [] (HT.out.later _ hb6) (by simp only [List.length_nil]; omega) HB5.out hb6.size).mono ?_
  rintro e w7 ⟨rfl, hB7, hb7⟩
  rw [List.nil_append] at hB7
  have hb8 := hb6.trans hb7
  have HB7 := hide hB7
  clear hB7
  go_wp2_with fail
  refine (bl_string w.heap.size w.heap.size (cutL t.text a b) w7 (.inr HB7.out) hb8.size).mono ?_
  rintro e w9 ⟨rfl, hb9⟩
  rw [show (⟨(cutL t.text a b).toArray⟩ : ByteArray) = strOf (cutL t.text a b) from rfl]
  have hbz := hb8.trans hb9
  go_wp2
  go_ret2
  exact ⟨rfl, hbz⟩
end Go.Proofs.YtjcmbnmejkhcjaaGreat
