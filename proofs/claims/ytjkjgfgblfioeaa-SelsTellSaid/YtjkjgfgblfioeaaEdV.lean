/- Contract of Move: a range over the library's slices.Backward, by the iterator's contract. Conditions: at most 20 edits, numbers from -2^41 to 2^41 and short texts, an offset from -2^50 to 2^50. -/
import Derived.RangeFuncNested
import Derived.RangeFuncBound
import Derived.RangeFuncCalls
import Derived.RangeFuncLeaves
import Derived.Shelf.Abstract
import Derived.Shelf.RegionOpen
import Derived.OwnWalkIn
import Derived.TacticsInMore
import Derived.LoopNIn
import Derived.LoopIn
import Derived.Test.YtjkjgfgblfioeaaEdC
namespace Go.Proofs.Ytjkjgfgblfioeaa
open Go.ChangeShapes Go.WideShapes Go.ChangeAt Go.RowKit Go.Shelf
open SpanM EdM
attribute [local go_sem] Oper.semAt_some
/-- Numbers of a modest size, a text that is not too long. -/
def Good (e : Ed) : Prop := (-2199023255552 ≤ e.1.1 ∧ e.1.1 ≤ 2199023255552) ∧ (-2199023255552 ≤ e.1.2 ∧ e.1.2 ≤ 2199023255552) ∧ e.2.size ≤ 70000
abbrev GE := { x : Nat × Ed // Good x.2 }
def noE : GE := ⟨(0, ((0, 0), ⟨#[]⟩)), by unfold Good; simp; decide⟩
def elt (l : List Ed) (hg : ∀ e ∈ l, Good e) (j : Nat) : GE := if h : j < l.length then ⟨(j, l[j]), hg _ (List.getElem_mem h)⟩ else noE
def upto {α : Type} (f : Nat → α) (k : Nat) : List α := (List.range k).map f
theorem upto_succ {α : Type} (f : Nat → α) (k : Nat) : upto f (k + 1) = upto f k ++ [f k] := by simp [upto, List.range_succ]
theorem upto_length {α : Type} (f : Nat → α) (k : Nat) : (upto f k).length = k := by simp [upto]
/-- From the last one on. -/
def back (l : List Ed) (hg : ∀ e ∈ l, Good e) (k : Nat) : List GE := upto (fun j => elt l hg (l.length - 1 - j)) k
theorem back_succ (l : List Ed) (hg : ∀ e ∈ l, Good e) (k : Nat) : back l hg (k + 1) = back l hg k ++ [elt l hg (l.length - 1 - k)] := upto_succ _ _
theorem back_all (l : List Ed) (hg : ∀ e ∈ l, Good e) : (back l hg l.length).map (·.1.2) = l.reverse := by
  apply List.ext_getElem
  · simp [back, upto]
  · intro i h1 h2
    have h3 : i < l.length := by simpa using h2
    simp only [back, upto, List.map_map, List.getElem_map, List.getElem_range, Function.comp, List.getElem_reverse]
    unfold elt
    rw [dif_pos (by omega)]
/-- What a round keeps: all that lay below N0 but block B. -/
def KX (B N0 : Nat) (W W' : World) : Prop := N0 ≤ W.heap.size → (W.heap.size ≤ W'.heap.size ∧ ∀ k, k < N0 → k ≠ B → W'.heap[k]? = W.heap[k]?)
theorem KX.trans {B N0 : Nat} {X Y Z : World} (h : KX B N0 X Y) (k : KX B N0 Y Z) : KX B N0 X Z := fun hx => by
  obtain ⟨h1, h2⟩ := h hx
  obtain ⟨h3, h4⟩ := k (Nat.le_trans hx h1)
  exact ⟨Nat.le_trans h1 h3, fun j hj hb => (h4 j hj hb).trans (h2 j hj hb)⟩
theorem KX.refl (B N0 : Nat) (X : World) : KX B N0 X X := fun _ => ⟨Nat.le_refl _, fun _ _ _ => rfl⟩
theorem KX.cell {B N0 : Nat} {X Y : World} (h : KX B N0 X Y) (hx : N0 ≤ X.heap.size) {p : Addr} {v : Value} (hp : p.block < N0) (hb : p.block ≠ B) (hc : X.cell? p = some v) : Y.cell? p = some v :=
  (World.cell?_of_block (w := X) ((h hx).2 p.block hp hb)).trans hc
theorem kx_b {B N0 : Nat} {w : World} (h : N0 = w.heap.size) (W : World) (l : Nat) (o o' : Obj) (hl : w.heap.size ≤ l) (_ : W.heap[l]? = some o) (_ : o.isCells = false) (_ : o.isWalk = false) : KX B N0 W (W.putObj l o') := fun _ =>
  ⟨by simp [World.putObj], fun k hk _ => World.putObj_heap_other (by omega)⟩
set_option maxRecDepth 100000 in
set_option maxHeartbeats 2000000 in
theorem backw1_in (F : Fence) (n : Nat) (h7 : F.fn 44) (hro : F.round = none) (hn : 1 ≤ n) (y Bs B N0 b off cap : Nat) (l : List Ed) (hg : ∀ e ∈ l, Good e) (hl : l.length ≤ 1000) (hp : 0 < l.length) (hb : b < N0) (hbB : b ≠ B) (hBl : Bs < N0) (hBB : Bs ≠ B) (J Jx : List GE → World → Prop)
    (hY : ∀ pre x W, J pre W → pre.length < l.length → YieldAt F (n - 1) Try.prog y #[.int .i64 (x.1.1 : Int), .agg #[.int .i64 x.1.2.1.1, .int .i64 x.1.2.1.2, .string x.1.2.2]] W fun e W' =>
      (e = .returned (.bool true) ∧ J (pre ++ [x]) W' ∧ KX B N0 W W') ∨ (e = .returned (.bool false) ∧ Jx (pre ++ [x]) W'))
    (W : World) (hN : N0 ≤ W.heap.size) (hBs : W.cell? ⟨Bs, 0, none⟩ = some (.slice (some ⟨b, off, none⟩) l.length cap)) (hc : ∀ i (h : i < l.length), W.cell? ⟨b, off + i * 3, none⟩ = some (.int .i64 l[i].1.1) ∧ W.cell? ⟨b, off + i * 3 + 1, none⟩ = some (.int .i64 l[i].1.2) ∧ W.cell? ⟨b, off + i * 3 + 2, none⟩ = some (.string l[i].2)) (h0 : J [] W) :
    CallsIn F n Try.prog 44 #[.func (.yield y) #[] #[], .pointer (some ⟨Bs, 0, none⟩)] W fun e W' => (∃ v, e = .returned v) ∧
      ((∃ ys, ys = back l hg l.length ∧ J ys W') ∨ (∃ pre, (∃ k, k ≤ l.length ∧ pre = back l hg k) ∧ Jx pre W')) := by
  have hsub : IntKind.i64.wrap ((l.length : Int) - 1) = ((l.length - 1 : Nat) : Int) := by rw [IntWalk.i64_in _ (by omega)]; omega
  have HC := hide hc
  clear hc
  refine callsIn_of_wp Try.func44 rfl h7 ?_ hro
  simp only [Try.ntmps44, List.size_toArray, List.length_cons, List.length_nil, Nat.reduceAdd, Nat.reduceSub, Array.replicate_succ, Array.replicate_zero, List.push_toArray, List.append_toArray, List.nil_append, List.cons_append]
  gi_wp2
  gi_loopw [3] (fun i wr => ∃ k : Nat, k ≤ l.length ∧ ((k = l.length ∧ i = .int .i64 (-1)) ∨ (k < l.length ∧ i = .int .i64 ((l.length - 1 - k : Nat) : Int))) ∧ J (back l hg k) wr ∧ KX B N0 W wr)
    (fun i _ => (intOf i + 1).toNat)
  case atStart => exact ⟨0, Nat.zero_le _, .inr ⟨hp, by simp⟩, h0, KX.refl _ _ _⟩
  case round =>
    obtain ⟨k, hk, hi, hJs, hnx⟩ := hrel
    have hBr : wr.cell? ⟨Bs, 0, none⟩ = some (.slice (some ⟨b, off, none⟩) l.length cap) := hnx.cell hN hBl hBB hBs
    rcases hi with ⟨rfl, rfl⟩ | ⟨hlt, rfl⟩
    · gi_wp2
      go_end0
      exact ⟨⟨_, rfl⟩, .inl ⟨_, rfl, hJs⟩⟩
    · obtain ⟨j, hj⟩ : ∃ j, l.length - 1 - k = j := ⟨_, rfl⟩
      rw [hj]
      have hjl : j < l.length := by omega
      have hcx := HC.out j hjl
      have x1 := hnx.cell (p := ⟨b, off + j * 3, none⟩) hN hb hbB hcx.1
      have x2 := hnx.cell (p := ⟨b, off + j * 3 + 1, none⟩) hN hb hbB hcx.2.1
      have x3 := hnx.cell (p := ⟨b, off + j * 3 + 2, none⟩) hN hb hbB hcx.2.2
      obtain ⟨fn, tmps, assign, body, hy, hR⟩ := hY _ (elt l hg j) wr hJs (by unfold back; rw [upto_length]; exact hlt)
      have he : (elt l hg j).1 = (j, l[j]) := by unfold elt; rw [dif_pos hjl]
      have hbs : back l hg (k + 1) = back l hg k ++ [elt l hg j] := by rw [back_succ, hj]
      rw [he] at hy
      simp only at hy
      clear hcx he
      have hw1 : (j : Int) = 0 ∨ 0 < j := by omega
      rw [← hbs] at hR
      have HBS := hide hbs
      have HJ := hide hj
      clear hbs hj
      generalize l[j] = s at *
      rcases hw1 with h0 | h0
      · obtain rfl : j = 0 := by omega
        rw [Nat.zero_mul, Nat.add_zero] at x1 x2 x3
        rw [show ((0 : Nat) : Int) = 0 from rfl] at hy
        gi_wp2
        refine hR.mono ?_
        rintro e W3 (⟨rfl, hJ3, hk3⟩ | ⟨rfl, hJx3⟩)
        · gi_wp2
          go_roundw
          case rel => exact ⟨k + 1, by omega, .inl ⟨by have := HJ.out; omega, rfl⟩, hJ3, hnx.trans hk3⟩
          case measure => simp [intOf]
        · gi_wp2
          refine bodyPost_ret (results_none rfl _ _ _) rfl ?_
          exact ⟨⟨_, rfl⟩, .inr ⟨_, ⟨k + 1, by omega, rfl⟩, hJx3⟩⟩
      · obtain ⟨i, rfl⟩ : ∃ i, j = i + 1 := ⟨j - 1, by omega⟩
        have hcast : ((i + 1 : Nat) : Int) = (i : Int) + 1 := by omega
        rw [hcast] at hy
        clear hcast
        gi_wp2
        refine hR.mono ?_
        rintro e W3 (⟨rfl, hJ3, hk3⟩ | ⟨rfl, hJx3⟩)
        · gi_wp2
          go_roundw
          case rel => exact ⟨k + 1, by omega, .inr ⟨by have := HJ.out; omega, by have := HJ.out; congr 1; omega⟩, hJ3, hnx.trans hk3⟩
          case measure => simp [intOf]; omega
        · gi_wp2
          refine bodyPost_ret (results_none rfl _ _ _) rfl ?_
          exact ⟨⟨_, rfl⟩, .inr ⟨_, ⟨k + 1, by omega, rfl⟩, hJx3⟩⟩
set_option maxRecDepth 100000 in
set_option maxHeartbeats 1000000 in
theorem backw1_nil_in (F : Fence) (n : Nat) (h7 : F.fn 44) (hro : F.round = none) (y Bs c : Nat) (a : Option Addr) (J : List GE → World → Prop) (W : World) (hBs : W.cell? ⟨Bs, 0, none⟩ = some (.slice a 0 c)) (h0 : J [] W) :
    CallsIn F n Try.prog 44 #[.func (.yield y) #[] #[], .pointer (some ⟨Bs, 0, none⟩)] W fun e W' => (∃ v, e = .returned v) ∧ J [] W' := by
  refine callsIn_of_wp Try.func44 rfl h7 ?_ hro
  simp only [Try.ntmps44, List.size_toArray, List.length_cons, List.length_nil, Nat.reduceAdd, Nat.reduceSub, Array.replicate_succ, Array.replicate_zero, List.push_toArray, List.append_toArray, List.nil_append, List.cons_append]
  gi_wp2
  gi_loopw [3] (fun i wr => i = .int .i64 (-1) ∧ J [] wr) (fun _ _ => 0)
  case atStart => exact ⟨rfl, h0⟩
  case round =>
    obtain ⟨rfl, hJs⟩ := hrel
    gi_wp2
    go_end0
    exact ⟨⟨_, rfl⟩, hJs⟩
set_option maxHeartbeats 1000000 in
theorem backw_any (a : Option Addr) (len cap : Nat) (w : World) :
    Calls Try.prog 38 #[.slice a len cap] w fun e w' => e = .returned (.func (.func 44) #[] #[.pointer (some ⟨w.heap.size, 0, none⟩)]) ∧ w.alloc (.cells #[.slice a len cap] 42) = w' := by
  go_enter Try.func38, Try.ntmps38
  go_wp2
  go_ret
  exact ⟨rfl, rfl⟩
theorem backw_stops (F : Fence) (n : Nat) (h7 : F.fn 44) (hro : F.round = none) (hn : 1 ≤ n) (Bs B N0 : Nat) (v : Value) (l : List Ed) (hg : ∀ e ∈ l, Good e) (hl : l.length ≤ 1000) (w : World) (hBs : Bs < N0) (hBB : Bs ≠ B) (hN : N0 = w.heap.size)
    (hc : w.cell? ⟨Bs, 0, none⟩ = some v) (hI : EdAt w v l) (hb0 : ∀ b off c, 0 < l.length → v = .slice (some ⟨b, off, none⟩) l.length c → b ≠ B) :
    SeqStopsK F n Try.prog 44 #[.pointer (some ⟨Bs, 0, none⟩)] (fun x : GE => #[Value.int .i64 (x.1.1 : Int), .agg #[.int .i64 x.1.2.1.1, .int .i64 x.1.2.1.2, .string x.1.2.2]]) (KX B N0) (fun ys => ys = back l hg l.length)
      (fun pre => ∃ k, k ≤ l.length ∧ pre = back l hg k) l.length w := fun y J Jx W hW _ _ hY h0 => by
  have hc' := (hW.cell (p := ⟨Bs, 0, none⟩) (by simp; omega)).trans hc
  by_cases hp : 0 < l.length
  · obtain ⟨b, off, c, rfl, _, _, hbw, hcell⟩ := edat_some hI hp
    refine backw1_in F n h7 hro hn y Bs B N0 b off c l hg hl hp (by omega) (hb0 b off c hp rfl) hBs hBB J Jx hY W (by have := hW.size; omega) hc' (fun i hi => ?_) h0
    obtain ⟨h1, h2, h3⟩ := hcell i hi
    exact ⟨(hW.cell (p := ⟨b, _, none⟩) hbw).trans h1, (hW.cell (p := ⟨b, _, none⟩) hbw).trans h2, (hW.cell (p := ⟨b, _, none⟩) hbw).trans h3⟩
  · obtain ⟨a, c, rfl⟩ := edat_len hI
    have h00 : l.length = 0 := by omega
    rw [h00] at hc'
    exact (backw1_nil_in F n h7 hro y Bs c a J W hc' h0).mono fun e W' ⟨he, hj⟩ => ⟨he, .inl ⟨_, by rw [h00]; rfl, hj⟩⟩
end Go.Proofs.Ytjkjgfgblfioeaa
