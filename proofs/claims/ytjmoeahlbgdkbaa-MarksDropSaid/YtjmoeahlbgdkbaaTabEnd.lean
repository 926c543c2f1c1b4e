/- Arguments of layer 7's laws: a range, two bools, a slice of pairs of integers. No condition. Small contracts and facts of layer 7's laws: Low and Long with the answer given; what came in stays. No condition. Arguments of layer 7's laws: deeds, each with edits of its own. No condition. Contracts of package marks at a table: Add with its frame, Add at a full table, Ids. No condition but few records. Contracts of package marks at a table: Add within a parent, and its refusals. Conditions: few records whose ids rise. Contracts of package marks at a table: Drop of what is not there, Move that is refused. No condition but few records whose ids rise. Contracts of layer 7's law on deeds: the range of a deed. No condition. Contracts of package marks at a table: Kids, At. Condition: few records. Contracts of layer 7's law on deeds: are they too much. No condition. Contract of layer 7's law on deeds: edits, their stretches brought near. Condition: few edits. -/
import Derived.Test.YtjmoeahlbgdkbaaArgs
import Derived.Test.YtjmoeahlbgdkbaaSpanArgs
import Derived.Deep.Slices
import Derived.ChangeSame
import Derived.Test.YtjmoeahlbgdkbaaLong
import Derived.Test.YtjmoeahlbgdkbaaLow
import Derived.Test.YtjmoeahlbgdkbaaLater
import Derived.Test.YtjmoeahlbgdkbaaOwn
import Derived.Test.YtjmoeahlbgdkbaaEdArgs
import Derived.Test.YtjmoeahlbgdkbaaTabD
import Derived.Deep.RegionLaw
import Derived.BigRegion
import Derived.Laws.ResultCell
import Derived.Deep.RegionWith
import Derived.Deep.RegionHeld3
namespace Go.Proofs.Ytjmoeahlbgdkbaa
section
open Go.ChangeShapes Go.WideShapes Go.ChangeAt Go.RowKit Go.Deep
open SpanM
section
variable {H : Type} {enc : TypeId × Value → H} {W : World} {base : Nat} {spare : Nat → Bool} {held : Bool}
/-- A range that came in: its two ends, its two flags, its parent. -/
structure Rg where
  f : Int
  t : Int
  b : Bool
  c : Bool
  p : Int
def vG (g : Rg) : Value := .agg #[.int .i64 g.f, .int .i64 g.t, .bool g.b, .bool g.c, .int .i64 g.p]
def WfG (g : Rg) : Prop := (Lit.int .i64 g.f).wf = true ∧ (Lit.int .i64 g.t).wf = true ∧ (Lit.int .i64 g.p).wf = true
set_option maxRecDepth 100000 in
theorem open_range {r : Reach} {b0 : Nat} {v : Value} {d : DataW H} {p : List MemPlace} (hv : Value.okWide Try.prog W r b0 43 v) (h : DataW.Trod enc Try.prog W base spare held 43 v d p) :
    ∃ g : Rg, v = vG g ∧ WfG g := by
  obtain ⟨cs, rfl, hsz⟩ := okWide_struct Try.underlying43 hv
  have hC : Try.prog.cellsOf 43 = 5 := by kernel_rfl
  have hC2 : Try.prog.cellsOf 41 = 2 := by kernel_rfl
  have hC1 : Try.prog.cellsOf 3 = 1 := by kernel_rfl
  have hCb : Try.prog.cellsOf 4 = 1 := by kernel_rfl
  obtain ⟨l⟩ := cs
  match l, hsz.trans hC with
  | [c0, c1, c2, c3, c4], _ =>
    obtain ⟨fuel, hf⟩ := h
    obtain ⟨xs, k, _, _, _, hxl, hg⟩ := DataW.trod_struct Try.underlying43 hf
    match xs, hxl with
    | [y0, y1, y2, y3], _ =>
      have g0 := hg 0 _ rfl
      have g1 := hg 1 _ rfl
      have g2 := hg 2 _ rfl
      have g3 := hg 3 _ rfl
      replace g0 : DataW.trod enc Try.prog W base spare held k 41 (([c0, c1, c2, c3, c4].drop 0).take (Try.prog.cellsOf 41)) = some y0 := g0
      replace g1 : DataW.trod enc Try.prog W base spare held k 4 (([c0, c1, c2, c3, c4].drop 2).take (Try.prog.cellsOf 4)) = some y1 := g1
      replace g2 : DataW.trod enc Try.prog W base spare held k 4 (([c0, c1, c2, c3, c4].drop 3).take (Try.prog.cellsOf 4)) = some y2 := g2
      replace g3 : DataW.trod enc Try.prog W base spare held k 3 (([c0, c1, c2, c3, c4].drop 4).take (Try.prog.cellsOf 3)) = some y3 := g3
      rw [hC2] at g0
      rw [hCb] at g1 g2
      rw [hC1] at g3
      obtain ⟨ys, k2, _, _, _, hyl, hs⟩ := DataW.trod_struct Try.underlying41 g0
      match ys, hyl with
      | [z0, z1], _ =>
        have s0 := hs 0 _ rfl
        have s1 := hs 1 _ rfl
        replace s0 : DataW.trod enc Try.prog W base spare held k2 3 (([c0, c1].drop 0).take (Try.prog.cellsOf 3)) = some z0 := s0
        replace s1 : DataW.trod enc Try.prog W base spare held k2 3 (([c0, c1].drop 1).take (Try.prog.cellsOf 3)) = some z1 := s1
        rw [hC1] at s0 s1
        obtain ⟨f, q0, _, w0⟩ := DataW.trod_int Try.underlying3 s0
        obtain ⟨t, q1, _, w1⟩ := DataW.trod_int Try.underlying3 s1
        obtain ⟨b, q2, _⟩ := DataW.trod_bool Try.underlying4 g1
        obtain ⟨c, q3, _⟩ := DataW.trod_bool Try.underlying4 g2
        obtain ⟨p, q4, _, w4⟩ := DataW.trod_int Try.underlying3 g3
        simp at q0 q1 q2 q3 q4
        subst q0 q1 q2 q3 q4
        exact ⟨⟨f, t, b, c, p⟩, rfl, w0, w1, w4⟩
theorem open_bools2 {P : Program} {r : Reach} {b0 : Nat} {t e : TypeId} {v : Value} {d : DataW H} {p : List MemPlace} (ht : P.underlying t = some (.array 2 e)) (he : P.underlying e = some .bool) (hC : P.cellsOf t = 2) (hCe : P.cellsOf e = 1)
    (hv : Value.okWide P W r b0 t v) (h : DataW.Trod enc P W base spare held t v d p) :
    ∃ a b : Bool, v = .agg #[.bool a, .bool b] := by
  obtain ⟨cs, rfl, hsz⟩ := okWide_arr ht hv
  obtain ⟨l⟩ := cs
  match l, hsz.trans hC with
  | [c0, c1], _ =>
    obtain ⟨fuel, hf⟩ := h
    obtain ⟨xs, m, _, hx, _, hlen, hg⟩ := DataW.trod_array ht hf
    match xs, hlen with
    | [y0, y1], _ =>
      have g0 := hg 0 (by omega)
      have g1 := hg 1 (by omega)
      simp only [Value.cells, hCe] at g0 g1
      obtain ⟨a, e0, _⟩ := DataW.trod_bool he g0
      obtain ⟨b, e1, _⟩ := DataW.trod_bool he g1
      simp at e0 e1
      subst e0 e1
      exact ⟨a, b, rfl⟩
set_option maxRecDepth 100000 in
/-- A slice of pairs reads as stretches do. -/
theorem open_pairs {r : Reach} {b0 : Nat} {v : Value} {d : DataW H} {p : List MemPlace} (hv : Value.okWide Try.prog W r b0 53 v) (h : DataW.Trod enc Try.prog W base (fun _ => true) held 53 v d p) :
    ∃ l : List Sp, SpAt W v l ∧ ∀ s ∈ l, Wf s := by
  obtain ⟨a, len, cap, rfl⟩ := okWide_slice Try.underlying53 hv
  obtain ⟨fuel, hf⟩ := h
  rcases open_slice Try.underlying53 hf with ⟨hcs, _⟩ | ⟨x, l, c, m, n, D, Pl, hcs, _, hl, hm, hmm, _, hx⟩
  · simp [Value.cells] at hcs
    obtain ⟨rfl, rfl, rfl⟩ := hcs
    exact ⟨[], .inl ⟨rfl, rfl⟩, by simp⟩
  · simp [Value.cells] at hcs
    obtain ⟨rfl, rfl, rfl⟩ := hcs
    have hC : Try.prog.cellsOf 57 = 2 := by kernel_rfl
    have hC1 : Try.prog.cellsOf 3 = 1 := by kernel_rfl
    have hex : ∀ i, i < len → ∃ s : Sp, W.cell? (x.add (i * 2)) = some (.int .i64 s.1) ∧ W.cell? (x.add (i * 2 + 1)) = some (.int .i64 s.2) ∧ Wf s := by
      intro i hi
      obtain ⟨cs, h1, h2⟩ := hx i (by simp only [if_true] at hmm; omega)
      rw [hC] at h1
      obtain ⟨_, hlen, hcell⟩ := World.cells?_some h1
      obtain ⟨xs, k, _, _, _, hxl, hg⟩ := DataW.trod_array Try.underlying57 h2
      match cs, hlen with
      | [v0, v1], _ =>
        have e0 := hcell 0 (by omega)
        have e1 := hcell 1 (by omega)
        rw [add_add] at e0 e1
        match xs, hxl with
        | [y0, y1], _ =>
          have g0 := hg 0 (by omega)
          have g1 := hg 1 (by omega)
          simp only [hC1] at g0 g1
          obtain ⟨f, q0, _, w0⟩ := DataW.trod_int Try.underlying3 g0
          obtain ⟨t, q1, _, w1⟩ := DataW.trod_int Try.underlying3 g1
          simp at q0 q1
          subst q0 q1
          exact ⟨(f, t), by simpa using e0, by simpa using e1, w0, w1⟩
    obtain ⟨q, hq⟩ := choose_lt hex
    refine ⟨(List.range len).map q, .inr ⟨x, cap, by simp, by simpa using hl, hm, fun i hi => ?_⟩, fun s hs => ?_⟩
    · simp at hi
      simp only [List.getElem_map, List.getElem_range]
      exact ⟨(hq i hi).1, (hq i hi).2.1⟩
    · simp at hs
      obtain ⟨i, hi, rfl⟩ := hs
      exact (hq i hi).2.2
end
end
section
open Go.ChangeShapes Go.WideShapes Go.ChangeAt Go.RowKit
theorem low_e (x : Int) (n : Nat) (A : Int) (w : World) (hn : 0 < n) (hn' : n < 1000000000) (hA : (lowN x n : Int) = A) : Calls Try.prog 24 #[.int .i64 x, .int .i64 n] w fun e w' => e = .returned (.int .i64 A) ∧ w = w' := by
  subst hA; exact low_any x n w hn hn'
theorem low_f (x m : Int) (n : Nat) (A : Int) (w : World) (hm : (n : Int) = m) (hn : 0 < n) (hn' : n < 1000000000) (hA : (lowN x n : Int) = A) : Calls Try.prog 24 #[.int .i64 x, .int .i64 m] w fun e w' => e = .returned (.int .i64 A) ∧ w = w' := by
  subst hA hm; exact low_any x n w hn hn'
theorem longe_any (w : World) (n : Int) (a : Option Addr) (len cap : Nat) (z : List ByteArray) (r : Bool) (h : IsStrs w a len cap z) (hn : 0 ≤ n) (hn2 : n ≤ 1000000) (hr : longL n (z.take len) = r) :
    Calls Try.prog 26 #[.int .i64 n, .slice a len cap] w fun e w' => e = .returned (.bool r) ∧ w = w' := by
  subst hr; exact long_any w n a len cap z h hn hn2
theorem strs_below {w w' : World} {a : Option Addr} {n cap : Nat} {z : List ByteArray} (h : IsStrs w a n cap z) (hb : Below w.heap.size w w') : IsStrs w' a n cap z := by
  rcases h with h | ⟨x, h1, h2, h3, h4, h5, h6⟩
  · exact .inl h
  · exact .inr ⟨x, h1, h2, h3, h4, fun i hi => cell_later hb (h5 i hi), h6⟩
end
section
open Go.ChangeShapes Go.WideShapes Go.ChangeAt Go.RowKit Go.Deep
open SpanM EdM
section
variable {H : Type} {enc : TypeId × Value → H} {W : World} {base : Nat} {held : Bool}
set_option maxRecDepth 100000 in
theorem open_edits_cells {fuel : Nat} {v : Value} {y : DataW H × List MemPlace} (hf : DataW.trod enc Try.prog W base (fun _ => true) held fuel 35 [v] = some y) :
    ∃ l : List Ed, EdAt W v l ∧ ∀ e ∈ l, WfE e := by
  rcases open_slice Try.underlying35 hf with ⟨hcs, _⟩ | ⟨x, len, cap, m, n, D, Pl, hcs, _, hl, hm, hmm, _, hx⟩
  · simp at hcs
    subst hcs
    exact ⟨[], .inl ⟨rfl, rfl⟩, by simp⟩
  · simp at hcs
    subst hcs
    have hC : Try.prog.cellsOf 61 = 3 := by kernel_rfl
    have hC2 : Try.prog.cellsOf 41 = 2 := by kernel_rfl
    have hC1 : Try.prog.cellsOf 3 = 1 := by kernel_rfl
    have hC0 : Try.prog.cellsOf 9 = 1 := by kernel_rfl
    refine edat_make hl hm fun i hi => ?_
    obtain ⟨cs, h1, h2⟩ := hx i (by simp only [if_true] at hmm; omega)
    rw [hC] at h1
    obtain ⟨_, hlen, hcell⟩ := World.cells?_some h1
    obtain ⟨xs, k, _, _, _, hxl, hg⟩ := DataW.trod_struct Try.underlying61 h2
    match cs, hlen with
    | [v0, v1, v2], _ =>
      have e0 := hcell 0 (by omega)
      have e1 := hcell 1 (by omega)
      have e2 := hcell 2 (by omega)
      rw [add_add] at e0 e1 e2
      match xs, hxl with
      | [y0, y1], _ =>
        have g0 := hg 0 _ rfl
        have g1 := hg 1 _ rfl
        replace g0 : DataW.trod enc Try.prog W base (fun _ => true) held k 41 (([v0, v1, v2].drop 0).take (Try.prog.cellsOf 41)) = some y0 := g0
        replace g1 : DataW.trod enc Try.prog W base (fun _ => true) held k 9 (([v0, v1, v2].drop 2).take (Try.prog.cellsOf 9)) = some y1 := g1
        rw [hC2] at g0
        rw [hC0] at g1
        obtain ⟨ys, k2, _, _, _, hyl, hs⟩ := DataW.trod_struct Try.underlying41 g0
        match ys, hyl with
        | [z0, z1], _ =>
          have s0 := hs 0 _ rfl
          have s1 := hs 1 _ rfl
          replace s0 : DataW.trod enc Try.prog W base (fun _ => true) held k2 3 (([v0, v1].drop 0).take (Try.prog.cellsOf 3)) = some z0 := s0
          replace s1 : DataW.trod enc Try.prog W base (fun _ => true) held k2 3 (([v0, v1].drop 1).take (Try.prog.cellsOf 3)) = some z1 := s1
          rw [hC1] at s0 s1
          obtain ⟨f, q0, _, w0⟩ := DataW.trod_int Try.underlying3 s0
          obtain ⟨t, q1, _, w1⟩ := DataW.trod_int Try.underlying3 s1
          obtain ⟨s, q2, _, w2⟩ := DataW.trod_string Try.underlying9 g1
          simp at q0 q1 q2
          subst q0 q1 q2
          exact ⟨((f, t), s), by simpa using e0, by simpa using e1, by simpa using e2, w0, w1, w2⟩
/-- A deed that came in: its numbers, its flags, its edits' slice and what that reads as. -/
structure Dd where
  k : Int
  a : Int
  b : Int
  c : Int
  p : Bool
  q : Bool
  v : Value
  ed : List Ed
instance : Inhabited Dd := ⟨⟨0, 0, 0, 0, false, false, .slice none 0 0, []⟩⟩
def WfD (d : Dd) : Prop := (Lit.int .i64 d.k).wf = true ∧ (Lit.int .i64 d.a).wf = true ∧ (Lit.int .i64 d.b).wf = true ∧ (Lit.int .i64 d.c).wf = true ∧ ∀ e ∈ d.ed, WfE e
def DdCells (w : World) (x : Addr) (i : Nat) (d : Dd) : Prop :=
  w.cell? (x.add (i * 7)) = some (.int .i64 d.k) ∧ w.cell? (x.add (i * 7 + 1)) = some (.int .i64 d.a) ∧ w.cell? (x.add (i * 7 + 2)) = some (.int .i64 d.b) ∧ w.cell? (x.add (i * 7 + 3)) = some (.int .i64 d.c) ∧ w.cell? (x.add (i * 7 + 4)) = some (.bool d.p) ∧ w.cell? (x.add (i * 7 + 5)) = some (.bool d.q) ∧ w.cell? (x.add (i * 7 + 6)) = some d.v ∧ EdAt w d.v d.ed
/-- The slice reads as l. -/
def DdAt (w : World) (v : Value) (l : List Dd) : Prop :=
  (v = .slice none 0 0 ∧ l = []) ∨ ∃ x c, v = .slice (some x) l.length c ∧ l.length ≤ c ∧ c ≤ maxLen ∧ ∀ i (h : i < l.length), DdCells w x i l[i]
theorem ddat_below {w w' : World} {v : Value} {l : List Dd} (h : DdAt w v l) (hb : Below w.heap.size w w') : DdAt w' v l := by
  rcases h with h | ⟨x, c, rfl, h1, h2, h3⟩
  · exact .inl h
  · refine .inr ⟨x, c, rfl, h1, h2, fun i hi => ?_⟩
    obtain ⟨c0, c1, c2, c3, c4, c5, c6, he⟩ := h3 i hi
    exact ⟨cell_later hb c0, cell_later hb c1, cell_later hb c2, cell_later hb c3, cell_later hb c4, cell_later hb c5, cell_later hb c6, edat_below he hb⟩
theorem ddat_len {w : World} {v : Value} {l : List Dd} (h : DdAt w v l) : ∃ a c, v = .slice a l.length c := by
  rcases h with ⟨rfl, rfl⟩ | ⟨x, c, rfl, _⟩
  · exact ⟨none, 0, rfl⟩
  · exact ⟨some x, c, rfl⟩
set_option maxRecDepth 100000 in
theorem open_deeds {r : Reach} {b0 : Nat} {v : Value} {d : DataW H} {p : List MemPlace} (hv : Value.okWide Try.prog W r b0 22 v) (h : DataW.Trod enc Try.prog W base (fun _ => true) held 22 v d p) :
    ∃ l : List Dd, DdAt W v l ∧ ∀ d ∈ l, WfD d := by
  obtain ⟨a, len, cap, rfl⟩ := okWide_slice Try.underlying22 hv
  obtain ⟨fuel, hf⟩ := h
  rcases open_slice Try.underlying22 hf with ⟨hcs, _⟩ | ⟨x, l, c, m, n, D, Pl, hcs, _, hl, hm, hmm, _, hx⟩
  · simp [Value.cells] at hcs
    obtain ⟨rfl, rfl, rfl⟩ := hcs
    exact ⟨[], .inl ⟨rfl, rfl⟩, by simp⟩
  · simp [Value.cells] at hcs
    obtain ⟨rfl, rfl, rfl⟩ := hcs
    have hC : Try.prog.cellsOf 37 = 7 := by kernel_rfl
    have hC1 : Try.prog.cellsOf 3 = 1 := by kernel_rfl
    have hCb : Try.prog.cellsOf 4 = 1 := by kernel_rfl
    have hCs : Try.prog.cellsOf 35 = 1 := by kernel_rfl
    have hex : ∀ i, i < len → ∃ d : Dd, DdCells W x i d ∧ WfD d := by
      intro i hi
      obtain ⟨cs, h1, h2⟩ := hx i (by simp only [if_true] at hmm; omega)
      rw [hC] at h1
      obtain ⟨_, hlen, hcell⟩ := World.cells?_some h1
      obtain ⟨xs, k, _, _, _, hxl, hg⟩ := DataW.trod_struct Try.underlying37 h2
      match cs, hlen with
      | [v0, v1, v2, v3, v4, v5, v6], _ =>
        have e0 := hcell 0 (by omega)
        have e1 := hcell 1 (by omega)
        have e2 := hcell 2 (by omega)
        have e3 := hcell 3 (by omega)
        have e4 := hcell 4 (by omega)
        have e5 := hcell 5 (by omega)
        have e6 := hcell 6 (by omega)
        rw [add_add] at e0 e1 e2 e3 e4 e5 e6
        match xs, hxl with
        | [y0, y1, y2, y3, y4, y5, y6], _ =>
          have g0 := hg 0 _ rfl
          have g1 := hg 1 _ rfl
          have g2 := hg 2 _ rfl
          have g3 := hg 3 _ rfl
          have g4 := hg 4 _ rfl
          have g5 := hg 5 _ rfl
          have g6 := hg 6 _ rfl
          replace g0 : DataW.trod enc Try.prog W base (fun _ => true) held k 3 (([v0, v1, v2, v3, v4, v5, v6].drop 0).take (Try.prog.cellsOf 3)) = some y0 := g0
          replace g1 : DataW.trod enc Try.prog W base (fun _ => true) held k 3 (([v0, v1, v2, v3, v4, v5, v6].drop 1).take (Try.prog.cellsOf 3)) = some y1 := g1
          replace g2 : DataW.trod enc Try.prog W base (fun _ => true) held k 3 (([v0, v1, v2, v3, v4, v5, v6].drop 2).take (Try.prog.cellsOf 3)) = some y2 := g2
          replace g3 : DataW.trod enc Try.prog W base (fun _ => true) held k 3 (([v0, v1, v2, v3, v4, v5, v6].drop 3).take (Try.prog.cellsOf 3)) = some y3 := g3
          replace g4 : DataW.trod enc Try.prog W base (fun _ => true) held k 4 (([v0, v1, v2, v3, v4, v5, v6].drop 4).take (Try.prog.cellsOf 4)) = some y4 := g4
          replace g5 : DataW.trod enc Try.prog W base (fun _ => true) held k 4 (([v0, v1, v2, v3, v4, v5, v6].drop 5).take (Try.prog.cellsOf 4)) = some y5 := g5
          replace g6 : DataW.trod enc Try.prog W base (fun _ => true) held k 35 (([v0, v1, v2, v3, v4, v5, v6].drop 6).take (Try.prog.cellsOf 35)) = some y6 := g6
          rw [hC1] at g0 g1 g2 g3
          rw [hCb] at g4 g5
          rw [hCs] at g6
          obtain ⟨a0, q0, _, w0⟩ := DataW.trod_int Try.underlying3 g0
          obtain ⟨a1, q1, _, w1⟩ := DataW.trod_int Try.underlying3 g1
          obtain ⟨a2, q2, _, w2⟩ := DataW.trod_int Try.underlying3 g2
          obtain ⟨a3, q3, _, w3⟩ := DataW.trod_int Try.underlying3 g3
          obtain ⟨a4, q4, _⟩ := DataW.trod_bool Try.underlying4 g4
          obtain ⟨a5, q5, _⟩ := DataW.trod_bool Try.underlying4 g5
          obtain ⟨le, hle, wle⟩ := open_edits_cells g6
          simp at q0 q1 q2 q3 q4 q5
          subst q0 q1 q2 q3 q4 q5
          exact ⟨⟨a0, a1, a2, a3, a4, a5, v6, le⟩, ⟨by simpa using e0, by simpa using e1, by simpa using e2, by simpa using e3, by simpa using e4, by simpa using e5, by simpa using e6, hle⟩, w0, w1, w2, w3, wle⟩
    obtain ⟨q, hq⟩ := choose_lt hex
    refine ⟨(List.range len).map q, .inr ⟨x, cap, by simp, by simpa using hl, hm, fun i hi => ?_⟩, fun s hs => ?_⟩
    · simp at hi
      simp only [List.getElem_map, List.getElem_range]
      exact (hq i hi).1
    · simp at hs
      obtain ⟨i, hi, rfl⟩ := hs
      exact (hq i hi).2
end
end
section
open Go.ChangeShapes Go.WideShapes Go.ChangeAt Go.RowKit
open SpanM
attribute [local go_sem ↓] Go.wp_at_zero Go.wp_at_succ
set_option maxRecDepth 100000
theorem kp_of {w w1 : World} {tb : Nat} {v : Value} (h : Below w.heap.size w w1) : Kp w w1 tb v := ⟨h.os, h.tape, h.output, h.size, fun k hk _ _ => h.block k hk⟩
theorem kp_set {w a : World} {tb : Nat} {v : Value} (h : Kp w a tb v) (j : Nat) (u : Value) : Kp w (a.setCell ⟨tb, j, none⟩ u) tb v :=
  ⟨h.os, h.tape, h.output, by simpa [World.setCell] using h.size, fun k hk h1 h2 => (Below.heap_setCell a _ u k h1).trans (h.block k hk h1 h2)⟩
theorem kp_below {w a b : World} {tb : Nat} {v : Value} (h : Kp w a tb v) (hb : Below a.heap.size a b) : Kp w b tb v :=
  ⟨hb.os.trans h.os, hb.tape.trans h.tape, hb.output.trans h.output, Nat.le_trans h.size hb.size, fun k hk h1 h2 => (hb.block k (Nat.lt_of_lt_of_le hk h.size)).trans (h.block k hk h1 h2)⟩
theorem kp_grown {w a b : World} {tb : Nat} {v : Value} (h : Kp w a tb v) (hg : a.grownBy b v.ownBlock) : Kp w b tb v :=
  ⟨hg.os.trans h.os, hg.tape.trans h.tape, hg.output.trans h.output, Nat.le_trans h.size hg.size, fun k hk h1 h2 => (hg.block k (Nat.lt_of_lt_of_le hk h.size) (fun e => h2 e.symm)).trans (h.block k hk h1 h2)⟩
theorem own_kp {w w' : World} {base n tb : Nat} {e : TypeId} {sz : Nat} {u v : Value} {xs : List Value} (h : w.ownsRow base e sz u n xs) (hk : Kp w w' tb v) (hn : ∀ k, u.ownBlock = some k → k ≠ tb ∧ v.ownBlock ≠ some k) : w'.ownsRow base e sz u n xs := by
  obtain ⟨h1, h2⟩ := h
  refine ⟨h1, ?_⟩
  rcases h2 with h2 | ⟨g, cap, cur, hv, hg, hh, r⟩
  · exact .inl h2
  · have hgb : u.ownBlock = some g := by rw [hv]; rfl
    exact .inr ⟨g, cap, cur, hv, hg, by rw [hk.block g (Array.getElem?_eq_some_iff.1 hh).1 (hn g hgb).1 (hn g hgb).2]; exact hh, r⟩
theorem Tab.kp {w w' : World} {B tb tb2 : Nat} {last : Int} {v v2 : Value} {l : List Mk} (h : Tab w B tb2 last v2 l) (hk : Kp w w' tb v) (h1 : tb2 ≠ tb) (h2 : v.ownBlock ≠ some tb2) (h3 : ∀ k, v2.ownBlock = some k → k ≠ tb ∧ v.ownBlock ≠ some k) : Tab w' B tb2 last v2 l :=
  ⟨h.low, (hk.block tb2 h.lt h1 h2).trans h.at0, own_kp h.own hk h3, h.off⟩
set_option maxHeartbeats 4000000 in
/-- Add without a parent, with its frame. -/
theorem add_fr (base tb : Nat) (last : Int) (v : Value) (l : List Mk) (f t : Int) (fr tr : Bool) (w : World) (h : Tab w base tb last v l) (hlast : 0 ≤ last ∧ last ≤ 1000000) (hB : base ≤ w.heap.size) (hm : mayB (f, t) 65536 = true) (hl : l.length < 256) :
    Calls Try.prog 27 #[.pointer (some ⟨tb, 0, none⟩), .agg #[.int .i64 f, .int .i64 t, .bool fr, .bool tr, .int .i64 0]] w fun e w' => e = .returned (.tuple #[.int .i64 (last + 1), .int .i64 0]) ∧ (∃ v', Tab w' base tb (last + 1) v' (l ++ [⟨last + 1, f, t, fr, tr, 0⟩])) ∧ Kp w w' tb v := by
  obtain ⟨i0, hi0, hz0', hz1, hz2⟩ := info_parts info_rec
  have hba : Below w.heap.size w (w.alloc (.cells #[.int .i64 f, .int .i64 t, .bool fr, .bool tr, .int .i64 0] 43)) := bl_alloc (bl_refl w) _
  have H := hide h
  obtain ⟨c0, c1, f0, f1⟩ := cells2 (h.later hba).at0
  have hlt := h.lt
  obtain ⟨aA, cA, rfl⟩ := own_slice h.own
  clear h
  go_enter Try.func27, Try.ntmps27
  go_wp2_with fail
  refine (may_any (f, t) 65536 _).mono ?_
  rw [hm]
  rintro e w1 ⟨rfl, hb1⟩
  have hf := (hb1.block w.heap.size (by simp)).trans (heap_alloc_new w (.cells #[.int .i64 f, .int .i64 t, .bool fr, .bool tr, .int .i64 0] 43))
  obtain ⟨e0, e1, e2, e3, e4, ef⟩ := box5 hf
  have H1 := H.out.later (bl_trans hba hb1)
  obtain ⟨d0, d1, g0, g1⟩ := cells2 H1.at0
  have hl2 : decide ((256 : Int) ≤ (l.length : Int)) = false := by simp; omega
  have hne : w.heap.size ≠ tb := by omega
  have H2 := H1.last' (last + 1)
  have hb2 : Kp w (w1.setCell ⟨tb, 0, none⟩ (.int .i64 (last + 1))) tb (.slice aA l.length cA) := kp_set (kp_of (bl_trans hba hb1)) 0 _
  have hf2 := (Below.heap_setCell w1 ⟨tb, 0, none⟩ (.int .i64 (last + 1)) w.heap.size hne).trans hf
  have hw1 : w.heap.size < w1.heap.size := (Array.getElem?_eq_some_iff.1 hf).1
  have hs2 : (w1.setCell ⟨tb, 0, none⟩ (.int .i64 (last + 1))).heap.size = w1.heap.size := by simp [World.setCell]
  go_wp2
  obtain ⟨w2, hw2⟩ : ∃ w2, w1.setCell ⟨tb, 0, none⟩ (.int .i64 (last + 1)) = w2 := ⟨_, rfl⟩
  rw [hw2] at H2 hb2 hf2 hs2 ⊢
  clear c0 c1 f0 f1 e0 e1 e2 e3 e4 ef d0 d1 g0 g1 hw2 H1 hf hb1
  obtain ⟨e0, e1, e2, e3, e4, ef⟩ := box5 hf2
  obtain ⟨d0, d1, g0, g1⟩ := cells2 H2.at0
  have hB2 : base ≤ w2.heap.size := Nat.le_trans hB hb2.size
  have hfin : ∀ W v', (w2.alloc (.cells #[.int .i64 (last + 1), .int .i64 f, .int .i64 t, .bool fr, .bool tr, .int .i64 0] 82)).drew = W → ∀ W', W'.ownsRow base 82 6 v' (l.length + 1) (flatM l ++ [.int .i64 (last + 1), .int .i64 f, .int .i64 t, .bool fr, .bool tr, .int .i64 0]) → W.grownBy W' (Value.slice aA l.length cA).ownBlock → (v'.ownBlock = (Value.slice aA l.length cA).ownBlock ∨ ∃ k, v'.ownBlock = some k ∧ W.heap.size ≤ k) →
      Tab (W'.setCell ⟨tb, 1, none⟩ v') base tb (last + 1) v' (l ++ [⟨last + 1, f, t, fr, tr, 0⟩]) ∧ Kp w (W'.setCell ⟨tb, 1, none⟩ v') tb (.slice aA l.length cA) := by
    rintro W v' rfl W' ho hg ha
    have hb3 : Below w2.heap.size w2 (w2.alloc (.cells #[.int .i64 (last + 1), .int .i64 f, .int .i64 t, .bool fr, .bool tr, .int .i64 0] 82)).drew := bl_drew (bl_alloc (bl_refl w2) _)
    have H3 := H2.later hb3
    refine ⟨H3.row' hg (by rw [List.length_append, flatM_app]; exact ho) ha, ?_⟩
    exact kp_set (kp_grown (kp_below hb2 hb3) hg) 1 _
  have HFIN := hide hfin
  have HOWN := hide H2.own
  have HAT := hide H2.at0
  have hlt2 := H2.lt
  have HOFF := hide H2.off
  clear hfin H2 hs2
  go_region_law (refine step_append_lies _ (by rfl) (.tmp 49) (.tmp 56) 73 (by rfl) base 82 i0 (.agg #[.int .i64 0, .int .i64 0, .int .i64 0, .bool false, .bool false, .int .i64 0]) 6 40 Try.underlying73 hi0 hz0' hz1 hz2 rfl (by decide) (.slice aA l.length cA) l.length (flatM l) (by rfl) (own_below HOWN.out (bl_drew (bl_alloc (bl_refl w2) _))) ⟨w2.heap.size, 0, none⟩ 1 1 [.int .i64 (last + 1), .int .i64 f, .int .i64 t, .bool fr, .bool tr, .int .i64 0] (by rfl) (by rfl) (World.news_of_block (heap_drew (heap_alloc_new w2 _))) (by simp [Value.oneCell']) (by decide) (by unfold maxLen; omega) (by omega) (by simp; omega) (w2.heap.size + 1) (by simp) ?_; intro g3 cap3 w3 ho3 hg3 ha3 hlt3; obtain ⟨k0, k1, k2, k3⟩ := cells2 (heap_kept hg3 (heap_drew (heap_old (o := .cells #[.int .i64 (last + 1), .int .i64 f, .int .i64 t, .bool fr, .bool tr, .int .i64 0] 82) HAT.out)) HOFF.out))
  all_goals
    have hz := HFIN.out _ _ rfl _ ho3 hg3 (ha3.imp (fun h => h.symm) (fun h => ⟨g3, rfl, by rw [h]; simp⟩))
    obtain ⟨j0, j1, j2, j3⟩ := cells2 hz.1.at0
    have HZ := hide hz
    clear hz HFIN
    go_wp2
    go_ret2
    exact ⟨rfl, ⟨_, HZ.out.1⟩, HZ.out.2⟩
set_option maxHeartbeats 4000000 in
/-- Add at a full table. -/
theorem add_full (base tb : Nat) (last : Int) (v : Value) (l : List Mk) (f t : Int) (fr tr : Bool) (w : World) (h : Tab w base tb last v l) (hm : mayB (f, t) 65536 = true) (hl : 256 ≤ l.length) :
    Calls Try.prog 27 #[.pointer (some ⟨tb, 0, none⟩), .agg #[.int .i64 f, .int .i64 t, .bool fr, .bool tr, .int .i64 0]] w fun e w' => e = .returned (.tuple #[.int .i64 0, .int .i64 7]) ∧ Below w.heap.size w w' := by
  have hba : Below w.heap.size w (w.alloc (.cells #[.int .i64 f, .int .i64 t, .bool fr, .bool tr, .int .i64 0] 43)) := bl_alloc (bl_refl w) _
  have H := hide h
  obtain ⟨c0, c1, f0, f1⟩ := cells2 (h.later hba).at0
  obtain ⟨aA, cA, rfl⟩ := own_slice h.own
  clear h
  go_enter Try.func27, Try.ntmps27
  go_wp2_with fail
  refine (may_any (f, t) 65536 _).mono ?_
  rw [hm]
  rintro e w1 ⟨rfl, hb1⟩
  have hf := (hb1.block w.heap.size (by simp)).trans (heap_alloc_new w (.cells #[.int .i64 f, .int .i64 t, .bool fr, .bool tr, .int .i64 0] 43))
  obtain ⟨e0, e1, e2, e3, e4, ef⟩ := box5 hf
  have H1 := H.out.later (bl_trans hba hb1)
  obtain ⟨d0, d1, g0, g1⟩ := cells2 H1.at0
  have hl2 : decide ((256 : Int) ≤ (l.length : Int)) = true := by simp; omega
  have hbz := bl_trans hba hb1
  go_wp2
  go_ret2
  exact ⟨rfl, hbz⟩
theorem infoI : (Try.prog.info? 3).map (fun i => (i.zero, i.size, i.bytes)) = some (some (.int .i64 0), 1, 8) := by kernel_rfl
theorem ids1_any (r : Mk) (w : World) : Calls Try.prog 42 #[.agg #[.int .i64 r.id, .int .i64 r.f, .int .i64 r.t, .bool r.b, .bool r.c, .int .i64 r.p]] w fun e w' => e = .returned (.bool true) ∧ Below w.heap.size w w' := by
  obtain ⟨id, f, t, rb, rc, p⟩ := r
  go_enter Try.func42, Try.ntmps42
  go_wp2
  go_ret
  exact ⟨rfl, bl_alloc (bl_refl w) _⟩
def IdsInv (l : List Mk) (w : World) (s i : Value) (wr : World) : Prop :=
  ∃ k : Nat, i = .int .i64 k ∧ k ≤ l.length ∧ Hid (wr.ownsRow w.heap.size 3 1 s k ((l.take k).map fun r => .int .i64 r.id)) ∧ Below w.heap.size w wr
set_option maxHeartbeats 4000000 in
theorem idsall_any (base tb : Nat) (last : Int) (v : Value) (l : List Mk) (w : World) (h : Tab w base tb last v l) (hl : l.length ≤ 100000) :
    Calls Try.prog 41 #[.pointer (some ⟨tb, 0, none⟩), .func (.func 42) #[] #[]] w fun e w' => (∃ v', e = .returned v' ∧ w'.ownsRow w.heap.size 3 1 v' l.length (l.map fun r => .int .i64 r.id)) ∧ Below w.heap.size w w' := by
  obtain ⟨i0, hi0, hz0', hz1, hz2⟩ := info_parts infoI
  obtain ⟨c0, c1, f0, f1⟩ := cells2 h.at0
  have H := hide h
  rcases h.form with ⟨rfl, rfl⟩ | ⟨g, c, rfl, hg1, hg2, hg3, hg4, hg5⟩
  · clear h
    go_enter Try.func41, Try.ntmps41
    go_wp2
    refine wp_loop_rounds 1 ?_
    rw [rounds_succ]
    go_wp2
    go_ret
    exact ⟨⟨_, rfl, ⟨rfl, .inl ⟨rfl, rfl⟩⟩⟩, bl_refl w⟩
  unfold maxLen at hg4
  clear h
  go_enter Try.func41, Try.ntmps41
  go_wp2
  go_loopw [5, 15] (fun s i wr => IdsInv l w s i wr) (fun _ i _ => l.length - (intOf i).toNat)
  case atStart => exact ⟨0, rfl, Nat.zero_le _, hide ⟨rfl, .inl ⟨rfl, rfl⟩⟩, bl_refl w⟩
  case round =>
    obtain ⟨k, rfl, hk, HK, hbl⟩ := hrel
    obtain ⟨aV, cV, hkv⟩ := own_slice HK.out
    subst hkv
    by_cases hlt : k < l.length
    · obtain ⟨x0, x1, x2, x3, x4, x5⟩ := (H.out.later hbl).cell k hlt
      have hfin : ∀ (v' : Value) (W : World), W.ownsRow w.heap.size 3 1 v' (k + 1) (((l.take k).map fun r => Value.int .i64 r.id) ++ [.int .i64 l[k].id]) → Hid (W.ownsRow w.heap.size 3 1 v' (k + 1) ((l.take (k + 1)).map fun r => .int .i64 r.id)) := fun v' W h => hide (by rw [List.take_succ_eq_append_getElem hlt, List.map_append]; exact h)
      have HFIN := hide hfin
      have hcall := fun W => ids1_any l[k] W
      clear hfin
      generalize l[k] = r at *
      obtain ⟨id, f, t, rb, rc, p⟩ := r
      simp only at x0 x1 x2 x3 x4 x5
      have HCALL := hide hcall
      clear hcall
      go_wp2_with fail
      refine (HCALL.out _).mono ?_
      rintro e w2 ⟨rfl, hb2⟩
      have hba : Below wr.heap.size wr w2 := bl_trans (bl_alloc (bl_refl wr) (.cells #[.int .i64 id, .int .i64 f, .int .i64 t, .bool rb, .bool rc, .int .i64 p] 82)) hb2
      have hf := (hb2.block wr.heap.size (by simp)).trans (heap_alloc_new wr (.cells #[.int .i64 id, .int .i64 f, .int .i64 t, .bool rb, .bool rc, .int .i64 p] 82))
      have z0 : w2.cell? ⟨wr.heap.size, 0, none⟩ = some (.int .i64 id) := by rw [cell_of_row w2 wr.heap.size 0 _ _ _ hf]; rfl
      have hrow := own_below HK.out hba
      have hbe2 := bl_trans hbl hba
      have hlz : w.heap.size ≤ w2.heap.size := hbe2.size
      clear hf HCALL
      go_wp2_with (at_builtin; (refine wpList_push w2 rfl _ _ 28 rfl w.heap.size 3 i0 (.int .i64 0) 1 8 Try.underlying28 hi0 hz0' hz1 hz2 rfl (by decide) (.slice aV k cV) k ((l.take k).map fun r => .int .i64 r.id) rfl hrow 1 #[.int .i64 id] rfl rfl (by simp [Value.oneCell']) (by omega) (by decide) (by omega) ?_); intro v' w4 hv4 hgr4 hat)
      have hb4 : Below w.heap.size w w4 := bl_own hbe2 hrow hgr4 (Nat.le_refl _)
      refine ⟨?_, by first | (simp [intOf]; done) | (simp [intOf]; omega)⟩
      exact ⟨k + 1, by go_num, by omega, HFIN.out _ _ hv4, hb4⟩
    · obtain rfl : k = l.length := by omega
      have hfin : Hid (wr.ownsRow w.heap.size 3 1 (.slice aV l.length cV) l.length (l.map fun r => .int .i64 r.id)) := hide (by have := HK.out; rw [List.take_length] at this; exact this)
      clear HK
      go_wp2
      go_ret
      exact ⟨⟨_, rfl, hfin.out⟩, hbl⟩
theorem idsT_any (base tb : Nat) (last : Int) (v : Value) (l : List Mk) (w : World) (h : Tab w base tb last v l) (hl : l.length ≤ 100000) :
    Calls Try.prog 19 #[.pointer (some ⟨tb, 0, none⟩)] w fun e w' => (∃ v', e = .returned v' ∧ w'.ownsRow w.heap.size 3 1 v' l.length (l.map fun r => .int .i64 r.id)) ∧ Below w.heap.size w w' := by
  have HC := hide (idsall_any base tb last v l w h hl)
  clear h
  go_enter Try.func19, Try.ntmps19
  go_wp2_with fail
  refine HC.out.mono ?_
  rintro e w1 ⟨⟨v', rfl, ho⟩, hb1⟩
  have HO := hide ho
  obtain ⟨a, c, rfl⟩ := own_slice ho
  clear ho
  go_wp2
  go_ret
  exact ⟨⟨_, rfl, HO.out⟩, hb1⟩
end
section
open Go.ChangeShapes Go.WideShapes Go.ChangeAt Go.RowKit
open SpanM
attribute [local go_sem ↓] Go.wp_at_zero Go.wp_at_succ
set_option maxRecDepth 100000
theorem got_in {L : List Mk} {x : Int} {r : Value} {ok : Bool} (hR : RiseM L) (h : GotM L x r ok) (i0 : Nat) (hi0 : i0 < L.length) (hid : L[i0].id = x) : r = vR L[i0] ∧ ok = true := by
  rcases h with ⟨h1, i, hi, hx, hv⟩ | ⟨_, _, hno⟩
  · have : i = i0 := by
      rcases Nat.lt_trichotomy i i0 with h | h | h
      · have := rise_at hR i i0 h hi0; omega
      · exact h
      · have := rise_at hR i0 i h hi; omega
    subst this
    exact ⟨hv, h1⟩
  · exact absurd hid (hno _ (List.getElem_mem hi0))
theorem got_no {L : List Mk} {x : Int} {r : Value} {ok : Bool} (h : GotM L x r ok) (hx : ∀ q ∈ L, q.id ≠ x) : r = zeroR ∧ ok = false := by
  rcases h with ⟨_, i, hi, hid, _⟩ | ⟨h1, h2, _⟩
  · exact absurd hid (hx _ (List.getElem_mem hi))
  · exact ⟨h2, h1⟩
set_option maxHeartbeats 4000000 in
/-- Add within a parent, with its frame. -/
theorem add_par (base tb : Nat) (last : Int) (v : Value) (l : List Mk) (f t p : Int) (fr tr : Bool) (w : World) (h : Tab w base tb last v l) (hlast : 0 ≤ last ∧ last ≤ 1000000) (hB : base ≤ w.heap.size) (hm : mayB (f, t) 65536 = true) (hl : l.length < 256) (hs : RiseM l) (hp : p ≠ 0) (hq : ∃ (i : Nat) (hi : i < l.length), l[i].id = p ∧ withinB (f, t) (l[i].f, l[i].t) = true) :
    Calls Try.prog 27 #[.pointer (some ⟨tb, 0, none⟩), .agg #[.int .i64 f, .int .i64 t, .bool fr, .bool tr, .int .i64 p]] w fun e w' => e = .returned (.tuple #[.int .i64 (last + 1), .int .i64 0]) ∧ (∃ v', Tab w' base tb (last + 1) v' (l ++ [⟨last + 1, f, t, fr, tr, p⟩])) ∧ Kp w w' tb v := by
  obtain ⟨i0, hi0, hz0', hz1, hz2⟩ := info_parts info_rec
  have hba : Below w.heap.size w (w.alloc (.cells #[.int .i64 f, .int .i64 t, .bool fr, .bool tr, .int .i64 p] 43)) := bl_alloc (bl_refl w) _
  have H := hide h
  obtain ⟨c0, c1, f0, f1⟩ := cells2 (h.later hba).at0
  have hlt := h.lt
  obtain ⟨aA, cA, rfl⟩ := own_slice h.own
  clear h
  go_enter Try.func27, Try.ntmps27
  go_wp2_with fail
  refine (may_any (f, t) 65536 _).mono ?_
  rw [hm]
  rintro e wa ⟨rfl, hba1⟩
  have hfa := (hba1.block w.heap.size (by simp)).trans (heap_alloc_new w (.cells #[.int .i64 f, .int .i64 t, .bool fr, .bool tr, .int .i64 p] 43))
  obtain ⟨e0, e1, e2, e3, e4, ef⟩ := box5 hfa
  have hltx := (Array.getElem?_eq_some_iff.1 hfa).1
  have Ha := H.out.later (bl_trans hba hba1)
  have HGET := hide (get_any base tb last _ l p wa Ha hs (by omega))
  have hp' : (p == 0) = false := beq_eq_false_iff_ne.2 hp
  clear Ha c0 c1 f0 f1
  go_wp2_with fail
  refine HGET.out.mono ?_
  rintro e wb ⟨⟨rq, ok, rfl, hgot⟩, hbb⟩
  obtain ⟨iq, hiq, hidq, hwin⟩ := hq
  obtain ⟨rfl, rfl⟩ := got_in hs hgot iq hiq hidq
  generalize l[iq] = rr at hwin
  obtain ⟨qi, qf, qt, qb, qc, qp⟩ := rr
  have hfb := (hbb.block w.heap.size hltx).trans hfa
  have hltb := (Array.getElem?_eq_some_iff.1 hfb).1
  obtain ⟨u0, u1, u2, u3, u4, uf⟩ := box5 hfb
  have HWIN := hide hwin
  clear hgot HGET hwin hidq e0 e1 e2 e3 e4 ef
  unfold vR
  go_wp2_with fail
  refine (within_any (f, t) (qf, qt) _).mono ?_
  rw [show withinB (f, t) (qf, qt) = true from HWIN.out]
  rintro e w1 ⟨rfl, hb1w⟩
  have hb1 : Below (w.alloc (.cells #[.int .i64 f, .int .i64 t, .bool fr, .bool tr, .int .i64 p] 43)).heap.size (w.alloc (.cells #[.int .i64 f, .int .i64 t, .bool fr, .bool tr, .int .i64 p] 43)) w1 := bl_trans hba1 (bl_trans hbb (bl_trans (bl_alloc (bl_refl wb) _) hb1w))
  have hf := (hb1.block w.heap.size (by simp)).trans (heap_alloc_new w (.cells #[.int .i64 f, .int .i64 t, .bool fr, .bool tr, .int .i64 p] 43))
  obtain ⟨e0, e1, e2, e3, e4, ef⟩ := box5 hf
  have H1 := H.out.later (bl_trans hba hb1)
  clear u0 u1 u2 u3 u4 uf hfb hltb hfa hba1 hbb hb1w
  obtain ⟨d0, d1, g0, g1⟩ := cells2 H1.at0
  have hl2 : decide ((256 : Int) ≤ (l.length : Int)) = false := by simp; omega
  have hne : w.heap.size ≠ tb := by omega
  have H2 := H1.last' (last + 1)
  have hb2 : Kp w (w1.setCell ⟨tb, 0, none⟩ (.int .i64 (last + 1))) tb (.slice aA l.length cA) := kp_set (kp_of (bl_trans hba hb1)) 0 _
  have hf2 := (Below.heap_setCell w1 ⟨tb, 0, none⟩ (.int .i64 (last + 1)) w.heap.size hne).trans hf
  have hw1 : w.heap.size < w1.heap.size := (Array.getElem?_eq_some_iff.1 hf).1
  have hs2 : (w1.setCell ⟨tb, 0, none⟩ (.int .i64 (last + 1))).heap.size = w1.heap.size := by simp [World.setCell]
  go_wp2
  obtain ⟨w2, hw2⟩ : ∃ w2, w1.setCell ⟨tb, 0, none⟩ (.int .i64 (last + 1)) = w2 := ⟨_, rfl⟩
  rw [hw2] at H2 hb2 hf2 hs2 ⊢
  clear e0 e1 e2 e3 e4 ef d0 d1 g0 g1 hw2 H1 hf hb1
  obtain ⟨e0, e1, e2, e3, e4, ef⟩ := box5 hf2
  obtain ⟨d0, d1, g0, g1⟩ := cells2 H2.at0
  have hB2 : base ≤ w2.heap.size := Nat.le_trans hB hb2.size
  have hfin : ∀ W v', (w2.alloc (.cells #[.int .i64 (last + 1), .int .i64 f, .int .i64 t, .bool fr, .bool tr, .int .i64 p] 82)).drew = W → ∀ W', W'.ownsRow base 82 6 v' (l.length + 1) (flatM l ++ [.int .i64 (last + 1), .int .i64 f, .int .i64 t, .bool fr, .bool tr, .int .i64 p]) → W.grownBy W' (Value.slice aA l.length cA).ownBlock → (v'.ownBlock = (Value.slice aA l.length cA).ownBlock ∨ ∃ k, v'.ownBlock = some k ∧ W.heap.size ≤ k) →
      Tab (W'.setCell ⟨tb, 1, none⟩ v') base tb (last + 1) v' (l ++ [⟨last + 1, f, t, fr, tr, p⟩]) ∧ Kp w (W'.setCell ⟨tb, 1, none⟩ v') tb (.slice aA l.length cA) := by
    rintro W v' rfl W' ho hg ha
    have hb3 : Below w2.heap.size w2 (w2.alloc (.cells #[.int .i64 (last + 1), .int .i64 f, .int .i64 t, .bool fr, .bool tr, .int .i64 p] 82)).drew := bl_drew (bl_alloc (bl_refl w2) _)
    have H3 := H2.later hb3
    refine ⟨H3.row' hg (by rw [List.length_append, flatM_app]; exact ho) ha, ?_⟩
    exact kp_set (kp_grown (kp_below hb2 hb3) hg) 1 _
  have HFIN := hide hfin
  have HOWN := hide H2.own
  have HAT := hide H2.at0
  have hlt2 := H2.lt
  have HOFF := hide H2.off
  clear hfin H2 hs2
  go_region_law (refine step_append_lies _ (by rfl) (.tmp 49) (.tmp 56) 73 (by rfl) base 82 i0 (.agg #[.int .i64 0, .int .i64 0, .int .i64 0, .bool false, .bool false, .int .i64 0]) 6 40 Try.underlying73 hi0 hz0' hz1 hz2 rfl (by decide) (.slice aA l.length cA) l.length (flatM l) (by rfl) (own_below HOWN.out (bl_drew (bl_alloc (bl_refl w2) _))) ⟨w2.heap.size, 0, none⟩ 1 1 [.int .i64 (last + 1), .int .i64 f, .int .i64 t, .bool fr, .bool tr, .int .i64 p] (by rfl) (by rfl) (World.news_of_block (heap_drew (heap_alloc_new w2 _))) (by simp [Value.oneCell']) (by decide) (by unfold maxLen; omega) (by omega) (by simp; omega) (w2.heap.size + 1) (by simp) ?_; intro g3 cap3 w3 ho3 hg3 ha3 hlt3; obtain ⟨k0, k1, k2, k3⟩ := cells2 (heap_kept hg3 (heap_drew (heap_old (o := .cells #[.int .i64 (last + 1), .int .i64 f, .int .i64 t, .bool fr, .bool tr, .int .i64 p] 82) HAT.out)) HOFF.out))
  all_goals
    have hz := HFIN.out _ _ rfl _ ho3 hg3 (ha3.imp (fun h => h.symm) (fun h => ⟨g3, rfl, by rw [h]; simp⟩))
    obtain ⟨j0, j1, j2, j3⟩ := cells2 hz.1.at0
    have HZ := hide hz
    clear hz HFIN
    go_wp2
    go_ret2
    exact ⟨rfl, ⟨_, HZ.out.1⟩, HZ.out.2⟩
set_option maxHeartbeats 4000000 in
/-- A range that may not be. -/
theorem add_bad (base tb : Nat) (last : Int) (v : Value) (l : List Mk) (f t p : Int) (fr tr : Bool) (w : World) (h : Tab w base tb last v l) (hm : mayB (f, t) 65536 = false) :
    Calls Try.prog 27 #[.pointer (some ⟨tb, 0, none⟩), .agg #[.int .i64 f, .int .i64 t, .bool fr, .bool tr, .int .i64 p]] w fun e w' => e = .returned (.tuple #[.int .i64 0, .int .i64 3]) ∧ Below w.heap.size w w' := by
  have hba : Below w.heap.size w (w.alloc (.cells #[.int .i64 f, .int .i64 t, .bool fr, .bool tr, .int .i64 p] 43)) := bl_alloc (bl_refl w) _
  have H := hide h
  obtain ⟨c0, c1, f0, f1⟩ := cells2 (h.later hba).at0
  obtain ⟨aA, cA, rfl⟩ := own_slice h.own
  clear h
  go_enter Try.func27, Try.ntmps27
  go_wp2_with fail
  refine (may_any (f, t) 65536 _).mono ?_
  rw [hm]
  rintro e w1 ⟨rfl, hb1⟩
  have hf := (hb1.block w.heap.size (by simp)).trans (heap_alloc_new w (.cells #[.int .i64 f, .int .i64 t, .bool fr, .bool tr, .int .i64 p] 43))
  obtain ⟨e0, e1, e2, e3, e4, ef⟩ := box5 hf
  have H1 := H.out.later (bl_trans hba hb1)
  obtain ⟨d0, d1, g0, g1⟩ := cells2 H1.at0
  have hbz := bl_trans hba hb1
  go_wp2
  go_ret2
  exact ⟨rfl, hbz⟩
set_option maxHeartbeats 4000000 in
/-- Add within a parent at a full table. -/
theorem add_parfull (base tb : Nat) (last : Int) (v : Value) (l : List Mk) (f t p : Int) (fr tr : Bool) (w : World) (h : Tab w base tb last v l) (hm : mayB (f, t) 65536 = true) (hl : 256 ≤ l.length) (hl9 : l.length ≤ 100000) (hs : RiseM l) (hp : p ≠ 0) (hq : ∃ (i : Nat) (hi : i < l.length), l[i].id = p ∧ withinB (f, t) (l[i].f, l[i].t) = true) :
    Calls Try.prog 27 #[.pointer (some ⟨tb, 0, none⟩), .agg #[.int .i64 f, .int .i64 t, .bool fr, .bool tr, .int .i64 p]] w fun e w' => e = .returned (.tuple #[.int .i64 0, .int .i64 7]) ∧ Below w.heap.size w w' := by
  have hba : Below w.heap.size w (w.alloc (.cells #[.int .i64 f, .int .i64 t, .bool fr, .bool tr, .int .i64 p] 43)) := bl_alloc (bl_refl w) _
  have H := hide h
  obtain ⟨c0, c1, f0, f1⟩ := cells2 (h.later hba).at0
  obtain ⟨aA, cA, rfl⟩ := own_slice h.own
  clear h
  go_enter Try.func27, Try.ntmps27
  go_wp2_with fail
  refine (may_any (f, t) 65536 _).mono ?_
  rw [hm]
  rintro e wa ⟨rfl, hba1⟩
  have hfa := (hba1.block w.heap.size (by simp)).trans (heap_alloc_new w (.cells #[.int .i64 f, .int .i64 t, .bool fr, .bool tr, .int .i64 p] 43))
  obtain ⟨e0, e1, e2, e3, e4, ef⟩ := box5 hfa
  have hltx := (Array.getElem?_eq_some_iff.1 hfa).1
  have Ha := H.out.later (bl_trans hba hba1)
  have HGET := hide (get_any base tb last _ l p wa Ha hs (by omega))
  have hp' : (p == 0) = false := beq_eq_false_iff_ne.2 hp
  clear Ha c0 c1 f0 f1
  go_wp2_with fail
  refine HGET.out.mono ?_
  rintro e wb ⟨⟨rq, ok, rfl, hgot⟩, hbb⟩
  obtain ⟨iq, hiq, hidq, hwin⟩ := hq
  obtain ⟨rfl, rfl⟩ := got_in hs hgot iq hiq hidq
  generalize l[iq] = rr at hwin
  obtain ⟨qi, qf, qt, qb, qc, qp⟩ := rr
  have hfb := (hbb.block w.heap.size hltx).trans hfa
  have hltb := (Array.getElem?_eq_some_iff.1 hfb).1
  obtain ⟨u0, u1, u2, u3, u4, uf⟩ := box5 hfb
  have HWIN := hide hwin
  clear hgot HGET hwin hidq e0 e1 e2 e3 e4 ef
  unfold vR
  go_wp2_with fail
  refine (within_any (f, t) (qf, qt) _).mono ?_
  rw [show withinB (f, t) (qf, qt) = true from HWIN.out]
  rintro e w1 ⟨rfl, hb1w⟩
  have hb1 : Below (w.alloc (.cells #[.int .i64 f, .int .i64 t, .bool fr, .bool tr, .int .i64 p] 43)).heap.size (w.alloc (.cells #[.int .i64 f, .int .i64 t, .bool fr, .bool tr, .int .i64 p] 43)) w1 := bl_trans hba1 (bl_trans hbb (bl_trans (bl_alloc (bl_refl wb) _) hb1w))
  have hf := (hb1.block w.heap.size (by simp)).trans (heap_alloc_new w (.cells #[.int .i64 f, .int .i64 t, .bool fr, .bool tr, .int .i64 p] 43))
  obtain ⟨e0, e1, e2, e3, e4, ef⟩ := box5 hf
  have H1 := H.out.later (bl_trans hba hb1)
  clear u0 u1 u2 u3 u4 uf hfb hltb hfa hba1 hbb hb1w
  obtain ⟨d0, d1, g0, g1⟩ := cells2 H1.at0
  have hl2 : decide ((256 : Int) ≤ (l.length : Int)) = true := by simp; omega
  have hbz := bl_trans hba hb1
  go_wp2
  go_ret2
  exact ⟨rfl, hbz⟩
set_option maxHeartbeats 4000000 in
/-- A range that does not lie in its parent. -/
theorem add_out (base tb : Nat) (last : Int) (v : Value) (l : List Mk) (f t p : Int) (fr tr : Bool) (w : World) (h : Tab w base tb last v l) (hm : mayB (f, t) 65536 = true) (hl9 : l.length ≤ 100000) (hs : RiseM l) (hp : p ≠ 0) (hq : ∃ (i : Nat) (hi : i < l.length), l[i].id = p ∧ withinB (f, t) (l[i].f, l[i].t) = false) :
    Calls Try.prog 27 #[.pointer (some ⟨tb, 0, none⟩), .agg #[.int .i64 f, .int .i64 t, .bool fr, .bool tr, .int .i64 p]] w fun e w' => e = .returned (.tuple #[.int .i64 0, .int .i64 2]) ∧ Below w.heap.size w w' := by
  have hba : Below w.heap.size w (w.alloc (.cells #[.int .i64 f, .int .i64 t, .bool fr, .bool tr, .int .i64 p] 43)) := bl_alloc (bl_refl w) _
  have H := hide h
  obtain ⟨c0, c1, f0, f1⟩ := cells2 (h.later hba).at0
  obtain ⟨aA, cA, rfl⟩ := own_slice h.own
  clear h
  go_enter Try.func27, Try.ntmps27
  go_wp2_with fail
  refine (may_any (f, t) 65536 _).mono ?_
  rw [hm]
  rintro e wa ⟨rfl, hba1⟩
  have hfa := (hba1.block w.heap.size (by simp)).trans (heap_alloc_new w (.cells #[.int .i64 f, .int .i64 t, .bool fr, .bool tr, .int .i64 p] 43))
  obtain ⟨e0, e1, e2, e3, e4, ef⟩ := box5 hfa
  have hltx := (Array.getElem?_eq_some_iff.1 hfa).1
  have Ha := H.out.later (bl_trans hba hba1)
  have HGET := hide (get_any base tb last _ l p wa Ha hs (by omega))
  have hp' : (p == 0) = false := beq_eq_false_iff_ne.2 hp
  clear Ha c0 c1 f0 f1
  go_wp2_with fail
  refine HGET.out.mono ?_
  rintro e wb ⟨⟨rq, ok, rfl, hgot⟩, hbb⟩
  obtain ⟨iq, hiq, hidq, hwin⟩ := hq
  obtain ⟨rfl, rfl⟩ := got_in hs hgot iq hiq hidq
  generalize l[iq] = rr at hwin
  obtain ⟨qi, qf, qt, qb, qc, qp⟩ := rr
  have hfb := (hbb.block w.heap.size hltx).trans hfa
  have hltb := (Array.getElem?_eq_some_iff.1 hfb).1
  obtain ⟨u0, u1, u2, u3, u4, uf⟩ := box5 hfb
  have HWIN := hide hwin
  clear hgot HGET hwin hidq e0 e1 e2 e3 e4 ef
  unfold vR
  go_wp2_with fail
  refine (within_any (f, t) (qf, qt) _).mono ?_
  rw [show withinB (f, t) (qf, qt) = false from HWIN.out]
  rintro e w1 ⟨rfl, hb1w⟩
  have hb1 : Below (w.alloc (.cells #[.int .i64 f, .int .i64 t, .bool fr, .bool tr, .int .i64 p] 43)).heap.size (w.alloc (.cells #[.int .i64 f, .int .i64 t, .bool fr, .bool tr, .int .i64 p] 43)) w1 := bl_trans hba1 (bl_trans hbb (bl_trans (bl_alloc (bl_refl wb) _) hb1w))
  have hf := (hb1.block w.heap.size (by simp)).trans (heap_alloc_new w (.cells #[.int .i64 f, .int .i64 t, .bool fr, .bool tr, .int .i64 p] 43))
  obtain ⟨e0, e1, e2, e3, e4, ef⟩ := box5 hf
  have H1 := H.out.later (bl_trans hba hb1)
  clear u0 u1 u2 u3 u4 uf hfb hltb hfa hba1 hbb hb1w
  have hbz := bl_trans hba hb1
  go_wp2
  go_ret2
  exact ⟨rfl, hbz⟩
set_option maxHeartbeats 4000000 in
/-- A parent that is not there. -/
theorem add_none (base tb : Nat) (last : Int) (v : Value) (l : List Mk) (f t p : Int) (fr tr : Bool) (w : World) (h : Tab w base tb last v l) (hm : mayB (f, t) 65536 = true) (hl9 : l.length ≤ 100000) (hs : RiseM l) (hp : p ≠ 0) (hq : ∀ r ∈ l, r.id ≠ p) :
    Calls Try.prog 27 #[.pointer (some ⟨tb, 0, none⟩), .agg #[.int .i64 f, .int .i64 t, .bool fr, .bool tr, .int .i64 p]] w fun e w' => e = .returned (.tuple #[.int .i64 0, .int .i64 6]) ∧ Below w.heap.size w w' := by
  have hba : Below w.heap.size w (w.alloc (.cells #[.int .i64 f, .int .i64 t, .bool fr, .bool tr, .int .i64 p] 43)) := bl_alloc (bl_refl w) _
  have H := hide h
  obtain ⟨c0, c1, f0, f1⟩ := cells2 (h.later hba).at0
  obtain ⟨aA, cA, rfl⟩ := own_slice h.own
  clear h
  go_enter Try.func27, Try.ntmps27
  go_wp2_with fail
  refine (may_any (f, t) 65536 _).mono ?_
  rw [hm]
  rintro e wa ⟨rfl, hba1⟩
  have hfa := (hba1.block w.heap.size (by simp)).trans (heap_alloc_new w (.cells #[.int .i64 f, .int .i64 t, .bool fr, .bool tr, .int .i64 p] 43))
  obtain ⟨e0, e1, e2, e3, e4, ef⟩ := box5 hfa
  have hltx := (Array.getElem?_eq_some_iff.1 hfa).1
  have Ha := H.out.later (bl_trans hba hba1)
  have HGET := hide (get_any base tb last _ l p wa Ha hs (by omega))
  have hp' : (p == 0) = false := beq_eq_false_iff_ne.2 hp
  clear Ha c0 c1 f0 f1
  go_wp2_with fail
  refine HGET.out.mono ?_
  rintro e wb ⟨⟨rq, ok, rfl, hgot⟩, hbb⟩
  obtain ⟨rfl, rfl⟩ := got_no hgot hq
  have hbz := bl_trans (bl_trans (bl_trans hba hba1) hbb) (bl_alloc (bl_refl wb) (.cells #[.int .i64 0, .int .i64 0, .bool false, .bool false, .int .i64 0] 43))
  clear hgot HGET
  unfold zeroR
  go_wp2
  go_ret2
  exact ⟨rfl, hbz⟩
/-- Add, whatever the range is. -/
theorem addG_any (base tb : Nat) (last : Int) (v : Value) (l : List Mk) (f t p : Int) (fr tr : Bool) (w : World) (h : Tab w base tb last v l) (hs : RiseM l) (hlast : 0 ≤ last ∧ last ≤ 1000000) (hB : base ≤ w.heap.size) (hl : l.length ≤ 256) :
    Calls Try.prog 27 #[.pointer (some ⟨tb, 0, none⟩), .agg #[.int .i64 f, .int .i64 t, .bool fr, .bool tr, .int .i64 p]] w fun e w' =>
      e = .returned (.tuple #[.int .i64 (addM last l f t fr tr p).1, .int .i64 (addM last l f t fr tr p).2.1]) ∧ (∃ v', Tab w' base tb (addM last l f t fr tr p).2.2.1 v' (addM last l f t fr tr p).2.2.2) ∧ Kp w w' tb v := by
  have stay : ∀ {n e : Int}, (Calls Try.prog 27 #[.pointer (some ⟨tb, 0, none⟩), .agg #[.int .i64 f, .int .i64 t, .bool fr, .bool tr, .int .i64 p]] w fun x w' => x = .returned (.tuple #[.int .i64 n, .int .i64 e]) ∧ Below w.heap.size w w') → addM last l f t fr tr p = (n, e, last, l) →
      Calls Try.prog 27 #[.pointer (some ⟨tb, 0, none⟩), .agg #[.int .i64 f, .int .i64 t, .bool fr, .bool tr, .int .i64 p]] w fun e w' =>
        e = .returned (.tuple #[.int .i64 (addM last l f t fr tr p).1, .int .i64 (addM last l f t fr tr p).2.1]) ∧ (∃ v', Tab w' base tb (addM last l f t fr tr p).2.2.1 v' (addM last l f t fr tr p).2.2.2) ∧ Kp w w' tb v := fun hc he => by
    rw [he]
    exact hc.mono fun x w' ⟨h1, h2⟩ => ⟨h1, ⟨v, h.later h2⟩, kp_of h2⟩
  cases hm : mayB (f, t) 65536
  · exact stay (add_bad base tb last v l f t p fr tr w h hm) (by unfold addM; rw [if_pos hm])
  · by_cases hp : p = 0
    · subst hp
      have hpar : ParM l f t 0 = 0 := by unfold ParM; rw [if_pos rfl]
      by_cases hf : 256 ≤ l.length
      · exact stay (add_full base tb last v l f t fr tr w h hm hf) (by unfold addM; rw [if_neg (by simp [hm]), if_neg (by simp [hpar]), if_pos hf])
      · have he : addM last l f t fr tr 0 = (last + 1, 0, last + 1, l ++ [⟨last + 1, f, t, fr, tr, 0⟩]) := by unfold addM; rw [if_neg (by simp [hm]), if_neg (by simp [hpar]), if_neg hf]
        rw [he]
        exact add_fr base tb last v l f t fr tr w h hlast hB hm (by omega)
    · by_cases hin : ∃ (i : Nat) (hi : i < l.length), l[i].id = p
      · obtain ⟨i, hi, hid⟩ := hin
        have hfind := find_at hs p i hi hid
        cases hw : withinB (f, t) (l[i].f, l[i].t)
        · have hpar : ParM l f t p = 2 := by unfold ParM; rw [if_neg hp, hfind]; simp only [hw]; rfl
          exact stay (add_out base tb last v l f t p fr tr w h hm (by omega) hs hp ⟨i, hi, hid, hw⟩) (by unfold addM; rw [if_neg (by simp [hm]), hpar, if_pos (by decide)])
        · have hpar : ParM l f t p = 0 := by unfold ParM; rw [if_neg hp, hfind]; simp only [hw]; rfl
          by_cases hf : 256 ≤ l.length
          · exact stay (add_parfull base tb last v l f t p fr tr w h hm hf (by omega) hs hp ⟨i, hi, hid, hw⟩) (by unfold addM; rw [if_neg (by simp [hm]), if_neg (by simp [hpar]), if_pos hf])
          · have he : addM last l f t fr tr p = (last + 1, 0, last + 1, l ++ [⟨last + 1, f, t, fr, tr, p⟩]) := by unfold addM; rw [if_neg (by simp [hm]), if_neg (by simp [hpar]), if_neg hf]
            rw [he]
            exact add_par base tb last v l f t p fr tr w h hlast hB hm (by omega) hs hp ⟨i, hi, hid, hw⟩
      · have hno : ∀ r ∈ l, r.id ≠ p := fun r hr he => by
          obtain ⟨i, hi, rfl⟩ := List.getElem_of_mem hr
          exact hin ⟨i, hi, he⟩
        have hpar : ParM l f t p = 6 := by unfold ParM; rw [if_neg hp, find_none hno]
        exact stay (add_none base tb last v l f t p fr tr w h hm (by omega) hs hp hno) (by unfold addM; rw [if_neg (by simp [hm]), hpar, if_pos (by decide)])
end
section
open Go.ChangeShapes Go.WideShapes Go.ChangeAt Go.RowKit
open SpanM EdM
attribute [local go_sem ↓] Go.wp_at_zero Go.wp_at_succ
set_option maxRecDepth 100000
theorem drop_none (base tb : Nat) (last : Int) (v : Value) (l : List Mk) (x : Int) (w : World) (h : Tab w base tb last v l) (hs : RiseM l) (hl : l.length ≤ 100000) (hno : ∀ r ∈ l, r.id ≠ x) :
    Calls Try.prog 23 #[.pointer (some ⟨tb, 0, none⟩), .int .i64 x] w fun e w' => e = .returned (.int .i64 6) ∧ Below w.heap.size w w' := by
  have HC := hide (find_any base tb last v l x w h hs hl)
  clear h hs
  go_enter Try.func23, Try.ntmps23
  go_wp2_with fail
  refine HC.out.mono ?_
  rintro e w1 ⟨⟨i, ok, rfl, hfo⟩, hb1⟩
  rcases hfo with ⟨_, hi, hid⟩ | ⟨rfl, _⟩
  · exact absurd hid (hno _ (List.getElem_mem hi))
  clear HC hno
  go_wp2
  go_ret
  exact ⟨rfl, hb1⟩
theorem tmove_no (tb : Nat) (vA : Value) (ed : List Ed) (w : World) (he : EdAt w vA ed) (hed : ed.length ≤ 1000) (m : Int) (hm : mayN ed = m) (hm0 : m ≠ 0) :
    Calls Try.prog 28 #[.pointer (some ⟨tb, 0, none⟩), vA] w fun e w' => e = .returned (.int .i64 m) ∧ Below w.heap.size w w' := by
  have HM := hide (maym_any vA ed w he hed)
  rw [hm] at HM
  have hm' : (m == 0) = false := beq_eq_false_iff_ne.2 hm0
  clear he hm
  go_enter Try.func28, Try.ntmps28
  go_wp2_with fail
  refine HM.out.mono ?_
  rintro e w1 ⟨rfl, hb1⟩
  go_wp2
  go_ret
  exact ⟨rfl, hb1⟩
end
section
open Go.ChangeShapes Go.WideShapes Go.ChangeAt Go.RowKit
open SpanM EdM
attribute [local go_sem ↓] Go.wp_at_zero Go.wp_at_succ
set_option maxRecDepth 100000
theorem results_cell1 {fn : Func} {p : Tmp} {ty : TypeId} (h : fn.results = #[.cell p ty]) (tmps : Array Value) (P : Program) (w : World) :
    (results fn tmps).run P w = ((asAddr (tmps.getD p undef)).run P w).andThen fun a w₁ => (loadVar ty a).run P w₁ := by
  simp only [results, h]
  simp [Sem.run_bind, Result.andThen]
/-- The range that a deed stands for. -/
def ofD (d : Dd) : Rg := if lowN d.k 16 < 14 then ⟨lowN d.a 60, lowN d.a 60 + lowN d.b 12, d.p, d.q, lowN d.c 5⟩ else ⟨d.a, d.b, d.p, d.q, d.c⟩
def vD (d : Dd) : Value := .agg #[.int .i64 d.k, .int .i64 d.a, .int .i64 d.b, .int .i64 d.c, .bool d.p, .bool d.q, d.v]
set_option maxHeartbeats 4000000 in
theorem of_any (d : Dd) (w : World) (hv : ∃ a n c, d.v = .slice a n c) : Calls Try.prog 32 #[.agg #[.int .i64 d.k, .int .i64 d.a, .int .i64 d.b, .int .i64 d.c, .bool d.p, .bool d.q, d.v]] w fun e w' => e = .returned (vG (ofD d)) ∧ Below w.heap.size w w' := by
  obtain ⟨k, a, b, c, p, q, v, ed⟩ := d
  obtain ⟨vA, vn, vc, hv⟩ := hv
  simp only at hv ⊢
  subst hv
  obtain ⟨K, hK⟩ : ∃ K : Int, (lowN k 16 : Int) = K := ⟨_, rfl⟩
  obtain ⟨A, hA⟩ : ∃ K : Int, (lowN a 60 : Int) = K := ⟨_, rfl⟩
  obtain ⟨B, hB⟩ : ∃ K : Int, (lowN b 12 : Int) = K := ⟨_, rfl⟩
  obtain ⟨C, hC⟩ : ∃ K : Int, (lowN c 5 : Int) = K := ⟨_, rfl⟩
  have hA2 : 0 ≤ A ∧ A < 60 := by have := lowN_lt a 60 (by omega); omega
  have hB2 : 0 ≤ B ∧ B < 12 := by have := lowN_lt b 12 (by omega); omega
  have HK := hide hK
  have HA := hide hA
  have HB := hide hB
  have HC := hide hC
  obtain ⟨hA3, hA4⟩ := hA2
  obtain ⟨hB3, hB4⟩ := hB2
  by_cases hlow : K < 14
  · have hd : decide (K < 14) = true := by simp; omega
    have hres : ofD ⟨k, a, b, c, p, q, .slice vA vn vc, ed⟩ = ⟨A, A + B, p, q, C⟩ := by
      unfold ofD; rw [if_pos (by simp only; omega)]; simp only [hA, hB, hC]
    rw [hres]
    clear hres hK hA hB hC hlow
    go_enter Try.func32, Try.ntmps32
    go_wp2_with fail
    refine (low_e k 16 K _ (by omega) (by omega) HK.out).mono ?_
    rintro e w1 ⟨rfl, rfl⟩
    go_wp2_with fail
    refine (low_e a 60 A _ (by omega) (by omega) HA.out).mono ?_
    rintro e w1 ⟨rfl, rfl⟩
    go_wp2
    go_region_with (go_at_call 24; refine (low_e b 12 B _ (by omega) (by omega) HB.out).mono ?_; rintro e w3 ⟨rfl, rfl⟩)
    all_goals
      go_wp2_with fail
      refine (low_e c 5 C _ (by omega) (by omega) HC.out).mono ?_
      rintro e w4 ⟨rfl, rfl⟩
      go_wp2
      (try simp only [Exit.inBlock, Exit.then])
      refine bodyPost_ret (v := vG ⟨A, A + B, p, q, C⟩) ?_ rfl ⟨rfl, ?_⟩
      · rw [results_cell1 rfl]
        unfold vG
        go_simp
      · repeat (first | exact bl_refl _ | refine bl_set ?_ (by simp) _ | refine bl_drew ?_ | refine bl_alloc ?_ _)
  · have hd : decide (K < 14) = false := by simp; omega
    have hres : ofD ⟨k, a, b, c, p, q, .slice vA vn vc, ed⟩ = ⟨a, b, p, q, c⟩ := by
      unfold ofD; rw [if_neg (by simp only; omega)]
    rw [hres]
    clear hres hK hA hB hC hlow
    go_enter Try.func32, Try.ntmps32
    go_wp2_with fail
    refine (low_e k 16 K _ (by omega) (by omega) HK.out).mono ?_
    rintro e w1 ⟨rfl, rfl⟩
    go_wp2
    (try simp only [Exit.inBlock, Exit.then])
    refine bodyPost_ret (v := vG ⟨a, b, p, q, c⟩) ?_ rfl ⟨rfl, ?_⟩
    · rw [results_cell1 rfl]
      unfold vG
      go_simp
    · repeat (first | exact bl_refl _ | refine bl_set ?_ (by simp) _ | refine bl_drew ?_ | refine bl_alloc ?_ _)
end
section
open Go.ChangeShapes Go.WideShapes Go.ChangeAt Go.RowKit
open SpanM
attribute [local go_sem ↓] Go.wp_at_zero Go.wp_at_succ
set_option maxRecDepth 100000
def kidB (x : Int) (r : Mk) : Bool := r.p == x
theorem kids1_any (r : Mk) (x : Int) (cb : Nat) (w : World) (hx : w.cell? ⟨cb, 0, none⟩ = some (.int .i64 x)) : Calls Try.prog 43 #[.agg #[.int .i64 r.id, .int .i64 r.f, .int .i64 r.t, .bool r.b, .bool r.c, .int .i64 r.p], .pointer (some ⟨cb, 0, none⟩)] w fun e w' => e = .returned (.bool (kidB x r)) ∧ Below w.heap.size w w' := by
  obtain ⟨id, f, t, rb, rc, p⟩ := r
  have hlt := World.block_lt_of_cell? w _ hx
  go_enter Try.func43, Try.ntmps43
  go_wp2
  go_ret
  exact ⟨rfl, bl_alloc (bl_refl w) _⟩
def KidsInv (x : Int) (l : List Mk) (w : World) (s i : Value) (wr : World) : Prop :=
  ∃ k : Nat, i = .int .i64 k ∧ k ≤ l.length ∧ Hid (wr.ownsRow w.heap.size 3 1 s ((l.take k).filter (kidB x)).length (((l.take k).filter (kidB x)).map fun r => .int .i64 r.id)) ∧ Below w.heap.size w wr
set_option maxHeartbeats 4000000 in
theorem kids_in (base tb : Nat) (last : Int) (v : Value) (l : List Mk) (x : Int) (cb : Nat) (w : World) (h : Tab w base tb last v l) (hl : l.length ≤ 100000) (hx : w.cell? ⟨cb, 0, none⟩ = some (.int .i64 x)) :
    Calls Try.prog 41 #[.pointer (some ⟨tb, 0, none⟩), .func (.func 43) #[] #[.pointer (some ⟨cb, 0, none⟩)]] w fun e w' => (∃ v', e = .returned v' ∧ w'.ownsRow w.heap.size 3 1 v' (l.filter (kidB x)).length ((l.filter (kidB x)).map fun r => .int .i64 r.id)) ∧ Below w.heap.size w w' := by
  obtain ⟨i0, hi0, hz0', hz1, hz2⟩ := info_parts infoI
  obtain ⟨c0, c1, f0, f1⟩ := cells2 h.at0
  have H := hide h
  have hxl : ∀ W, Below w.heap.size w W → W.cell? ⟨cb, 0, none⟩ = some (.int .i64 x) := fun W hb => cell_later hb hx
  rcases h.form with ⟨rfl, rfl⟩ | ⟨g, c, rfl, hg1, hg2, hg3, hg4, hg5⟩
  · clear h
    go_enter Try.func41, Try.ntmps41
    go_wp2
    refine wp_loop_rounds 1 ?_
    rw [rounds_succ]
    go_wp2
    go_ret
    exact ⟨⟨_, rfl, ⟨rfl, .inl ⟨rfl, rfl⟩⟩⟩, bl_refl w⟩
  unfold maxLen at hg4
  clear h
  go_enter Try.func41, Try.ntmps41
  go_wp2
  go_loopw [5, 15] (fun s i wr => KidsInv x l w s i wr) (fun _ i _ => l.length - (intOf i).toNat)
  case atStart => exact ⟨0, rfl, Nat.zero_le _, hide ⟨rfl, .inl ⟨rfl, rfl⟩⟩, bl_refl w⟩
  case round =>
    obtain ⟨k, rfl, hk, HK, hbl⟩ := hrel
    obtain ⟨n, hn⟩ : ∃ n, ((l.take k).filter (kidB x)).length = n := ⟨_, rfl⟩
    rw [hn] at HK
    obtain ⟨aV, cV, hkv⟩ := own_slice HK.out
    subst hkv
    by_cases hlt : k < l.length
    · subst hn
      obtain ⟨x0, x1, x2, x3, x4, x5⟩ := (H.out.later hbl).cell k hlt
      have hstep : (l.take (k + 1)).filter (kidB x) = (l.take k).filter (kidB x) ++ if kidB x l[k] then [l[k]] else [] := by
        rw [List.take_succ_eq_append_getElem hlt, List.filter_append, List.filter_cons, List.filter_nil]
      have hlenk : ((l.take k).filter (kidB x)).length ≤ k := Nat.le_trans (List.length_filter_le _ _) (by rw [List.length_take]; omega)
      have hcall := fun W hW => kids1_any l[k] x cb W hW
      generalize l[k] = r at *
      generalize (l.take k).filter (kidB x) = K at *
      obtain ⟨pr, hpr⟩ : ∃ pr, kidB x r = pr := ⟨_, rfl⟩
      rw [hpr] at hcall hstep
      have HSTEP := hide hstep
      obtain ⟨id, f, t, rb, rc, p⟩ := r
      simp only at x0 x1 x2 x3 x4 x5
      have HCALL := hide hcall
      have hxr := cell_later (bl_alloc (bl_refl wr) (.cells #[.int .i64 id, .int .i64 f, .int .i64 t, .bool rb, .bool rc, .int .i64 p] 82)) (hxl wr hbl)
      clear hcall hstep hpr
      go_wp2_with fail
      refine (HCALL.out _ hxr).mono ?_
      rintro e w2 ⟨rfl, hb2⟩
      have hba : Below wr.heap.size wr w2 := bl_trans (bl_alloc (bl_refl wr) (.cells #[.int .i64 id, .int .i64 f, .int .i64 t, .bool rb, .bool rc, .int .i64 p] 82)) hb2
      have hf := (hb2.block wr.heap.size (by simp)).trans (heap_alloc_new wr (.cells #[.int .i64 id, .int .i64 f, .int .i64 t, .bool rb, .bool rc, .int .i64 p] 82))
      have z0 : w2.cell? ⟨wr.heap.size, 0, none⟩ = some (.int .i64 id) := by rw [cell_of_row w2 wr.heap.size 0 _ _ _ hf]; rfl
      have hrow := own_below HK.out hba
      have hbe2 := bl_trans hbl hba
      have hlz : w.heap.size ≤ w2.heap.size := hbe2.size
      clear hf HCALL hxr
      cases pr
      case false =>
        have hfin : Hid (w2.ownsRow w.heap.size 3 1 (.slice aV K.length cV) ((l.take (k + 1)).filter (kidB x)).length (((l.take (k + 1)).filter (kidB x)).map fun r => .int .i64 r.id)) := hide (by rw [HSTEP.out, if_neg (by simp), List.append_nil]; exact hrow)
        clear HSTEP hrow
        go_wp2
        refine ⟨?_, by first | (simp [intOf]; done) | (simp [intOf]; omega)⟩
        exact ⟨k + 1, by go_num, by omega, hfin, hbe2⟩
      case true =>
        have hfin : ∀ (v' : Value) (W : World), W.ownsRow w.heap.size 3 1 v' (K.length + 1) ((K.map fun r => Value.int .i64 r.id) ++ [.int .i64 id]) → Hid (W.ownsRow w.heap.size 3 1 v' ((l.take (k + 1)).filter (kidB x)).length (((l.take (k + 1)).filter (kidB x)).map fun r => .int .i64 r.id)) := fun v' W h => hide (by rw [HSTEP.out, if_pos rfl, List.map_append, List.length_append]; exact h)
        have HFIN := hide hfin
        clear HSTEP hfin
        go_wp2_with (at_builtin; (refine wpList_push w2 rfl _ _ 28 rfl w.heap.size 3 i0 (.int .i64 0) 1 8 Try.underlying28 hi0 hz0' hz1 hz2 rfl (by decide) (.slice aV K.length cV) K.length (K.map fun r => .int .i64 r.id) rfl hrow 1 #[.int .i64 id] rfl rfl (by simp [Value.oneCell']) (by omega) (by decide) (by omega) ?_); intro v' w4 hv4 hgr4 hat)
        have hb4 : Below w.heap.size w w4 := bl_own hbe2 hrow hgr4 (Nat.le_refl _)
        refine ⟨?_, by first | (simp [intOf]; done) | (simp [intOf]; omega)⟩
        exact ⟨k + 1, by go_num, by omega, HFIN.out _ _ hv4, hb4⟩
    · obtain rfl : k = l.length := by omega
      have hfin := HK
      rw [List.take_length] at hfin hn
      have HN := hide hn
      clear HK hn
      go_wp2
      go_ret
      exact ⟨⟨_, rfl, by rw [HN.out]; exact hfin.out⟩, hbl⟩
theorem kidsT_any (base tb : Nat) (last : Int) (v : Value) (l : List Mk) (x : Int) (w : World) (h : Tab w base tb last v l) (hl : l.length ≤ 100000) :
    Calls Try.prog 20 #[.pointer (some ⟨tb, 0, none⟩), .int .i64 x] w fun e w' => (∃ v', e = .returned v' ∧ w'.ownsRow w.heap.size 3 1 v' (l.filter (kidB x)).length ((l.filter (kidB x)).map fun r => .int .i64 r.id)) ∧ Below w.heap.size w w' := by
  have hba : Below w.heap.size w (w.alloc (.cells #[.int .i64 x] 3)) := bl_alloc (bl_refl w) _
  have HC := hide (kids_in base tb last v l x w.heap.size _ (h.later hba) hl (World.cell?_alloc_mark w #[.int .i64 x] 3 (0, 0) 0))
  clear h
  go_enter Try.func20, Try.ntmps20
  go_wp2_with fail
  refine HC.out.mono ?_
  rintro e w1 ⟨⟨v', rfl, ho⟩, hb1⟩
  have HO := hide (own_base ho (show w.heap.size ≤ (w.alloc (.cells #[.int .i64 x] 3)).heap.size by simp))
  have hbz := bl_trans hba hb1
  obtain ⟨a, c, rfl⟩ := own_slice ho
  clear ho
  go_wp2
  go_ret
  exact ⟨⟨_, rfl, HO.out⟩, hbz⟩
def atB (x : Int) (r : Mk) : Bool := hasB (r.f, r.t) x
theorem tat1_any (r : Mk) (x : Int) (cb : Nat) (w : World) (hx : w.cell? ⟨cb, 0, none⟩ = some (.int .i64 x)) : Calls Try.prog 44 #[.agg #[.int .i64 r.id, .int .i64 r.f, .int .i64 r.t, .bool r.b, .bool r.c, .int .i64 r.p], .pointer (some ⟨cb, 0, none⟩)] w fun e w' => e = .returned (.bool (atB x r)) ∧ Below w.heap.size w w' := by
  obtain ⟨id, f, t, rb, rc, p⟩ := r
  have hlt := World.block_lt_of_cell? w _ hx
  go_enter Try.func44, Try.ntmps44
  go_wp2_with fail
  refine (has_any (f, t) x _).mono ?_
  rintro e w1 ⟨rfl, hb1⟩
  have hbz := bl_trans (bl_alloc (bl_refl w) (.cells #[.int .i64 id, .int .i64 f, .int .i64 t, .bool rb, .bool rc, .int .i64 p] 82)) hb1
  go_wp2
  go_ret
  exact ⟨rfl, hbz⟩
def AtInv (x : Int) (l : List Mk) (w : World) (s i : Value) (wr : World) : Prop :=
  ∃ k : Nat, i = .int .i64 k ∧ k ≤ l.length ∧ Hid (wr.ownsRow w.heap.size 3 1 s ((l.take k).filter (atB x)).length (((l.take k).filter (atB x)).map fun r => .int .i64 r.id)) ∧ Below w.heap.size w wr
set_option maxHeartbeats 4000000 in
theorem tat_in (base tb : Nat) (last : Int) (v : Value) (l : List Mk) (x : Int) (cb : Nat) (w : World) (h : Tab w base tb last v l) (hl : l.length ≤ 100000) (hx : w.cell? ⟨cb, 0, none⟩ = some (.int .i64 x)) :
    Calls Try.prog 41 #[.pointer (some ⟨tb, 0, none⟩), .func (.func 44) #[] #[.pointer (some ⟨cb, 0, none⟩)]] w fun e w' => (∃ v', e = .returned v' ∧ w'.ownsRow w.heap.size 3 1 v' (l.filter (atB x)).length ((l.filter (atB x)).map fun r => .int .i64 r.id)) ∧ Below w.heap.size w w' := by
  obtain ⟨i0, hi0, hz0', hz1, hz2⟩ := info_parts infoI
  obtain ⟨c0, c1, f0, f1⟩ := cells2 h.at0
  have H := hide h
  have hxl : ∀ W, Below w.heap.size w W → W.cell? ⟨cb, 0, none⟩ = some (.int .i64 x) := fun W hb => cell_later hb hx
  rcases h.form with ⟨rfl, rfl⟩ | ⟨g, c, rfl, hg1, hg2, hg3, hg4, hg5⟩
  · clear h
    go_enter Try.func41, Try.ntmps41
    go_wp2
    refine wp_loop_rounds 1 ?_
    rw [rounds_succ]
    go_wp2
    go_ret
    exact ⟨⟨_, rfl, ⟨rfl, .inl ⟨rfl, rfl⟩⟩⟩, bl_refl w⟩
  unfold maxLen at hg4
  clear h
  go_enter Try.func41, Try.ntmps41
  go_wp2
  go_loopw [5, 15] (fun s i wr => AtInv x l w s i wr) (fun _ i _ => l.length - (intOf i).toNat)
  case atStart => exact ⟨0, rfl, Nat.zero_le _, hide ⟨rfl, .inl ⟨rfl, rfl⟩⟩, bl_refl w⟩
  case round =>
    obtain ⟨k, rfl, hk, HK, hbl⟩ := hrel
    obtain ⟨n, hn⟩ : ∃ n, ((l.take k).filter (atB x)).length = n := ⟨_, rfl⟩
    rw [hn] at HK
    obtain ⟨aV, cV, hkv⟩ := own_slice HK.out
    subst hkv
    by_cases hlt : k < l.length
    · subst hn
      obtain ⟨x0, x1, x2, x3, x4, x5⟩ := (H.out.later hbl).cell k hlt
      have hstep : (l.take (k + 1)).filter (atB x) = (l.take k).filter (atB x) ++ if atB x l[k] then [l[k]] else [] := by
        rw [List.take_succ_eq_append_getElem hlt, List.filter_append, List.filter_cons, List.filter_nil]
      have hlenk : ((l.take k).filter (atB x)).length ≤ k := Nat.le_trans (List.length_filter_le _ _) (by rw [List.length_take]; omega)
      have hcall := fun W hW => tat1_any l[k] x cb W hW
      generalize l[k] = r at *
      generalize (l.take k).filter (atB x) = K at *
      obtain ⟨pr, hpr⟩ : ∃ pr, atB x r = pr := ⟨_, rfl⟩
      rw [hpr] at hcall hstep
      have HSTEP := hide hstep
      obtain ⟨id, f, t, rb, rc, p⟩ := r
      simp only at x0 x1 x2 x3 x4 x5
      have HCALL := hide hcall
      have hxr := cell_later (bl_alloc (bl_refl wr) (.cells #[.int .i64 id, .int .i64 f, .int .i64 t, .bool rb, .bool rc, .int .i64 p] 82)) (hxl wr hbl)
      clear hcall hstep hpr
      go_wp2_with fail
      refine (HCALL.out _ hxr).mono ?_
      rintro e w2 ⟨rfl, hb2⟩
      have hba : Below wr.heap.size wr w2 := bl_trans (bl_alloc (bl_refl wr) (.cells #[.int .i64 id, .int .i64 f, .int .i64 t, .bool rb, .bool rc, .int .i64 p] 82)) hb2
      have hf := (hb2.block wr.heap.size (by simp)).trans (heap_alloc_new wr (.cells #[.int .i64 id, .int .i64 f, .int .i64 t, .bool rb, .bool rc, .int .i64 p] 82))
      have z0 : w2.cell? ⟨wr.heap.size, 0, none⟩ = some (.int .i64 id) := by rw [cell_of_row w2 wr.heap.size 0 _ _ _ hf]; rfl
      have hrow := own_below HK.out hba
      have hbe2 := bl_trans hbl hba
      have hlz : w.heap.size ≤ w2.heap.size := hbe2.size
      clear hf HCALL hxr
      cases pr
      case false =>
        have hfin : Hid (w2.ownsRow w.heap.size 3 1 (.slice aV K.length cV) ((l.take (k + 1)).filter (atB x)).length (((l.take (k + 1)).filter (atB x)).map fun r => .int .i64 r.id)) := hide (by rw [HSTEP.out, if_neg (by simp), List.append_nil]; exact hrow)
        clear HSTEP hrow
        go_wp2
        refine ⟨?_, by first | (simp [intOf]; done) | (simp [intOf]; omega)⟩
        exact ⟨k + 1, by go_num, by omega, hfin, hbe2⟩
      case true =>
        have hfin : ∀ (v' : Value) (W : World), W.ownsRow w.heap.size 3 1 v' (K.length + 1) ((K.map fun r => Value.int .i64 r.id) ++ [.int .i64 id]) → Hid (W.ownsRow w.heap.size 3 1 v' ((l.take (k + 1)).filter (atB x)).length (((l.take (k + 1)).filter (atB x)).map fun r => .int .i64 r.id)) := fun v' W h => hide (by rw [HSTEP.out, if_pos rfl, List.map_append, List.length_append]; exact h)
        have HFIN := hide hfin
        clear HSTEP hfin
        go_wp2_with (at_builtin; (refine wpList_push w2 rfl _ _ 28 rfl w.heap.size 3 i0 (.int .i64 0) 1 8 Try.underlying28 hi0 hz0' hz1 hz2 rfl (by decide) (.slice aV K.length cV) K.length (K.map fun r => .int .i64 r.id) rfl hrow 1 #[.int .i64 id] rfl rfl (by simp [Value.oneCell']) (by omega) (by decide) (by omega) ?_); intro v' w4 hv4 hgr4 hat)
        have hb4 : Below w.heap.size w w4 := bl_own hbe2 hrow hgr4 (Nat.le_refl _)
        refine ⟨?_, by first | (simp [intOf]; done) | (simp [intOf]; omega)⟩
        exact ⟨k + 1, by go_num, by omega, HFIN.out _ _ hv4, hb4⟩
    · obtain rfl : k = l.length := by omega
      have hfin := HK
      rw [List.take_length] at hfin hn
      have HN := hide hn
      clear HK hn
      go_wp2
      go_ret
      exact ⟨⟨_, rfl, by rw [HN.out]; exact hfin.out⟩, hbl⟩
theorem tatT_any (base tb : Nat) (last : Int) (v : Value) (l : List Mk) (x : Int) (w : World) (h : Tab w base tb last v l) (hl : l.length ≤ 100000) :
    Calls Try.prog 22 #[.pointer (some ⟨tb, 0, none⟩), .int .i64 x] w fun e w' => (∃ v', e = .returned v' ∧ w'.ownsRow w.heap.size 3 1 v' (l.filter (atB x)).length ((l.filter (atB x)).map fun r => .int .i64 r.id)) ∧ Below w.heap.size w w' := by
  have hba : Below w.heap.size w (w.alloc (.cells #[.int .i64 x] 3)) := bl_alloc (bl_refl w) _
  have HC := hide (tat_in base tb last v l x w.heap.size _ (h.later hba) hl (World.cell?_alloc_mark w #[.int .i64 x] 3 (0, 0) 0))
  clear h
  go_enter Try.func22, Try.ntmps22
  go_wp2_with fail
  refine HC.out.mono ?_
  rintro e w1 ⟨⟨v', rfl, ho⟩, hb1⟩
  have HO := hide (own_base ho (show w.heap.size ≤ (w.alloc (.cells #[.int .i64 x] 3)).heap.size by simp))
  have hbz := bl_trans hba hb1
  obtain ⟨a, c, rfl⟩ := own_slice ho
  clear ho
  go_wp2
  go_ret
  exact ⟨⟨_, rfl, HO.out⟩, hbz⟩
end
section
open Go.ChangeShapes Go.WideShapes Go.ChangeAt Go.RowKit
open SpanM EdM
attribute [local go_sem ↓] Go.wp_at_zero Go.wp_at_succ
attribute [local go_sem] later_cell later_frozen
def Much8 (l : List Ed) (w : World) (e : Ending) (w' : World) : Prop := ∃ r, e = .returned (.bool r) ∧ (r = false → l.length ≤ 8 ∧ ∀ x ∈ l, x.2.size ≤ 60) ∧ Below w.heap.size w w'
set_option maxRecDepth 100000 in
set_option maxHeartbeats 4000000 in
theorem much8_any (v : Value) (l : List Ed) (w : World) (h : EdAt w v l) (hl : l.length ≤ maxLen) :
    Calls Try.prog 31 #[.int .i64 8, .int .i64 60, v] w (Much8 l w) := by
  obtain ⟨aA, cA, rfl⟩ := edat_len h
  have W0 := hide h
  unfold maxLen at hl
  clear h
  by_cases hlen : l.length ≤ 8
  · have d0 : decide (8 < (l.length : Int)) = false := by simp; omega
    go_enter Try.func31, Try.ntmps31
    go_wp2
    go_loopw [1, 7] (fun n i wr => ∃ k m : Nat, i = .int .i64 k ∧ k ≤ l.length ∧ n = .int .i64 m ∧ m ≤ 60 ∧ Hid (∀ x ∈ l.take k, x.2.size ≤ 60) ∧ Below w.heap.size w wr) (fun _ i _ => l.length - (intOf i).toNat)
    case atStart => exact ⟨0, 60, rfl, Nat.zero_le _, rfl, Nat.le_refl _, hide (by simp), bl_refl w⟩
    case round =>
      obtain ⟨k, m, rfl, hk, rfl, hm, HX, hbl⟩ := hrel
      by_cases hlt : k < l.length
      · obtain ⟨b1, o1, c1, hv1, hc1, hm1, hlb1, hcell1⟩ := edat_some (edat_below W0.out hbl) (by omega)
        injection hv1 with hv1 _ hv1c
        subst hv1 hv1c
        unfold maxLen at hm1
        obtain ⟨x1, x2, x3⟩ := hcell1 k hlt
        have hsn : l.take (k + 1) = l.take k ++ [l[k]] := List.take_succ_eq_append_getElem hlt
        clear hcell1
        generalize l[k] = s at *
        obtain ⟨⟨f, t⟩, x⟩ := s
        replace x3 : wr.cell? ⟨b1, o1 + k * 3 + 2, none⟩ = some (.string x) := x3
        have hnx : x.size ≤ 60 → ∀ y ∈ l.take (k + 1), y.2.size ≤ 60 := fun hx y hy => by
          rw [hsn] at hy
          rcases List.mem_append.1 hy with hy | hy
          · exact HX.out y hy
          · rw [List.mem_singleton] at hy; subst hy; exact hx
        have HNX := hide hnx
        clear hsn hnx HX x1 x2
        by_cases hb : x.size ≤ m
        · have d1 : decide ((m : Int) < (x.size : Int)) = false := by simp; omega
          have hw1 : IntKind.i64.wrap ((m : Int) - (x.size : Int)) = ((m - x.size : Nat) : Int) := by rw [IntWalk.i64_in _ (by omega)]; omega
          have HN2 := hide (HNX.out (by omega))
          clear HNX
          go_wp2
          refine ⟨?_, by first | (simp [intOf]; done) | (simp [intOf]; omega)⟩
          first
            | exact ⟨k + 1, m - x.size, by go_num, by omega, by first | rfl | (congr 1; omega), by omega, HN2, hbl⟩
            | ((repeat apply Exists.intro); exact ⟨⟨k + 1, m - x.size, by go_num, by omega, by first | rfl | (congr 1; omega), by omega, HN2, hbl⟩, rfl⟩)
        · have d1 : decide ((m : Int) < (x.size : Int)) = true := by simp; omega
          clear HNX
          go_wp2
          go_ret
          exact ⟨_, rfl, (fun h => absurd h (by decide)), hbl⟩
      · obtain rfl : k = l.length := by omega
        have hx := HX.out
        rw [List.take_length] at hx
        have HX2 := hide hx
        clear HX hx
        go_wp2
        go_ret
        exact ⟨false, rfl, fun _ => ⟨hlen, HX2.out⟩, hbl⟩
  · have d0 : decide (8 < (l.length : Int)) = true := by simp; omega
    clear hlen
    go_enter Try.func31, Try.ntmps31
    go_wp2
    go_ret
    exact ⟨_, rfl, (fun h => absurd h (by decide)), bl_refl w⟩
/-- A deed's cells, where there is one. -/
theorem ddat_some {w : World} {v : Value} {l : List Dd} (h : DdAt w v l) (hp : 0 < l.length) :
    ∃ b off c, v = .slice (some ⟨b, off, none⟩) l.length c ∧ l.length ≤ c ∧ c ≤ maxLen ∧ b < w.heap.size ∧ ∀ i (h : i < l.length), w.cell? ⟨b, off + i * 7, none⟩ = some (.int .i64 l[i].k) ∧ w.cell? ⟨b, off + i * 7 + 1, none⟩ = some (.int .i64 l[i].a) ∧ w.cell? ⟨b, off + i * 7 + 2, none⟩ = some (.int .i64 l[i].b) ∧ w.cell? ⟨b, off + i * 7 + 3, none⟩ = some (.int .i64 l[i].c) ∧ w.cell? ⟨b, off + i * 7 + 4, none⟩ = some (.bool l[i].p) ∧ w.cell? ⟨b, off + i * 7 + 5, none⟩ = some (.bool l[i].q) ∧ w.cell? ⟨b, off + i * 7 + 6, none⟩ = some l[i].v ∧ EdAt w l[i].v l[i].ed := by
  rcases h with ⟨rfl, rfl⟩ | ⟨x, c, rfl, h1, h2, h3⟩
  · simp at hp
  · obtain ⟨b, off, spot⟩ := x
    have hc := (h3 0 hp).1
    have hspot : spot = none := by simpa [Addr.add] using World.cell?_spot hc
    subst hspot
    refine ⟨b, off, c, rfl, h1, h2, ?_, fun i hi => ?_⟩
    · have := World.block_lt_of_cell? w _ hc
      rw [addr_add] at this
      exact this
    · have := h3 i hi
      unfold DdCells at this
      simp only [addr_add] at this
      exact this
def DeedsOk (n : Nat) (l : List Dd) : Prop := l.length ≤ n ∧ ∀ d ∈ l, d.ed.length ≤ 8 ∧ ∀ x ∈ d.ed, x.2.size ≤ 60
def MuchD (n : Nat) (l : List Dd) (w : World) (e : Ending) (w' : World) : Prop := ∃ r, e = .returned (.bool r) ∧ (r = false → DeedsOk n l) ∧ Below w.heap.size w w'
set_option maxRecDepth 100000 in
set_option maxHeartbeats 4000000 in
theorem muchD_any (n : Nat) (v : Value) (l : List Dd) (w : World) (h : DdAt w v l) (hl : l.length ≤ maxLen) :
    Calls Try.prog 12 #[.int .i64 n, v] w (MuchD n l w) := by
  obtain ⟨aA, cA, rfl⟩ := ddat_len h
  have W0 := hide h
  unfold maxLen at hl
  clear h
  by_cases hlen : l.length ≤ n
  · have d0 : decide ((n : Int) < (l.length : Int)) = false := by simp; omega
    have d0' : decide (n < l.length) = false := by simp; omega
    go_enter Try.func12, Try.ntmps12
    go_wp2
    go_loopw [5] (fun i wr => ∃ k : Nat, i = .int .i64 k ∧ k ≤ l.length ∧ Hid (∀ d ∈ l.take k, d.ed.length ≤ 8 ∧ ∀ x ∈ d.ed, x.2.size ≤ 60) ∧ Below w.heap.size w wr) (fun i _ => l.length - (intOf i).toNat)
    case atStart => exact ⟨0, rfl, Nat.zero_le _, hide (by simp), bl_refl w⟩
    case round =>
      obtain ⟨k, rfl, hk, HX, hbl⟩ := hrel
      by_cases hlt : k < l.length
      · obtain ⟨b1, o1, c1, hv1, hc1, hm1, hlb1, hcell1⟩ := ddat_some (ddat_below W0.out hbl) (by omega)
        injection hv1 with hv1 _ hv1c
        subst hv1 hv1c
        unfold maxLen at hm1
        obtain ⟨_, _, _, _, _, _, x6, he⟩ := hcell1 k hlt
        have hsn : l.take (k + 1) = l.take k ++ [l[k]] := List.take_succ_eq_append_getElem hlt
        clear hcell1
        generalize l[k] = d at *
        have hlong : d.ed.length ≤ maxLen := edat_long he
        have HE := hide he
        obtain ⟨aE, cE, hvE⟩ := edat_len he
        have hcall := much8_any d.v d.ed wr he hlong
        rw [hvE] at x6 hcall
        have HCALL := hide hcall
        have hnx : (d.ed.length ≤ 8 ∧ ∀ x ∈ d.ed, x.2.size ≤ 60) → ∀ y ∈ l.take (k + 1), y.ed.length ≤ 8 ∧ ∀ x ∈ y.ed, x.2.size ≤ 60 := fun hx y hy => by
          rw [hsn] at hy
          rcases List.mem_append.1 hy with hy | hy
          · exact HX.out y hy
          · rw [List.mem_singleton] at hy; subst hy; exact hx
        have HNX := hide hnx
        clear hsn hnx HX he hcall hvE hlong
        go_wp2_with fail
        refine HCALL.out.mono ?_
        rintro e w2 ⟨r, rfl, hr, hb2⟩
        have hb3 := bl_trans hbl hb2
        cases r
        · have HN2 := hide (HNX.out (hr rfl))
          clear HNX hr HCALL
          go_wp2
          refine ⟨?_, by first | (simp [intOf]; done) | (simp [intOf]; omega)⟩
          exact ⟨k + 1, by go_num, by omega, HN2, hb3⟩
        · clear HNX hr HCALL
          go_wp2
          go_ret
          exact ⟨_, rfl, (fun h => absurd h (by decide)), hb3⟩
      · obtain rfl : k = l.length := by omega
        have hx := HX.out
        rw [List.take_length] at hx
        have HX2 := hide hx
        clear HX hx
        go_wp2
        go_ret
        exact ⟨false, rfl, fun _ => ⟨hlen, HX2.out⟩, hbl⟩
  · have d0 : decide ((n : Int) < (l.length : Int)) = true := by simp; omega
    have d0' : decide (n < l.length) = true := by simp; omega
    clear hlen
    go_enter Try.func12, Try.ntmps12
    go_wp2
    go_ret
    exact ⟨_, rfl, (fun h => absurd h (by decide)), bl_refl w⟩
end
section
open Go.ChangeShapes Go.WideShapes Go.ChangeAt Go.RowKit
open SpanM EdM
attribute [local go_sem ↓] Go.wp_at_zero Go.wp_at_succ
set_option maxRecDepth 100000
def edE (e : Ed) : Ed := (((lowN e.1.1 70 : Int), (lowN e.1.1 70 : Int) + lowN e.1.2 4), e.2)
def EdsInv (l : List Ed) (w : World) (s i : Value) (wr : World) : Prop :=
  ∃ k : Nat, i = .int .i64 k ∧ k ≤ l.length ∧ Hid (wr.ownsRow w.heap.size 61 3 s k (flatE ((l.take k).map edE))) ∧ Below w.heap.size w wr
set_option maxHeartbeats 4000000 in
theorem edits7_any (v : Value) (l : List Ed) (w : World) (h : EdAt w v l) (hl : l.length ≤ 1000) :
    Calls Try.prog 33 #[v] w fun e w' => (∃ v', e = .returned v' ∧ w'.ownsRow w.heap.size 61 3 v' l.length (flatE (l.map edE))) ∧ Below w.heap.size w w' := by
  obtain ⟨i0, hi0, hz0', hz1, hz2⟩ := info_parts info_ed
  obtain ⟨aA, cA, rfl⟩ := edat_len h
  have H := hide h
  clear h
  go_enter Try.func33, Try.ntmps33
  go_wp2
  go_loopw [3, 4] (fun s i wr => EdsInv l w s i wr) (fun _ i _ => l.length - (intOf i).toNat)
  case atStart => exact ⟨0, rfl, Nat.zero_le _, hide ⟨rfl, .inl ⟨rfl, rfl⟩⟩, bl_refl w⟩
  case round =>
    obtain ⟨k, rfl, hk, HK, hbl⟩ := hrel
    obtain ⟨aV, cV, hkv⟩ := own_slice HK.out
    subst hkv
    by_cases hlt : k < l.length
    · obtain ⟨b1, o1, c1, hv1, hc1, hm1, hlb1, hcell1⟩ := edat_some H.out (by omega)
      injection hv1 with hv1 _ hv1c
      subst hv1 hv1c
      unfold maxLen at hm1
      obtain ⟨x1, x2, x3⟩ := hcell1 k hlt
      have hfin : ∀ (v' : Value) (W : World), W.ownsRow w.heap.size 61 3 v' (k + 1) (flatE ((l.take k).map edE) ++ flatE [edE l[k]]) → Hid (W.ownsRow w.heap.size 61 3 v' (k + 1) (flatE ((l.take (k + 1)).map edE))) := fun v' W h => hide (by rw [List.take_succ_eq_append_getElem hlt, List.map_append, flatE_app]; exact h)
      have HFIN := hide hfin
      clear hcell1 hfin
      generalize l[k] = e0 at *
      obtain ⟨⟨f, t⟩, x⟩ := e0
      replace x1 : w.cell? ⟨b1, o1 + k * 3, none⟩ = some (.int .i64 f) := x1
      replace x2 : w.cell? ⟨b1, o1 + k * 3 + 1, none⟩ = some (.int .i64 t) := x2
      replace x3 : w.cell? ⟨b1, o1 + k * 3 + 2, none⟩ = some (.string x) := x3
      obtain ⟨A, hA⟩ : ∃ K : Int, (lowN f 70 : Int) = K := ⟨_, rfl⟩
      obtain ⟨B, hB⟩ : ∃ K : Int, (lowN t 4 : Int) = K := ⟨_, rfl⟩
      have hA2 : 0 ≤ A ∧ A < 70 := by have := lowN_lt f 70 (by omega); omega
      have hB2 : 0 ≤ B ∧ B < 4 := by have := lowN_lt t 4 (by omega); omega
      have hee : edE ((f, t), x) = ((A, A + B), x) := by unfold edE; simp only [hA, hB]
      rw [hee] at HFIN
      have HA := hide hA
      have HB := hide hB
      obtain ⟨hA3, hA4⟩ := hA2
      obtain ⟨hB3, hB4⟩ := hB2
      have y1 : wr.cell? ⟨b1, o1 + k * 3, none⟩ = some (.int .i64 f) := by rw [hbl.cell (p := ⟨b1, o1 + k * 3, none⟩) hlb1]; exact x1
      have HKEEP := hide (show ∀ W, Below w.heap.size w W → (fun w' => Below w.heap.size w w' ∧ w'.cell? ⟨b1, o1 + k * 3 + 1, none⟩ = some (.int .i64 t) ∧ w'.cell? ⟨b1, o1 + k * 3 + 2, none⟩ = some (.string x)) W from fun W h => ⟨h, cell_later h x2, cell_later h x3⟩)
      have hwr := hbl.size
      have hwrap : IntKind.i64.wrap (A + B) = A + B := IntWalk.i64_in _ (by omega)
      clear hA hB hee x1 x2 x3
      go_wp2_with fail
      refine (low_e f 70 A _ (by omega) (by omega) HA.out).mono ?_
      rintro e w1 ⟨rfl, rfl⟩
      clear y1
      go_wp2
      go_region_held3 (fun w' => Below w.heap.size w w' ∧ w'.cell? ⟨b1, o1 + k * 3 + 1, none⟩ = some (.int .i64 t) ∧ w'.cell? ⟨b1, o1 + k * 3 + 2, none⟩ = some (.string x))
        ((try go_split_ands
          refine HKEEP.out _ ?_
          repeat (first | assumption | exact hbl | refine bl_drew ?_ | refine bl_alloc ?_ _)))
        (first
          | (go_at_call 24; refine (low_e t 4 B _ (by omega) (by omega) HB.out).mono ?_; rintro e w3 ⟨rfl, rfl⟩)
          | (go_split_ands; refine step_src _ (by rfl) (.tmp 19) (.tmp 37) 35 (by rfl) w.heap.size 61 i0 (.agg #[.int .i64 0, .int .i64 0, .string ⟨#[]⟩]) 3 32 Try.underlying35 hi0 hz0' hz1 hz2 rfl (by decide) (.slice aV k cV) k (flatE ((l.take k).map edE)) (by rfl) (own_below HK.out (by repeat (first | exact bl_refl _ | refine bl_drew ?_ | refine bl_alloc ?_ _))) (some ⟨_, 0, none⟩) 1 1 [.int .i64 A, .int .i64 (A + B), .string x] (by rfl) (src_block (cs := #[.int .i64 A, .int .i64 (A + B), .string x]) (by (try refine heap_drew ?_); exact heap_new (by simp)) rfl) (by simp [Value.oneCell']) (by omega) (by decide) (by simp; omega) ?_; intro v8 w8 hv8 hg8; have B8 : Below w.heap.size w w8 := below_gr (a := w) (by assumption) (Nat.le_refl _) hg8 (fun q hq => (HK.out.lt q hq).1))
          | fail)
      all_goals
        have hf8 := HFIN.out _ _ hv8
        clear hv8 hg8
        go_wp2
        refine ⟨?_, by first | (simp [intOf]; done) | (simp [intOf]; omega)⟩
        exact ⟨k + 1, by go_num, by omega, hf8, B8⟩
    · obtain rfl : k = l.length := by omega
      rw [List.take_length] at HK
      go_wp2
      go_ret
      exact ⟨⟨_, rfl, HK.out⟩, hbl⟩
end
end Go.Proofs.Ytjmoeahlbgdkbaa
