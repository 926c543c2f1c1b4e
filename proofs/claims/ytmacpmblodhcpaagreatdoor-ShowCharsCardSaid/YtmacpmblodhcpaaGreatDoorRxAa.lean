/- Trees of regular expressions: as data, in memory, as arguments. No condition. Arguments that are trees, or slices of them: what a walk is told. No condition. Contracts: how many parts and groups a tree has, how deep it is, by the program and the reference. Condition: a tree that is not too big. Contract: the laws' own bound on a tree (gimletlaw0.Rx). Condition: a bound that is not too big. Contracts: are two trees the same, part by part. No condition. Contracts: slices.EqualFunc over trees, deep.SameRx, rxtree.Same. No condition. Contracts: deep.SameRx, rxtree.Same. No condition. Contract: gimletref13.Same. No condition. Contracts: a list of rows copied (deep.List). Condition: not too many. A tree's copy: what is new, what is the same; the copy of a list of trees (deep.Each). Condition: not too many. Contract: the copy of a list of trees (deep.Each) under a copy of each. Condition: not too many. Contract: deep.Rx, the copy of a tree. Condition: a tree that is not too big. A tree none of whose lists lies in block g: it stays through writes into g. No condition. Contract: rxtree.flatten. Condition: trees that are not too big. Contract: rxtree.flatten. Condition: trees that are not too big. -/
import Derived.Test.YtmacpmblodhcpaaGreatDoorRowArgs
import Derived.ChangeSame
import Derived.Deep.Slices
import Derived.Deep.DrawnRows
import Derived.BigQuiet
import Derived.Deep.RegionHeld3
import Derived.OwnWalk
import Derived.Test.YtmacpmblodhcpaaGreatDoorApp
namespace Go.Proofs.YtmacpmblodhcpaaGreatDoor
section
set_option maxRecDepth 100000
open Go.ChangeShapes Go.WideShapes Go.ChangeAt Go.RowKit Go.Deep Go.Joins
open SetM
set_option linter.unusedVariables false
/-- A part: its kind, character, rows, bounds, kids; rv, kv: the slices that hold its rows and kids. -/
inductive Rt where
  | mk (k : Int) (ch : ByteArray) (nt : Bool) (rv : Value) (rows : List Rw) (mi ma : Int) (lz : Bool) (kv : Value) (kids : List Rt)
instance : Inhabited Rt := ⟨.mk 0 ⟨#[]⟩ false (.slice none 0 0) [] 0 0 false (.slice none 0 0) []⟩
def Rt.k : Rt → Int | .mk k _ _ _ _ _ _ _ _ _ => k
def Rt.ch : Rt → ByteArray | .mk _ c _ _ _ _ _ _ _ _ => c
def Rt.nt : Rt → Bool | .mk _ _ n _ _ _ _ _ _ _ => n
def Rt.rv : Rt → Value | .mk _ _ _ v _ _ _ _ _ _ => v
def Rt.rows : Rt → List Rw | .mk _ _ _ _ r _ _ _ _ _ => r
def Rt.mi : Rt → Int | .mk _ _ _ _ _ m _ _ _ _ => m
def Rt.ma : Rt → Int | .mk _ _ _ _ _ _ m _ _ _ => m
def Rt.lz : Rt → Bool | .mk _ _ _ _ _ _ _ z _ _ => z
def Rt.kv : Rt → Value | .mk _ _ _ _ _ _ _ _ v _ => v
def Rt.kids : Rt → List Rt | .mk _ _ _ _ _ _ _ _ _ l => l
/-- Its cells. -/
def Rt.cs (t : Rt) : List Value := [.int .i64 t.k, .string t.ch, .bool t.nt, t.rv, .int .i64 t.mi, .int .i64 t.ma, .bool t.lz, t.kv]
def Rt.v (t : Rt) : Value := .agg t.cs.toArray
/-- The slice holds these parts' cells. -/
def KsAt (w : World) (v : Value) (l : List Rt) : Prop :=
  (v = .slice none 0 0 ∧ l = []) ∨ ∃ x c, v = .slice (some x) l.length c ∧ l.length ≤ c ∧ c ≤ maxLen ∧ ∀ i (h : i < l.length) j u, (l[i].cs)[j]? = some u → w.cell? (x.add (i * 8 + j)) = some u
/-- The tree lies in memory. -/
inductive RxAt (w : World) : Rt → Prop
  | mk (t : Rt) (hr : RwAt w t.rv t.rows) (hk : KsAt w t.kv t.kids) (hs : ∀ i (h : i < t.kids.length), RxAt w t.kids[i]) : RxAt w t
theorem RxAt.rows {w : World} {t : Rt} (h : RxAt w t) : RwAt w t.rv t.rows := by cases h; assumption
theorem RxAt.ks {w : World} {t : Rt} (h : RxAt w t) : KsAt w t.kv t.kids := by cases h; assumption
theorem RxAt.kid {w : World} {t : Rt} (h : RxAt w t) (i : Nat) (hi : i < t.kids.length) : RxAt w t.kids[i] := by cases h with | mk _ _ _ hs => exact hs i hi
theorem ksat_below {w w' : World} {v : Value} {l : List Rt} (h : KsAt w v l) (hb : Below w.heap.size w w') : KsAt w' v l := by
  rcases h with h | ⟨x, c, rfl, h1, h2, h3⟩
  · exact .inl h
  · exact .inr ⟨x, c, rfl, h1, h2, fun i hi j u hu => cell_later hb (h3 i hi j u hu)⟩
theorem rx_below {w w' : World} {t : Rt} (h : RxAt w t) (hb : Below w.heap.size w w') : RxAt w' t := by
  induction h with
  | mk t hr hk hs ih => exact .mk t (rwat_below hr hb) (ksat_below hk hb) ih
theorem ksat_len {w : World} {v : Value} {l : List Rt} (h : KsAt w v l) : ∃ a c, v = .slice a l.length c := by
  rcases h with ⟨rfl, rfl⟩ | ⟨x, c, rfl, _⟩
  · exact ⟨none, 0, rfl⟩
  · exact ⟨some x, c, rfl⟩
/-- Its address, where it holds something. -/
theorem ksat_some {w : World} {v : Value} {l : List Rt} (h : KsAt w v l) (hp : 0 < l.length) :
    ∃ b off c, v = .slice (some ⟨b, off, none⟩) l.length c ∧ l.length ≤ c ∧ c ≤ maxLen ∧ b < w.heap.size ∧ ∀ i (h : i < l.length) j u, (l[i].cs)[j]? = some u → w.cell? ⟨b, off + i * 8 + j, none⟩ = some u := by
  rcases h with ⟨rfl, rfl⟩ | ⟨x, c, rfl, h1, h2, h3⟩
  · simp at hp
  · obtain ⟨b, off, spot⟩ := x
    have hc := h3 0 hp 0 _ rfl
    have hspot : spot = none := by simpa [Addr.add] using World.cell?_spot hc
    subst hspot
    refine ⟨b, off, c, rfl, h1, h2, ?_, fun i hi j u hu => ?_⟩
    · have := World.block_lt_of_cell? w _ hc
      rw [addr_add] at this
      exact this
    · have := h3 i hi j u hu
      rw [addr_add] at this
      rw [Nat.add_assoc]; exact this
theorem ksat_8 {w : World} {v : Value} {l : List Rt} (h : KsAt w v l) (hp : 0 < l.length) :
    ∃ b off c, v = .slice (some ⟨b, off, none⟩) l.length c ∧ l.length ≤ c ∧ c ≤ maxLen ∧ b < w.heap.size ∧ ∀ i (h : i < l.length), w.cell? ⟨b, off + i * 8, none⟩ = some (.int .i64 l[i].k) ∧ w.cell? ⟨b, off + i * 8 + 1, none⟩ = some (.string l[i].ch) ∧ w.cell? ⟨b, off + i * 8 + 2, none⟩ = some (.bool l[i].nt) ∧ w.cell? ⟨b, off + i * 8 + 3, none⟩ = some l[i].rv ∧ w.cell? ⟨b, off + i * 8 + 4, none⟩ = some (.int .i64 l[i].mi) ∧ w.cell? ⟨b, off + i * 8 + 5, none⟩ = some (.int .i64 l[i].ma) ∧ w.cell? ⟨b, off + i * 8 + 6, none⟩ = some (.bool l[i].lz) ∧ w.cell? ⟨b, off + i * 8 + 7, none⟩ = some l[i].kv := by
  obtain ⟨b, off, c, h1, h2, h3, h4, h5⟩ := ksat_some h hp
  exact ⟨b, off, c, h1, h2, h3, h4, fun i hi => ⟨h5 i hi 0 _ rfl, h5 i hi 1 _ rfl, h5 i hi 2 _ rfl, h5 i hi 3 _ rfl, h5 i hi 4 _ rfl, h5 i hi 5 _ rfl, h5 i hi 6 _ rfl, h5 i hi 7 _ rfl⟩⟩
/-- What is well formed in a tree: its numbers are ints, its texts no longer than can be. -/
inductive WfX : Rt → Prop
  | mk (t : Rt) (h1 : (Lit.int .i64 t.k).wf = true) (h2 : t.ch.size ≤ maxLen) (h3 : ∀ s ∈ t.rows, WfR s) (h4 : (Lit.int .i64 t.mi).wf = true) (h5 : (Lit.int .i64 t.ma).wf = true) (hs : ∀ x ∈ t.kids, WfX x) : WfX t
section
variable {H : Type} {enc : TypeId × Value → H} {W : World} {base : Nat} {held : Bool}
theorem open_rows_cells {fuel : Nat} {v : Value} {x : DataW H × List MemPlace} (hf : DataW.trod enc Tryz.prog W base (fun _ => true) held fuel 22 [v] = some x) : ∃ l : List Rw, RwAt W v l ∧ ∀ s ∈ l, WfR s := by
  obtain ⟨f0, f1, hs, o0, o1, t0, t1, hone⟩ := rw_fields
  rcases open_slice_pairs Tryz.underlying22 hs (by kernel_rfl) o0 o1 (by rw [t0]; kernel_rfl) (by rw [t1]; kernel_rfl) hf with ⟨hcs, _⟩ | ⟨x, l, c, m, n, V0, V1, D0, D1, P0, P1, hcs, _, hl, hm, hmm, _, hcell⟩
  · injection hcs with hcs
    exact ⟨[], .inl ⟨hcs, rfl⟩, by simp⟩
  · injection hcs with hcs
    subst hcs
    rw [t0, t1] at hcell
    have hex : ∀ i, i < l → ∃ s : Rw, W.cell? (x.add (i * 2)) = some (.string s.1) ∧ W.cell? (x.add (i * 2 + 1)) = some (.string s.2) ∧ WfR s := by
      intro i hi
      obtain ⟨h0, h1, h2, h3⟩ := hcell i (by simp only [if_true] at hmm; omega)
      obtain ⟨a, e0, _, wa⟩ := DataW.trod_string Tryz.underlying9 h2
      obtain ⟨b, e1, _, wb⟩ := DataW.trod_string Tryz.underlying9 h3
      simp at e0 e1
      rw [e0] at h0
      rw [e1] at h1
      exact ⟨(a, b), h0, h1, wa, wb⟩
    obtain ⟨q, hq⟩ := choose_lt hex
    refine ⟨(List.range l).map q, .inr ⟨x, c, by simp, by simpa using hl, hm, fun i hi => ?_⟩, fun s hs => ?_⟩
    · simp at hi
      simp only [List.getElem_map, List.getElem_range]
      exact ⟨(hq i hi).1, (hq i hi).2.1⟩
    · simp at hs
      obtain ⟨i, hi, rfl⟩ := hs
      exact (hq i hi).2.2
set_option maxRecDepth 100000 in
/-- A tree that is handed in. -/
theorem open_cells : ∀ (fuel : Nat) (cs : List Value) (x : DataW H × List MemPlace), DataW.trod enc Tryz.prog W base (fun _ => true) held fuel 25 cs = some x → ∃ t : Rt, t.cs = cs ∧ RxAt W t ∧ WfX t := by
  intro fuel
  induction fuel using Nat.strongRecOn with
  | _ fuel ih =>
    intro cs x h
    obtain ⟨xs, n, hf, _, hlen, hxl, hg⟩ := DataW.trod_struct Tryz.underlying25 h
    have hC : Tryz.prog.cellsOf 25 = 8 := by kernel_rfl
    have hC1 : Tryz.prog.cellsOf 3 = 1 := by kernel_rfl
    have hCs : Tryz.prog.cellsOf 9 = 1 := by kernel_rfl
    have hCb : Tryz.prog.cellsOf 4 = 1 := by kernel_rfl
    have hCr : Tryz.prog.cellsOf 22 = 1 := by kernel_rfl
    have hCk : Tryz.prog.cellsOf 23 = 1 := by kernel_rfl
    rw [hC] at hlen
    match cs, hlen, xs, hxl with
    | [v0, v1, v2, v3, v4, v5, v6, v7], _, [y0, y1, y2, y3, y4, y5, y6, y7], _ =>
      have g0 : DataW.trod enc Tryz.prog W base (fun _ => true) held n 3 (([v0, v1, v2, v3, v4, v5, v6, v7].drop 0).take (Tryz.prog.cellsOf 3)) = some y0 := hg 0 _ rfl
      have g1 : DataW.trod enc Tryz.prog W base (fun _ => true) held n 9 (([v0, v1, v2, v3, v4, v5, v6, v7].drop 1).take (Tryz.prog.cellsOf 9)) = some y1 := hg 1 _ rfl
      have g2 : DataW.trod enc Tryz.prog W base (fun _ => true) held n 4 (([v0, v1, v2, v3, v4, v5, v6, v7].drop 2).take (Tryz.prog.cellsOf 4)) = some y2 := hg 2 _ rfl
      have g3 : DataW.trod enc Tryz.prog W base (fun _ => true) held n 22 (([v0, v1, v2, v3, v4, v5, v6, v7].drop 3).take (Tryz.prog.cellsOf 22)) = some y3 := hg 3 _ rfl
      have g4 : DataW.trod enc Tryz.prog W base (fun _ => true) held n 3 (([v0, v1, v2, v3, v4, v5, v6, v7].drop 4).take (Tryz.prog.cellsOf 3)) = some y4 := hg 4 _ rfl
      have g5 : DataW.trod enc Tryz.prog W base (fun _ => true) held n 3 (([v0, v1, v2, v3, v4, v5, v6, v7].drop 5).take (Tryz.prog.cellsOf 3)) = some y5 := hg 5 _ rfl
      have g6 : DataW.trod enc Tryz.prog W base (fun _ => true) held n 4 (([v0, v1, v2, v3, v4, v5, v6, v7].drop 6).take (Tryz.prog.cellsOf 4)) = some y6 := hg 6 _ rfl
      have g7 : DataW.trod enc Tryz.prog W base (fun _ => true) held n 23 (([v0, v1, v2, v3, v4, v5, v6, v7].drop 7).take (Tryz.prog.cellsOf 23)) = some y7 := hg 7 _ rfl
      rw [hC1] at g0 g4 g5
      rw [hCs] at g1
      rw [hCb] at g2 g6
      rw [hCr] at g3
      rw [hCk] at g7
      obtain ⟨a0, q0, _, u0⟩ := DataW.trod_int Tryz.underlying3 g0
      obtain ⟨a1, q1, _, u1⟩ := DataW.trod_string Tryz.underlying9 g1
      obtain ⟨a2, q2, _⟩ := DataW.trod_bool Tryz.underlying4 g2
      obtain ⟨a4, q4, _, u4⟩ := DataW.trod_int Tryz.underlying3 g4
      obtain ⟨a5, q5, _, u5⟩ := DataW.trod_int Tryz.underlying3 g5
      obtain ⟨a6, q6, _⟩ := DataW.trod_bool Tryz.underlying4 g6
      simp at q0 q1 q2 q4 q5 q6
      subst q0 q1 q2 q4 q5 q6
      replace g3 : DataW.trod enc Tryz.prog W base (fun _ => true) held n 22 [v3] = some y3 := g3
      replace g7 : DataW.trod enc Tryz.prog W base (fun _ => true) held n 23 [v7] = some y7 := g7
      obtain ⟨rows, hr, hwr⟩ := open_rows_cells g3
      have hkids : ∃ l : List Rt, KsAt W v7 l ∧ (∀ i (h : i < l.length), RxAt W l[i]) ∧ ∀ x ∈ l, WfX x := by
        rcases DataW.trod_slice Tryz.underlying23 g7 with ⟨hcs, _⟩ | ⟨a, len, cap, elems, rest, m, hn, hcs, _, _, hl, hm, hel, hx, _⟩
        · injection hcs with hcs
          exact ⟨[], .inl ⟨hcs, rfl⟩, fun i hi => by simp at hi, fun x hx => by cases hx⟩
        · injection hcs with hcs
          have hex : ∀ i, i < len → ∃ t : Rt, (∀ j u, t.cs[j]? = some u → W.cell? (a.add (i * 8 + j)) = some u) ∧ RxAt W t ∧ WfX t := by
            intro i hi
            have hxi := hx i hi
            rw [hC, List.getElem?_eq_getElem (by omega)] at hxi
            obtain ⟨cs', h1, h2⟩ := Option.bind_eq_some_iff.1 hxi
            obtain ⟨t, ht, ha, hw⟩ := ih m (by omega) cs' _ h2
            refine ⟨t, fun j u hu => ?_, ha, hw⟩
            rw [ht] at hu
            obtain ⟨_, hlen, hcell⟩ := World.cells?_some h1
            have hj : j < cs'.length := (List.getElem?_eq_some_iff.1 hu).1
            have := hcell j (by omega)
            rw [add_add] at this
            rw [← hu]
            exact this
          obtain ⟨q, hq⟩ := choose_lt hex
          refine ⟨(List.range len).map q, .inr ⟨a, cap, by rw [hcs]; simp, by simpa using hl, hm, fun i hi j u hu => ?_⟩, fun i hi => ?_, fun x hx => ?_⟩
          · simp at hi
            simp only [List.getElem_map, List.getElem_range] at hu
            exact (hq i hi).1 j u hu
          · simp at hi
            simp only [List.getElem_map, List.getElem_range]
            exact (hq i hi).2.1
          · simp at hx
            obtain ⟨i, hi, rfl⟩ := hx
            exact (hq i hi).2.2
      obtain ⟨l, hk, hs, hws⟩ := hkids
      exact ⟨.mk a0 a1 a2 v3 rows a4 a5 a6 v7 l, rfl, .mk _ hr hk hs, .mk _ u0 u1 hwr u4 u5 hws⟩
end
end
section
set_option maxRecDepth 100000
open Go.ChangeShapes Go.WideShapes Go.ChangeAt Go.RowKit Go.Deep Go.Joins
open SetM
section
variable {H : Type} {enc : TypeId × Value → H} {W : World} {base : Nat} {held : Bool}
set_option maxRecDepth 100000 in
theorem open_rx {r : Reach} {b0 : Nat} {v : Value} {d : DataW H} {p : List MemPlace} (hv : Value.okWide Tryz.prog W r b0 25 v) (h : DataW.Trod enc Tryz.prog W base (fun _ => true) held 25 v d p) :
    ∃ t : Rt, v = t.v ∧ RxAt W t ∧ WfX t := by
  obtain ⟨cs, rfl, hsz⟩ := okWide_struct Tryz.underlying25 hv
  obtain ⟨fuel, hf⟩ := h
  obtain ⟨t, ht, ha, hw⟩ := open_cells fuel _ _ hf
  refine ⟨t, ?_, ha, hw⟩
  unfold Rt.v
  rw [ht]
  simp [Value.cells]
set_option maxRecDepth 100000 in
theorem open_rxs {r : Reach} {b0 : Nat} {v : Value} {d : DataW H} {p : List MemPlace} (hv : Value.okWide Tryz.prog W r b0 23 v) (h : DataW.Trod enc Tryz.prog W base (fun _ => true) held 23 v d p) :
    ∃ l : List Rt, KsAt W v l ∧ (∀ i (h : i < l.length), RxAt W l[i]) ∧ ∀ x ∈ l, WfX x := by
  obtain ⟨a, len, cap, rfl⟩ := okWide_slice Tryz.underlying23 hv
  obtain ⟨fuel, hf⟩ := h
  have hC : Tryz.prog.cellsOf 25 = 8 := by kernel_rfl
  rcases DataW.trod_slice Tryz.underlying23 hf with ⟨hcs, _⟩ | ⟨x, l, c, elems, rest, m, hn, hcs, _, _, hl, hm, hel, hx, _⟩
  · simp [Value.cells] at hcs
    obtain ⟨rfl, rfl, rfl⟩ := hcs
    exact ⟨[], .inl ⟨rfl, rfl⟩, fun i hi => by simp at hi, fun x hx => by cases hx⟩
  · simp [Value.cells] at hcs
    obtain ⟨rfl, rfl, rfl⟩ := hcs
    have hex : ∀ i, i < len → ∃ t : Rt, (∀ j u, t.cs[j]? = some u → W.cell? (x.add (i * 8 + j)) = some u) ∧ RxAt W t ∧ WfX t := by
      intro i hi
      have hxi := hx i hi
      rw [hC, List.getElem?_eq_getElem (by omega)] at hxi
      obtain ⟨cs', h1, h2⟩ := Option.bind_eq_some_iff.1 hxi
      obtain ⟨t, ht, ha, hw⟩ := open_cells m cs' _ h2
      refine ⟨t, fun j u hu => ?_, ha, hw⟩
      rw [ht] at hu
      obtain ⟨_, hlen, hcell⟩ := World.cells?_some h1
      have hj : j < cs'.length := (List.getElem?_eq_some_iff.1 hu).1
      have := hcell j (by omega)
      rw [add_add] at this
      rw [← hu]
      exact this
    obtain ⟨q, hq⟩ := choose_lt hex
    refine ⟨(List.range len).map q, .inr ⟨x, cap, by simp, by simpa using hl, hm, fun i hi j u hu => ?_⟩, fun i hi => ?_, fun x hx => ?_⟩
    · simp at hi
      simp only [List.getElem_map, List.getElem_range] at hu
      exact (hq i hi).1 j u hu
    · simp at hi
      simp only [List.getElem_map, List.getElem_range]
      exact (hq i hi).2.1
    · simp at hx
      obtain ⟨i, hi, rfl⟩ := hx
      exact (hq i hi).2.2
end
end
section
open Go.ChangeShapes Go.WideShapes Go.ChangeAt Go.RowKit
open SetM
attribute [local go_sem ↓] Go.wp_at_zero Go.wp_at_succ
set_option maxRecDepth 100000
set_option linter.unusedVariables false
mutual
  def pM : Rt → Nat
    | .mk _ _ _ _ _ _ _ _ _ l => 1 + pL l
  def pL : List Rt → Nat
    | [] => 0
    | t :: l => pM t + pL l
end
mutual
  def gM : Rt → Nat
    | .mk k _ _ _ _ _ _ _ _ l => (if k = 5 then 1 else 0) + gL l
  def gL : List Rt → Nat
    | [] => 0
    | t :: l => gM t + gL l
end
mutual
  def dM : Rt → Nat
    | .mk k _ _ _ _ _ _ _ _ l => dL l + (if k = 5 ∨ k = 6 then 1 else 0)
  def dL : List Rt → Nat
    | [] => 0
    | t :: l => max (dM t) (dL l)
end
theorem pM_eq (t : Rt) : pM t = 1 + pL t.kids := by cases t; rw [pM]; rfl
theorem gM_eq (t : Rt) : gM t = (if t.k = 5 then 1 else 0) + gL t.kids := by cases t; rw [gM]; rfl
theorem dM_eq (t : Rt) : dM t = dL t.kids + (if t.k = 5 ∨ t.k = 6 then 1 else 0) := by cases t; rw [dM]; rfl
theorem pL_app (l m : List Rt) : pL (l ++ m) = pL l + pL m := by
  induction l with
  | nil => simp [pL]
  | cons a l ih => simp only [List.cons_append, pL, ih]; omega
theorem gL_app (l m : List Rt) : gL (l ++ m) = gL l + gL m := by
  induction l with
  | nil => simp [gL]
  | cons a l ih => simp only [List.cons_append, gL, ih]; omega
theorem dL_app (l m : List Rt) : dL (l ++ m) = max (dL l) (dL m) := by
  induction l with
  | nil => simp [dL]
  | cons a l ih => simp only [List.cons_append, dL, ih]; omega
theorem pL_snoc (l : List Rt) (k : Nat) (h : k < l.length) : pL (l.take (k + 1)) = pL (l.take k) + pM l[k] := by
  rw [List.take_succ_eq_append_getElem h, pL_app]; simp [pL]
theorem gL_snoc (l : List Rt) (k : Nat) (h : k < l.length) : gL (l.take (k + 1)) = gL (l.take k) + gM l[k] := by
  rw [List.take_succ_eq_append_getElem h, gL_app]; simp [gL]
theorem dL_snoc (l : List Rt) (k : Nat) (h : k < l.length) : dL (l.take (k + 1)) = max (dL (l.take k)) (dM l[k]) := by
  rw [List.take_succ_eq_append_getElem h, dL_app]; simp [dL]
theorem pL_kid (l : List Rt) (k : Nat) (h : k < l.length) : pM l[k] ≤ pL l := by
  have h1 := pL_snoc l k h
  have h2 : pL l = pL (l.take (k + 1)) + pL (l.drop (k + 1)) := by rw [← pL_app, List.take_append_drop]
  omega
theorem pM_pos (t : Rt) : 1 ≤ pM t := by rw [pM_eq]; omega
theorem len_pL (l : List Rt) : l.length ≤ pL l := by
  induction l with
  | nil => simp
  | cons a l ih => rw [pL, List.length_cons]; have := pM_pos a; omega
mutual
  theorem gM_le : ∀ t, gM t ≤ pM t
    | .mk k _ _ _ _ _ _ _ _ l => by rw [gM, pM]; have := gL_le l; split <;> omega
  theorem gL_le : ∀ l, gL l ≤ pL l
    | [] => by simp [gL]
    | t :: l => by rw [gL, pL]; have := gM_le t; have := gL_le l; omega
end
mutual
  theorem dM_le : ∀ t, dM t ≤ pM t
    | .mk k _ _ _ _ _ _ _ _ l => by rw [dM, pM]; have := dL_le l; split <;> omega
  theorem dL_le : ∀ l, dL l ≤ pL l
    | [] => by simp [dL]
    | t :: l => by rw [dL, pL]; have := dM_le t; have := dL_le l; omega
end
theorem pL_take (l : List Rt) (k : Nat) : pL (l.take k) ≤ pL l := by
  have h2 : pL l = pL (l.take k) + pL (l.drop k) := by rw [← pL_app, List.take_append_drop]
  omega
theorem max_nat (a b : Nat) : max (a : Int) (b : Int) = ((max a b : Nat) : Int) := by omega
theorem isg_any (k : Int) (r : Bool) (hr : decide (k = 5 ∨ k = 6) = r) (w : World) : Calls Tryz.prog 31 #[.int .i64 k] w fun e w' => e = .returned (.bool r) ∧ w = w' := by
  by_cases h5 : k = 5
  · have z5 : (k == 5) = true := beq_iff_eq.2 h5
    obtain rfl : r = true := by rw [← hr]; exact decide_eq_true (.inl h5)
    clear hr h5
    go_enter Tryz.func31, Tryz.ntmps31
    go_wp2
    go_ret
    exact ⟨rfl, rfl⟩
  · have z5 : (k == 5) = false := beq_eq_false_iff_ne.2 h5
    by_cases h6 : k = 6
    · have z6 : (k == 6) = true := beq_iff_eq.2 h6
      obtain rfl : r = true := by rw [← hr]; exact decide_eq_true (.inr h6)
      clear hr h5 h6
      go_enter Tryz.func31, Tryz.ntmps31
      go_wp2
      go_ret
      exact ⟨rfl, rfl⟩
    · have z6 : (k == 6) = false := beq_eq_false_iff_ne.2 h6
      obtain rfl : r = false := by rw [← hr]; exact decide_eq_false (by omega)
      clear hr h5 h6
      go_enter Tryz.func31, Tryz.ntmps31
      go_wp2
      go_ret
      exact ⟨rfl, rfl⟩
set_option maxHeartbeats 4000000 in
theorem groups_any {w0 : World} {t : Rt} (h : RxAt w0 t) (hp : pM t ≤ 100000) : ∀ w, Below w0.heap.size w0 w → Calls Tryz.prog 16 #[t.v] w fun e w' => e = .returned (.int .i64 (gM t : Nat)) ∧ Below w.heap.size w w' := by
  induction h with
  | mk t hr hk hs ih =>
    intro w hb0
    have hM := gM_eq t
    have hpM := pM_eq t
    have hK := hide hk
    have HB0 := hide hb0
    have HRX := hide (RxAt.mk t hr hk hs)
    have HIH := hide (fun i hi W hb => ih i hi (by have := pL_kid t.kids i hi; omega) W hb)
    obtain ⟨A, c, hkv⟩ := ksat_len hk
    have hln := len_pL t.kids
    unfold Rt.v Rt.cs
    rw [hkv]
    rw [hkv] at hK
    obtain ⟨kids, hkids⟩ : ∃ kids, t.kids = kids := ⟨_, rfl⟩
    have HP := hide (fun k => pL_take kids k)
    have HKE := hide hkids
    have HIH2 := hide (fun i (hi : i < kids.length) => (show ∃ h2 : i < t.kids.length, t.kids[i] = kids[i] by subst hkids; exact ⟨hi, rfl⟩))
    rw [hkids] at hM hpM hK hln
    obtain ⟨tk, htk⟩ : ∃ tk, t.k = tk := ⟨_, rfl⟩
    (try rw [htk] at hM)
    have HM := hide hM
    generalize t.rv = rv
    generalize t.ch = ch
    generalize t.nt = nt
    generalize t.mi = mi
    generalize t.ma = ma
    generalize t.lz = lz
    obtain ⟨pt, hpt⟩ : ∃ pt, pM t = pt := ⟨_, rfl⟩
    rw [hpt] at hpM hp
    rw [htk, hkids]
    clear hr hk hs ih hb0 hkv hkids htk hM
    have hba := bl_alloc (bl_refl w) (.cells #[.int .i64 tk, .string ch, .bool nt, rv, .int .i64 mi, .int .i64 ma, .bool lz, .slice A kids.length c] 25)
    have HBA := hide hba
    clear hba
    have f0 : (w.alloc (.cells #[.int .i64 tk, .string ch, .bool nt, rv, .int .i64 mi, .int .i64 ma, .bool lz, .slice A kids.length c] 25)).cell? ⟨w.heap.size, 0, none⟩ = some (.int .i64 tk) := cells_lit w _ _ 0 _ rfl
    have f7 : (w.alloc (.cells #[.int .i64 tk, .string ch, .bool nt, rv, .int .i64 mi, .int .i64 ma, .bool lz, .slice A kids.length c] 25)).cell? ⟨w.heap.size, 7, none⟩ = some (.slice A kids.length c) := cells_lit w _ _ 7 _ rfl
    have F0 := hide f0
    have F7 := hide f7
    obtain ⟨z, hz⟩ : ∃ z : Nat, (if tk = 5 then 1 else 0) = z := ⟨_, rfl⟩
    have HM2 := hide (show gM t = z + gL kids by rw [HM.out, hz])
    have hz1 : z ≤ 1 := by rw [← hz]; split <;> omega
    have hz2 : (tk == 5) = true ∧ z = 1 ∨ (tk == 5) = false ∧ z = 0 := by
      by_cases h : tk = 5
      · left; exact ⟨beq_iff_eq.2 h, by rw [← hz, if_pos h]⟩
      · right; exact ⟨beq_eq_false_iff_ne.2 h, by rw [← hz, if_neg h]⟩
    clear hz HM
    go_enter Tryz.func16, Tryz.ntmps16
    rcases hz2 with ⟨q5, hz5⟩ | ⟨q5, hz5⟩
    all_goals
      have HZ5 := hide hz5
      clear hz5
      go_wp2
      clear f0 f7
      go_loopw [3, 12] (fun s i wr => ∃ (k n : Nat), i = .int .i64 k ∧ s = .int .i64 n ∧ k ≤ kids.length ∧ n ≤ 200000 ∧ Hid (n = z + gL (kids.take k)) ∧ Hid (Below w.heap.size w wr) ∧ Hid (wr.cell? ⟨w.heap.size, 0, none⟩ = some (.int .i64 tk)) ∧ Hid (wr.cell? ⟨w.heap.size, 7, none⟩ = some (.slice A kids.length c))) (fun _ i _ => kids.length - (intOf i).toNat)
      case atStart => exact ⟨0, _, rfl, rfl, Nat.zero_le _, by decide, hide (by simp [gL]; exact HZ5.out.symm), HBA, F0, F7⟩
      case round =>
        obtain ⟨k, n, rfl, rfl, hk, hn, HJ, HBL, G0, G7⟩ := hrel
        have c0 := G0.out
        have c7 := G7.out
        by_cases hlt : k < kids.length
        · have HBW := hide (bl_trans HB0.out HBL.out)
          obtain ⟨b1, o1, c1, hv1, hc1, hm1, hlb1, hcell⟩ := ksat_8 (ksat_below hK.out HBW.out) (by omega)
          injection hv1 with hv1 _ hv1c
          subst hv1 hv1c
          unfold maxLen at hm1
          obtain ⟨x0, x1, x2, x3, x4, x5, x6, x7⟩ := hcell k hlt
          obtain ⟨h2, he⟩ := HIH2.out k hlt
          have HC := fun W hb => HIH.out k h2 W hb
          have hrx := HRX.out.kid k h2
          rw [he] at HC hrx
          have hsn := gL_snoc kids k hlt
          have hpk := pL_kid kids k hlt
          have hpt2 := HP.out (k + 1)
          have hml := gM_le kids[k]
          clear hcell he h2
          obtain ⟨d, hd⟩ : ∃ d, kids[k] = d := ⟨_, rfl⟩
          rw [hd] at x0 x1 x2 x3 x4 x5 x6 x7 HC hsn hpk hml hrx
          obtain ⟨rA, rc, hrv⟩ := rwat_len hrx.rows
          obtain ⟨kA, kc, hkv⟩ := ksat_len hrx.ks
          rw [hrv] at x3
          rw [hkv] at x7
          obtain ⟨q, hq⟩ : ∃ q, gM d = q := ⟨_, rfl⟩
          rw [hq] at HC hsn hml
          have HJ2 := hide (show n + q = z + gL (kids.take (k + 1)) by have := HJ.out; omega)
          have hq2 : q ≤ 100000 := by omega
          unfold Rt.v Rt.cs at HC
          rw [hrv, hkv] at HC
          have HC2 := hide HC
          have gl : decide ((k : Int) < (kids.length : Int)) = true := decide_eq_true (by omega)
          have gl' : decide (k < kids.length) = true := decide_eq_true hlt
          have e5 : IntKind.i64.wrap ((k : Int) + 1) = (k : Int) + 1 := by rw [IntKind.wrap_i64]; omega
          have i1 : (0 : Int) ≤ (k : Int) := by omega
          have i2 : (k : Int) < (kids.length : Int) := by omega
          have hkn : (n + q) ≤ 200000 := by have := HJ2.out; have := pL_take kids (k + 1); have := gL_le (kids.take (k + 1)); omega
          clear hd hsn hpk hpt2 hml HC hq hrx hrv hkv
          have e6 : IntKind.i64.wrap ((n : Int) + (q : Int)) = ((n + q : Nat) : Int) := by rw [IntKind.wrap_i64]; omega
          have hba := bl_alloc (bl_refl wr) (.cells #[.int .i64 d.k, .string d.ch, .bool d.nt, .slice rA d.rows.length rc, .int .i64 d.mi, .int .i64 d.ma, .bool d.lz, .slice kA d.kids.length kc] 25)
          have HBC := hide (bl_trans HBL.out hba)
          have HBD := hide (bl_trans HB0.out HBC.out)
          have y0 := cell_later hba c0
          have y7 := cell_later hba c7
          clear hba
          go_wp2_with fail
          refine (HC2.out _ HBD.out).mono ?_
          rintro e w2 ⟨rfl, hb2⟩
          have HB3 := hide (bl_trans HBC.out hb2)
          have Z0 := hide (cell_later hb2 y0)
          have Z7 := hide (cell_later hb2 y7)
          clear hb2 x0 x1 x2 x3 x4 x5 x6 x7 c0 c7 y0 y7
          go_wp2
          refine ⟨?_, by first | (simp [intOf]; done) | (simp [intOf]; omega)⟩
          first
            | exact ⟨k + 1, n + q, by go_num, rfl, by omega, hkn, HJ2, HB3, Z0, Z7⟩
            | ((repeat apply Exists.intro); exact ⟨⟨k + 1, n + q, by go_num, rfl, by omega, hkn, HJ2, HB3, Z0, Z7⟩, rfl⟩)
        · obtain rfl : k = kids.length := by omega
          have gl : decide ((kids.length : Int) < (kids.length : Int)) = false := by simp
          have gl' : decide (kids.length < kids.length) = false := by simp
          have hj := HJ.out
          rw [List.take_length] at hj
          have HE := hide (show n = gM t by rw [HM2.out]; exact hj)
          clear hj hlt
          go_wp2
          go_ret
          exact ⟨by rw [HE.out]; rfl, HBL.out⟩
end
section
open Go.ChangeShapes Go.WideShapes Go.ChangeAt Go.RowKit
open SetM
attribute [local go_sem ↓] Go.wp_at_zero Go.wp_at_succ
set_option maxRecDepth 100000
set_option linter.unusedVariables false
/-- How big rows, trees are. -/
def rwS : List Rw → Nat
  | [] => 0
  | s :: l => 1 + s.1.size + s.2.size + rwS l
mutual
  def sM : Rt → Nat
    | .mk _ c _ _ r _ _ _ _ l => 1 + c.size + rwS r + sL l
  def sL : List Rt → Nat
    | [] => 0
    | t :: l => sM t + sL l
end
theorem sM_eq (t : Rt) : sM t = 1 + t.ch.size + rwS t.rows + sL t.kids := by cases t; rw [sM]; rfl
theorem rwS_app (l m : List Rw) : rwS (l ++ m) = rwS l + rwS m := by
  induction l with
  | nil => simp [rwS]
  | cons a l ih => simp only [List.cons_append, rwS, ih]; omega
theorem sL_app (l m : List Rt) : sL (l ++ m) = sL l + sL m := by
  induction l with
  | nil => simp [sL]
  | cons a l ih => simp only [List.cons_append, sL, ih]; omega
theorem rwS_snoc (l : List Rw) (k : Nat) (h : k < l.length) : rwS (l.take (k + 1)) = rwS (l.take k) + (1 + l[k].1.size + l[k].2.size) := by
  rw [List.take_succ_eq_append_getElem h, rwS_app]; simp [rwS]
theorem sL_snoc (l : List Rt) (k : Nat) (h : k < l.length) : sL (l.take (k + 1)) = sL (l.take k) + sM l[k] := by
  rw [List.take_succ_eq_append_getElem h, sL_app]; simp [sL]
theorem sL_kid (l : List Rt) (k : Nat) (h : k < l.length) : sM l[k] ≤ sL l := by
  have h1 := sL_snoc l k h
  have h2 : sL l = sL (l.take (k + 1)) + sL (l.drop (k + 1)) := by rw [← sL_app, List.take_append_drop]
  omega
theorem rwS_len (l : List Rw) : l.length ≤ rwS l := by
  induction l with
  | nil => simp
  | cons a l ih => rw [rwS, List.length_cons]; omega
theorem rwS_in (l : List Rw) : ∀ s ∈ l, s.1.size + s.2.size ≤ rwS l := by
  induction l with
  | nil => intro s hs; cases hs
  | cons a l ih =>
    intro s hs
    rw [rwS]
    rcases List.mem_cons.1 hs with rfl | hs
    · omega
    · have := ih s hs; omega
mutual
  theorem pM_sM : ∀ t, pM t ≤ sM t
    | .mk k _ _ _ _ _ _ _ _ l => by rw [pM, sM]; have := pL_sL l; omega
  theorem pL_sL : ∀ l, pL l ≤ sL l
    | [] => by simp [pL]
    | t :: l => by rw [pL, sL]; have := pM_sM t; have := pL_sL l; omega
end
def GuPost (t : Rt) (n : Int) (w : World) (e : Ending) (w' : World) : Prop := ∃ r : Int, e = .returned (.int .i64 r) ∧ -1000 ≤ r ∧ r ≤ n ∧ Hid (0 ≤ r → r + sM t ≤ n) ∧ Below w.heap.size w w'
set_option maxHeartbeats 8000000 in
theorem rxl_any {w0 : World} {t : Rt} (h : RxAt w0 t) (hwf : WfX t) : ∀ n : Int, 0 ≤ n → n ≤ 1000 → ∀ w, Below w0.heap.size w0 w → Calls Tryz.prog 7 #[t.v, .int .i64 n] w (GuPost t n w) := by
  induction h with
  | mk t hr hk hs ih =>
    intro n hn0 hn1 w hb0
    have hM := sM_eq t
    have hK := hide hk
    have hR := hide hr
    have HB0 := hide hb0
    have HRX := hide (RxAt.mk t hr hk hs)
    obtain ⟨_, wf1, wf2, wf3, _, _, wf6⟩ := hwf
    have HIH := hide (fun i hi m h1 h2 W hb => ih i hi (wf6 _ (List.getElem_mem hi)) m h1 h2 W hb)
    obtain ⟨A, c, hkv⟩ := ksat_len hk
    obtain ⟨RA, rc, hrv⟩ := rwat_len hr
    unfold Rt.v Rt.cs
    rw [hkv, hrv]
    rw [hkv] at hK
    rw [hrv] at hR
    obtain ⟨kids, hkids⟩ : ∃ kids, t.kids = kids := ⟨_, rfl⟩
    obtain ⟨rows, hrows⟩ : ∃ rows, t.rows = rows := ⟨_, rfl⟩
    have HIH2 := hide (fun i (hi : i < kids.length) => (show ∃ h2 : i < t.kids.length, t.kids[i] = kids[i] by subst hkids; exact ⟨hi, rfl⟩))
    rw [hkids] at hM hK
    rw [hrows] at hM hR wf3
    have WF3 := hide wf3
    obtain ⟨ch, hch⟩ : ∃ ch, t.ch = ch := ⟨_, rfl⟩
    rw [hch] at hM wf2 ⊢
    have HM := hide hM
    unfold GuPost
    obtain ⟨st, hst⟩ : ∃ st, sM t = st := ⟨_, rfl⟩
    rw [hst] at HM ⊢
    generalize t.k = tk
    generalize t.nt = nt
    generalize t.mi = mi
    generalize t.ma = ma
    generalize t.lz = lz
    rw [hkids, hrows]
    unfold maxLen at wf2
    clear hr hk hs ih hb0 hkv hrv hkids hrows hM wf1 wf3 wf6 hch hst
    have hba := bl_alloc (bl_refl w) (.cells #[.int .i64 tk, .string ch, .bool nt, .slice RA rows.length rc, .int .i64 mi, .int .i64 ma, .bool lz, .slice A kids.length c] 25)
    have HBA := hide hba
    clear hba
    have f1 : (w.alloc (.cells #[.int .i64 tk, .string ch, .bool nt, .slice RA rows.length rc, .int .i64 mi, .int .i64 ma, .bool lz, .slice A kids.length c] 25)).cell? ⟨w.heap.size, 1, none⟩ = some (.string ch) := cells_lit w _ _ 1 _ rfl
    have f3 : (w.alloc (.cells #[.int .i64 tk, .string ch, .bool nt, .slice RA rows.length rc, .int .i64 mi, .int .i64 ma, .bool lz, .slice A kids.length c] 25)).cell? ⟨w.heap.size, 3, none⟩ = some (.slice RA rows.length rc) := cells_lit w _ _ 3 _ rfl
    have f7 : (w.alloc (.cells #[.int .i64 tk, .string ch, .bool nt, .slice RA rows.length rc, .int .i64 mi, .int .i64 ma, .bool lz, .slice A kids.length c] 25)).cell? ⟨w.heap.size, 7, none⟩ = some (.slice A kids.length c) := cells_lit w _ _ 7 _ rfl
    have F3 := hide f3
    have F7 := hide f7
    by_cases q1 : n ≤ ch.size
    · have g1 : decide (n ≤ (ch.size : Int)) = true := decide_eq_true q1
      go_enter Tryz.func7, Tryz.ntmps7
      go_wp2
      go_ret
      exact ⟨-1, rfl, by omega, by omega, hide (fun h => by omega), HBA.out⟩
    have g1 : decide (n ≤ (ch.size : Int)) = false := decide_eq_false q1
    by_cases q2 : n ≤ rows.length
    · have g2 : decide (n ≤ (rows.length : Int)) = true := decide_eq_true q2
      go_enter Tryz.func7, Tryz.ntmps7
      go_wp2
      go_ret
      exact ⟨-1, rfl, by omega, by omega, hide (fun h => by omega), HBA.out⟩
    have g2 : decide (n ≤ (rows.length : Int)) = false := decide_eq_false q2
    by_cases q3 : n ≤ kids.length
    · have g3 : decide (n ≤ (kids.length : Int)) = true := decide_eq_true q3
      go_enter Tryz.func7, Tryz.ntmps7
      go_wp2
      go_ret
      exact ⟨-1, rfl, by omega, by omega, hide (fun h => by omega), HBA.out⟩
    have g3 : decide (n ≤ (kids.length : Int)) = false := decide_eq_false q3
    have e1 : IntKind.i64.wrap (n - 1) = n - 1 := by rw [IntKind.wrap_i64]; omega
    have e2 : IntKind.i64.wrap (n - 1 - (ch.size : Int)) = n - 1 - ch.size := by rw [IntKind.wrap_i64]; omega
    have HN := hide (show 0 ≤ n - 1 - (ch.size : Int) by omega)
    clear q1 q2 q3
    go_enter Tryz.func7, Tryz.ntmps7
    go_wp2
    clear f1 f3 f7 g1 g2 g3 e1 e2
    go_loopw [1, 5] (fun m i wr => ∃ (k : Nat) (r : Int), i = .int .i64 k ∧ m = .int .i64 r ∧ k ≤ rows.length ∧ -1000 ≤ r ∧ r ≤ n - 1 - ch.size ∧ Hid (r + 1 + ch.size + rwS (rows.take k) = n) ∧ Hid (Below w.heap.size w wr) ∧ Hid (wr.cell? ⟨w.heap.size, 3, none⟩ = some (.slice RA rows.length rc)) ∧ Hid (wr.cell? ⟨w.heap.size, 7, none⟩ = some (.slice A kids.length c))) (fun _ i _ => rows.length - (intOf i).toNat)
    case atStart => exact ⟨0, n - 1 - ch.size, rfl, rfl, Nat.zero_le _, by have := HN.out; omega, Int.le_refl _, hide (by simp [rwS]; omega), HBA, F3, F7⟩
    case round =>
      obtain ⟨k, r, rfl, rfl, hk, hr0, hr1, HJ, HBL, G3, G7⟩ := hrel
      have c3 := G3.out
      have c7 := G7.out
      by_cases hlt : k < rows.length
      · have HBW := hide (bl_trans HB0.out HBL.out)
        obtain ⟨b1, o1, c1, hv1, hc1, hm1, hlb1, hcell⟩ := rwat_some (rwat_below hR.out HBW.out) (by omega)
        injection hv1 with hv1 _ hv1c
        subst hv1 hv1c
        unfold maxLen at hm1
        obtain ⟨x0, x1⟩ := hcell k hlt
        obtain ⟨z0, z1⟩ := WF3.out _ (List.getElem_mem hlt)
        have hsn := rwS_snoc rows k hlt
        clear hcell
        obtain ⟨a, ha⟩ : ∃ a, rows[k].1 = a := ⟨_, rfl⟩
        obtain ⟨b, hb⟩ : ∃ b, rows[k].2 = b := ⟨_, rfl⟩
        rw [ha, hb] at hsn
        rw [ha] at x0 z0
        rw [hb] at x1 z1
        unfold maxLen at z0 z1
        have HJ2 := hide (show (r - 1 - a.size - b.size) + 1 + ch.size + rwS (rows.take (k + 1)) = n by have := HJ.out; omega)
        have gl : decide ((k : Int) < (rows.length : Int)) = true := decide_eq_true (by omega)
        have gl' : decide (k < rows.length) = true := decide_eq_true hlt
        have e5 : IntKind.i64.wrap ((k : Int) + 1) = (k : Int) + 1 := by rw [IntKind.wrap_i64]; omega
        have i1 : (0 : Int) ≤ (k : Int) := by omega
        have i2 : (k : Int) < (rows.length : Int) := by omega
        clear ha hb hsn
        by_cases qa : r ≤ a.size
        · have ga : decide (r ≤ (a.size : Int)) = true := decide_eq_true qa
          clear HJ2 qa
          go_wp2
          go_ret
          exact ⟨-1, rfl, by omega, by omega, hide (fun h => by omega), HBL.out⟩
        have ga : decide (r ≤ (a.size : Int)) = false := decide_eq_false qa
        by_cases qb : r ≤ b.size
        · have gb : decide (r ≤ (b.size : Int)) = true := decide_eq_true qb
          clear HJ2 qa qb
          go_wp2
          go_ret
          exact ⟨-1, rfl, by omega, by omega, hide (fun h => by omega), HBL.out⟩
        have gb : decide (r ≤ (b.size : Int)) = false := decide_eq_false qb
        have e1 : IntKind.i64.wrap (r - 1) = r - 1 := by rw [IntKind.wrap_i64]; omega
        have e2 : IntKind.i64.wrap (r - 1 - (a.size : Int)) = r - 1 - a.size := by rw [IntKind.wrap_i64]; omega
        have e3 : IntKind.i64.wrap (r - 1 - (a.size : Int) - (b.size : Int)) = r - 1 - a.size - b.size := by rw [IntKind.wrap_i64]; omega
        have HBO := hide (show k + 1 ≤ rows.length ∧ -1000 ≤ r - 1 - (a.size : Int) - b.size ∧ r - 1 - (a.size : Int) - b.size ≤ n - 1 - ch.size by omega)
        clear qa qb
        go_wp2
        go_quiet (fail)
        have HB2 := hide (bl_drewN HBL.out nq)
        have G3' := hide (show (wr.drewN nq).cell? ⟨w.heap.size, 3, none⟩ = some (.slice (some ⟨b1, o1, none⟩) rows.length rc) from cell_later (bl_drewN (bl_refl wr) nq) c3)
        have G7' := hide (show (wr.drewN nq).cell? ⟨w.heap.size, 7, none⟩ = some (.slice A kids.length c) from cell_later (bl_drewN (bl_refl wr) nq) c7)
        clear x0 x1 c3 c7 e1 e2 e3 ga gb
        go_wp2
        refine ⟨?_, by first | (simp [intOf]; done) | (simp [intOf]; omega)⟩
        first
          | exact ⟨k + 1, _, by go_num, rfl, HBO.out.1, HBO.out.2.1, HBO.out.2.2, HJ2, HB2, G3', G7'⟩
          | ((repeat apply Exists.intro); exact ⟨⟨k + 1, _, by go_num, rfl, HBO.out.1, HBO.out.2.1, HBO.out.2.2, HJ2, HB2, G3', G7'⟩, rfl⟩)
      · obtain rfl : k = rows.length := by omega
        have gl : decide ((rows.length : Int) < (rows.length : Int)) = false := by simp
        have gl' : decide (rows.length < rows.length) = false := by simp
        have hj := HJ.out
        rw [List.take_length] at hj
        have HJR := hide hj
        have hr2 : r ≤ n := by omega
        clear hj hlt
        go_wp2
        go_loopw [1, 6] (fun m i wq => ∃ (k : Nat) (r2 : Int), i = .int .i64 k ∧ m = .int .i64 r2 ∧ k ≤ kids.length ∧ -1000 ≤ r2 ∧ r2 ≤ n ∧ Hid (0 ≤ r2 → r2 + 1 + ch.size + rwS rows + sL (kids.take k) ≤ n) ∧ Hid (Below w.heap.size w wq) ∧ Hid (wq.cell? ⟨w.heap.size, 7, none⟩ = some (.slice A kids.length c))) (fun _ i _ => kids.length - (intOf i).toNat)
        case atStart => exact ⟨0, r, rfl, rfl, Nat.zero_le _, hr0, hr2, hide (fun h => by have := HJR.out; simp [sL]; omega), HBL, G7⟩
        case round =>
          clear c3 c7 hr0 hr1 gl gl'
          obtain ⟨k, r2, rfl, rfl, hk2, hq0, hq1, HJ2, HBL2, G72⟩ := hrel
          have c7 := G72.out
          by_cases hneg : r2 < 0
          · have gn : decide ((0 : Int) ≤ r2) = false := decide_eq_false (by omega)
            rcases hgk : decide ((k : Int) < (kids.length : Int)) with _ | _
            all_goals
              have hgk' : decide (k < kids.length) = _ := (show decide (k < kids.length) = decide ((k : Int) < (kids.length : Int)) by apply decide_eq_decide.2; omega).trans hgk
              go_wp2
              go_ret
              exact ⟨r2, rfl, hq0, hq1, hide (fun h => by omega), HBL2.out⟩
          have gn : decide ((0 : Int) ≤ r2) = true := decide_eq_true (by omega)
          by_cases hlt : k < kids.length
          · have HBW := hide (bl_trans HB0.out HBL2.out)
            obtain ⟨b1, o1, c1, hv1, hc1, hm1, hlb1, hcell⟩ := ksat_8 (ksat_below hK.out HBW.out) (by omega)
            injection hv1 with hv1 _ hv1c
            subst hv1 hv1c
            unfold maxLen at hm1
            obtain ⟨x0, x1, x2, x3, x4, x5, x6, x7⟩ := hcell k hlt
            obtain ⟨h2, he⟩ := HIH2.out k hlt
            have HC := fun m h1 h3 W hb => HIH.out k h2 m h1 h3 W hb
            rw [he] at HC
            have hsn := sL_snoc kids k hlt
            clear hcell he h2
            obtain ⟨d, hd⟩ : ∃ d, kids[k] = d := ⟨_, rfl⟩
            rw [hd] at x0 x1 x2 x3 x4 x5 x6 x7 HC hsn
            unfold Rt.v Rt.cs GuPost at HC
            have HC2 := hide (HC r2 (by omega) (by omega))
            have gl : decide ((k : Int) < (kids.length : Int)) = true := decide_eq_true (by omega)
            have gl' : decide (k < kids.length) = true := decide_eq_true hlt
            have e5 : IntKind.i64.wrap ((k : Int) + 1) = (k : Int) + 1 := by rw [IntKind.wrap_i64]; omega
            have i1 : (0 : Int) ≤ (k : Int) := by omega
            have i2 : (k : Int) < (kids.length : Int) := by omega
            have HSN := hide hsn
            clear hd hsn HC
            go_wp2_with fail
            refine (HC2.out _ HBW.out).mono ?_
            rintro e w2 ⟨r3, rfl, hr30, hr31, hr32, hb2⟩
            have HB3 := hide (bl_trans HBL2.out hb2)
            have Z7 := hide (cell_later hb2 c7)
            have HJ3 := hide (show 0 ≤ r3 → r3 + 1 + ch.size + rwS rows + sL (kids.take (k + 1)) ≤ n from fun h => by
              have h1 := hr32.out h
              have h2 := HJ2.out (by omega)
              have h3 := HSN.out
              omega)
            have HBO := hide (show k + 1 ≤ kids.length ∧ -1000 ≤ r3 ∧ r3 ≤ n by omega)
            clear hb2 x0 x1 x2 x3 x4 x5 x6 x7 c7 hr32
            go_wp2
            refine ⟨?_, by first | (simp [intOf]; done) | (simp [intOf]; omega)⟩
            first
              | exact ⟨k + 1, r3, by go_num, rfl, HBO.out.1, HBO.out.2.1, HBO.out.2.2, HJ3, HB3, Z7⟩
              | ((repeat apply Exists.intro); exact ⟨⟨k + 1, r3, by go_num, rfl, HBO.out.1, HBO.out.2.1, HBO.out.2.2, HJ3, HB3, Z7⟩, rfl⟩)
          · obtain rfl : k = kids.length := by omega
            have gl : decide ((kids.length : Int) < (kids.length : Int)) = false := by simp
            have gl' : decide (kids.length < kids.length) = false := by simp
            have hj := HJ2.out
            rw [List.take_length] at hj
            have HE := hide (show 0 ≤ r2 → r2 + st ≤ n from fun h => by have := hj h; have := HM.out; omega)
            clear hj hlt hneg
            go_wp2
            go_ret
            exact ⟨r2, rfl, hq0, hq1, HE, HBL2.out⟩
end
section
open Go.ChangeShapes Go.WideShapes Go.ChangeAt Go.RowKit
open SetM
attribute [local go_sem ↓] Go.wp_at_zero Go.wp_at_succ
set_option maxRecDepth 100000
set_option linter.unusedVariables false
mutual
  def sameM : Rt → Rt → Bool
    | .mk k ch nt _ rows mi ma lz _ l, .mk k' ch' nt' _ rows' mi' ma' lz' _ l' => decide (k = k') && decide (ch = ch') && decide (nt = nt') && decide (mi = mi') && decide (ma = ma') && decide (lz = lz') && decide (rows = rows') && sameL l l'
  def sameL : List Rt → List Rt → Bool
    | [], [] => true
    | a :: l, b :: m => sameM a b && sameL l m
    | [], _ :: _ => false
    | _ :: _, [] => false
end
theorem sameM_eq (a b : Rt) : sameM a b = (decide (a.k = b.k) && decide (a.ch = b.ch) && decide (a.nt = b.nt) && decide (a.mi = b.mi) && decide (a.ma = b.ma) && decide (a.lz = b.lz) && decide (a.rows = b.rows) && sameL a.kids b.kids) := by
  cases a; cases b; rw [sameM]; rfl
mutual
  theorem sameM_refl : ∀ t, sameM t t = true
    | .mk k ch nt _ rows mi ma lz _ l => by rw [sameM, sameL_refl l]; simp
  theorem sameL_refl : ∀ l, sameL l l = true
    | [] => by rw [sameL]
    | t :: l => by rw [sameL, sameM_refl t, sameL_refl l]; rfl
end
mutual
  theorem sameM_symm : ∀ a b, sameM a b = sameM b a
    | .mk k ch nt _ rows mi ma lz _ l, .mk k' ch' nt' _ rows' mi' ma' lz' _ l' => by
      rw [sameM, sameM, sameL_symm l l']
      simp only [eq_comm]
  theorem sameL_symm : ∀ l m, sameL l m = sameL m l
    | [], [] => rfl
    | a :: l, b :: m => by rw [sameL, sameL, sameM_symm a b, sameL_symm l m]
    | [], _ :: _ => by rw [sameL, sameL]
    | _ :: _, [] => by rw [sameL, sameL]
end
theorem sameL_len : ∀ l m, sameL l m = true → l.length = m.length
  | [], [], _ => rfl
  | a :: l, b :: m, h => by
    rw [sameL] at h
    simp only [Bool.and_eq_true] at h
    simp [sameL_len l m h.2]
  | [], _ :: _, h => by rw [sameL] at h; cases h
  | _ :: _, [], h => by rw [sameL] at h; cases h
theorem sameL_at : ∀ (l m : List Rt) (i : Nat) (h : i < l.length) (g : i < m.length), sameL l m = true → sameM l[i] m[i] = true
  | a :: l, b :: m, 0, _, _, e => by
    rw [sameL] at e
    simp only [Bool.and_eq_true] at e
    exact e.1
  | a :: l, b :: m, i + 1, h, g, e => by
    rw [sameL] at e
    simp only [Bool.and_eq_true] at e
    simp only [List.getElem_cons_succ]
    exact sameL_at l m i _ _ e.2
theorem sameL_app : ∀ (l m l2 m2 : List Rt), l.length = m.length → sameL (l ++ l2) (m ++ m2) = (sameL l m && sameL l2 m2)
  | [], [], _, _, _ => by simp [sameL]
  | a :: l, b :: m, l2, m2, h => by
    simp only [List.cons_append, sameL]
    rw [sameL_app l m l2 m2 (by simpa using h), Bool.and_assoc]
  | [], _ :: _, _, _, h => by simp at h
  | _ :: _, [], _, _, h => by simp at h
theorem sameL_succ (l m : List Rt) (k : Nat) (h : k < l.length) (g : k < m.length) (e : sameL (l.take k) (m.take k) = true) (e2 : sameM l[k] m[k] = true) : sameL (l.take (k + 1)) (m.take (k + 1)) = true := by
  rw [List.take_succ_eq_append_getElem h, List.take_succ_eq_append_getElem g, sameL_app _ _ _ _ (by simp; omega), e]
  simp [sameL, e2]
theorem tl_iff (a b : ByteArray) : a.toList = b.toList ↔ a = b := by
  rw [Go.ByteArray.toList_eq, Go.ByteArray.toList_eq]; exact ⟨fun h => by cases a; cases b; simp at h; rw [h], fun h => by rw [h]⟩
theorem neq_rw (a b : Rw) (w : World) : (binOp .neq 42 (.agg #[.string a.1, .string a.2]) (.agg #[.string b.1, .string b.2])).run Tryz.prog w = .ok (.bool (!decide (a = b))) w := by
  obtain ⟨a1, a2⟩ := a
  obtain ⟨b1, b2⟩ := b
  show (binOp .neq 42 (.agg #[.string a1, .string a2]) (.agg #[.string b1, .string b2])).run Tryz.prog w = .ok (.bool (!decide ((a1, a2) = (b1, b2)))) w
  go_simp
  by_cases h1 : a1 = b1 <;> by_cases h2 : a2 = b2 <;> simp [h1, h2, tl_iff]
theorem eqgn_rw (x y : Operand) (a b : Rw) (w : World) : (eqGuard .neq 42 x y (.agg #[.string a.1, .string a.2]) (.agg #[.string b.1, .string b.2])).run Tryz.prog w = .ok () w :=
  run_eqGuard_agg _ _ _ _ _ _ _ (by kernel_rfl)
theorem take_eq_succ {α : Type} (l m : List α) (k : Nat) (h : k < l.length) (g : k < m.length) (e : l.take k = m.take k) (e2 : l[k] = m[k]) : l.take (k + 1) = m.take (k + 1) := by
  rw [List.take_succ_eq_append_getElem h, List.take_succ_eq_append_getElem g, e, e2]
attribute [local go_sem] eqgn_rw
attribute [local go_sem ↓] neq_rw
set_option maxHeartbeats 1000000 in
theorem eqrows_any (v u : Value) (l k : List Rw) (w : World) (h : RwAt w v l) (g : RwAt w u k) :
    Calls Tryz.prog 37 #[v, u] w fun e w' => e = .returned (.bool (decide (l = k))) ∧ Below w.heap.size w w' := by
  obtain ⟨a, c, rfl⟩ := rwat_len h
  obtain ⟨b, d, rfl⟩ := rwat_len g
  by_cases hlen : l.length = k.length
  · have e1 : ((l.length : Int) != (k.length : Int)) = false := by simp [hlen]
    by_cases hp : 0 < l.length
    · obtain ⟨b1, o1, c1, hv1, hc1, hm1, _, hcell1⟩ := rwat_some h hp
      obtain ⟨b2, o2, c2, hv2, hc2, hm2, _, hcell2⟩ := rwat_some g (by omega)
      injection hv1 with hv1 _ hv1c
      injection hv2 with hv2 _ hv2c
      subst hv1 hv2 hv1c hv2c
      unfold maxLen at hm1 hm2
      clear h g hp
      obtain ⟨r, hr⟩ : ∃ r, decide (l = k) = r := ⟨_, rfl⟩
      rw [hr]
      have HRR := hide hr.symm
      clear hr
      have HL := hide hlen
      have hlen' : l.length ≤ k.length := by omega
      clear hlen
      go_enter Tryz.func37, Tryz.ntmps37
      go_wp2
      go_loopw [13] (fun i wr => ∃ j : Nat, j ≤ l.length ∧ i = .int .i64 j ∧ Hid (l.take j = k.take j) ∧ ∃ n, w.drewN n = wr)
        (fun i _ => l.length - (intOf i).toNat)
      case atStart => exact ⟨0, Nat.zero_le _, rfl, hide rfl, 0, rfl⟩
      case round =>
        obtain ⟨j, hj, rfl, HT, n, rfl⟩ := hrel
        by_cases hlt : j < l.length
        · have x1 := hcell1 j hlt
          have x2 := hcell2 j (by omega)
          obtain ⟨x11, x12⟩ := x1
          obtain ⟨x21, x22⟩ := x2
          by_cases he : l[j] = k[j]
          · have hd : (!decide (l[j] = k[j])) = false := by simp [he]
            have HT2 := hide (take_eq_succ l k j hlt (by omega) HT.out he)
            clear he HT
            go_wp2
            go_quiet (fail)
            go_wp2
            refine ⟨?_, by first | (simp [intOf]; done) | (simp [intOf]; omega)⟩
            first
              | exact ⟨j + 1, by omega, by go_num, HT2, _, by first | rfl | trivial⟩
              | ((repeat apply Exists.intro); exact ⟨⟨j + 1, by omega, by go_num, HT2, _, by first | rfl | trivial⟩, rfl⟩)
          · have hd : (!decide (l[j] = k[j])) = true := by simp [he]
            have hne : decide (l = k) = false := by
              simp only [decide_eq_false_iff_not]
              intro h; subst h; exact he rfl
            have HNE := hide (HRR.out.trans hne)
            clear he HT hne
            go_wp2
            go_quiet (fail)
            go_wp2
            go_ret
            exact ⟨ret_bool HNE.out.symm, bl_drewN (bl_drewN (bl_refl w) _) _⟩
        · obtain rfl : j = l.length := by omega
          have he : l = k := by
            have h1 := HT.out
            rw [List.take_of_length_le (by omega), List.take_of_length_le (by have := HL.out; omega)] at h1
            exact h1
          have hne : decide (l = k) = true := by simp [he]
          have HNE := hide (HRR.out.trans hne)
          clear HT he hne hcell1 hcell2
          go_wp2
          go_ret
          exact ⟨ret_bool HNE.out.symm, bl_drewN (bl_refl w) _⟩
    · have h1 : l = [] := List.eq_nil_of_length_eq_zero (by omega)
      have h2 : k = [] := List.eq_nil_of_length_eq_zero (by omega)
      subst h1 h2
      clear h g
      simp only [List.length_nil] at *
      go_enter Tryz.func37, Tryz.ntmps37
      go_wp2
      go_loopw [13] (fun i wr => i = .int .i64 (0 : Int) ∧ w = wr) (fun i _ => 0)
      case atStart => exact ⟨rfl, rfl⟩
      case round =>
        obtain ⟨rfl, rfl⟩ := hrel
        go_wp2
        go_ret
        exact ⟨rfl, bl_refl w⟩
  · have e1 : ((l.length : Int) != (k.length : Int)) = true := by simp; omega
    have hne : decide (l = k) = false := by
      simp only [decide_eq_false_iff_not]
      intro h; subst h; exact hlen rfl
    rw [hne]
    clear h g hne
    go_enter Tryz.func37, Tryz.ntmps37
    go_wp2
    go_ret
    exact ⟨rfl, bl_refl w⟩
end
section
open Go.ChangeShapes Go.WideShapes Go.ChangeAt Go.RowKit
open SetM
attribute [local go_sem ↓] Go.wp_at_zero Go.wp_at_succ
set_option maxRecDepth 100000
set_option linter.unusedVariables false
def SmPost (b : Bool) (w : World) : Ending → World → Prop := fun e w' => e = .returned (.bool b) ∧ Below w.heap.size w w'
set_option maxHeartbeats 4000000 in
theorem eqfunc_any (v u : Value) (l m : List Rt) (w0 : World) (h : KsAt w0 v l) (g : KsAt w0 u m) (hx : ∀ i (hi : i < l.length), RxAt w0 l[i]) (gx : ∀ i (hi : i < m.length), RxAt w0 m[i])
    (HF : ∀ i (hi : i < l.length) (gi : i < m.length) W, Below w0.heap.size w0 W → Calls Tryz.prog 23 #[l[i].v, m[i].v] W (SmPost (sameM l[i] m[i]) W)) (w : World) (hb0 : Below w0.heap.size w0 w) :
    Calls Tryz.prog 38 #[v, u, .func (.func 23) #[] #[]] w (SmPost (sameL l m) w) := by
  unfold SmPost at *
  obtain ⟨a, c, rfl⟩ := ksat_len h
  obtain ⟨b, d, rfl⟩ := ksat_len g
  obtain ⟨r, hr⟩ : ∃ r, sameL l m = r := ⟨_, rfl⟩
  have HRR := hide hr
  rw [hr]
  clear hr
  by_cases hlen : l.length = m.length
  · have e1 : ((l.length : Int) != (m.length : Int)) = false := by simp [hlen]
    have HL := hide hlen
    have HK := hide h
    have GK := hide g
    have HX := hide hx
    have GX := hide gx
    have HF2 := hide HF
    have HB0 := hide hb0
    have hlen' : l.length ≤ m.length := by omega
    clear h g hx gx HF hb0 hlen
    go_enter Tryz.func38, Tryz.ntmps38
    go_wp2
    go_loopw [17] (fun i wr => ∃ j : Nat, j ≤ l.length ∧ i = .int .i64 j ∧ Hid (sameL (l.take j) (m.take j) = true) ∧ Hid (Below w.heap.size w wr))
      (fun i _ => l.length - (intOf i).toNat)
    case atStart => exact ⟨0, Nat.zero_le _, rfl, hide (by simp [sameL]), hide (bl_refl w)⟩
    case round =>
      obtain ⟨j, hj, rfl, HT, HBL⟩ := hrel
      by_cases hlt : j < l.length
      · have HBW := hide (bl_trans HB0.out HBL.out)
        obtain ⟨b1, o1, c1, hv1, hc1, hm1, hlb1, hcell1⟩ := ksat_8 (ksat_below HK.out HBW.out) (by omega)
        obtain ⟨b2, o2, c2, hv2, hc2, hm2, hlb2, hcell2⟩ := ksat_8 (ksat_below GK.out HBW.out) (by omega)
        injection hv1 with hv1 _ hv1c
        injection hv2 with hv2 _ hv2c
        subst hv1 hv1c hv2 hv2c
        unfold maxLen at hm1 hm2
        have hlt2 : j < m.length := by omega
        obtain ⟨x0, x1, x2, x3, x4, x5, x6, x7⟩ := hcell1 j hlt
        obtain ⟨y0, y1, y2, y3, y4, y5, y6, y7⟩ := hcell2 j hlt2
        have HC := fun W hb => HF2.out j hlt hlt2 W hb
        have hrx := HX.out j hlt
        have grx := GX.out j hlt2
        have HS := hide (fun e => sameL_succ l m j hlt hlt2 HT.out e)
        have HN := hide (fun e => sameL_at l m j hlt hlt2 e)
        clear hcell1 hcell2
        obtain ⟨p, hp⟩ : ∃ p, l[j] = p := ⟨_, rfl⟩
        obtain ⟨q, hq⟩ : ∃ q, m[j] = q := ⟨_, rfl⟩
        rw [hp] at x0 x1 x2 x3 x4 x5 x6 x7 HC hrx HS HN
        rw [hq] at y0 y1 y2 y3 y4 y5 y6 y7 HC grx HS HN
        obtain ⟨rA, rc, hrv⟩ := rwat_len hrx.rows
        obtain ⟨kA, kc, hkv⟩ := ksat_len hrx.ks
        obtain ⟨rA', rc', hrv'⟩ := rwat_len grx.rows
        obtain ⟨kA', kc', hkv'⟩ := ksat_len grx.ks
        rw [hrv] at x3
        rw [hkv] at x7
        rw [hrv'] at y3
        rw [hkv'] at y7
        unfold Rt.v Rt.cs at HC
        rw [hrv, hkv, hrv', hkv'] at HC
        have HC2 := hide HC
        have i1 : (0 : Int) ≤ (j : Int) := by omega
        have i2 : (j : Int) < (l.length : Int) := by omega
        have i3 : (j : Int) < (m.length : Int) := by omega
        have gl : decide ((j : Int) < (l.length : Int)) = true := decide_eq_true i2
        have gl' : decide (j < l.length) = true := decide_eq_true hlt
        have e5 : IntKind.i64.wrap ((j : Int) + 1) = (j : Int) + 1 := by rw [IntKind.wrap_i64]; omega
        obtain ⟨s, hs⟩ : ∃ s, sameM p q = s := ⟨_, rfl⟩
        rw [hs] at HC2 HS HN
        clear hp hq hrx grx hrv hkv hrv' hkv' HC HT hs
        have hba1 := bl_alloc (bl_refl wr) (.cells #[.int .i64 p.k, .string p.ch, .bool p.nt, .slice rA p.rows.length rc, .int .i64 p.mi, .int .i64 p.ma, .bool p.lz, .slice kA p.kids.length kc] 25)
        have hba2 := bl_alloc hba1 (.cells #[.int .i64 q.k, .string q.ch, .bool q.nt, .slice rA' q.rows.length rc', .int .i64 q.mi, .int .i64 q.ma, .bool q.lz, .slice kA' q.kids.length kc'] 25)
        have HBC := hide (bl_trans HBL.out hba2)
        have HBD := hide (bl_trans HB0.out HBC.out)
        clear hba1 hba2
        cases s with
        | true =>
          have HS2 := hide (HS.out rfl)
          clear HS HN
          go_wp2_with fail
          refine (HC2.out _ HBD.out).mono ?_
          rintro e w2 ⟨rfl, hb2⟩
          have HB3 := hide (bl_trans HBC.out hb2)
          clear hb2 x0 x1 x2 x3 x4 x5 x6 x7 y0 y1 y2 y3 y4 y5 y6 y7
          go_wp2
          refine ⟨?_, by first | (simp [intOf]; done) | (simp [intOf]; omega)⟩
          first
            | exact ⟨j + 1, by omega, by go_num, HS2, HB3⟩
            | ((repeat apply Exists.intro); exact ⟨⟨j + 1, by omega, by go_num, HS2, HB3⟩, rfl⟩)
        | false =>
          have HN2 := hide (show r = false by
            cases r with
            | true => exact (HN.out HRR.out).symm
            | false => rfl)
          clear HS HN
          go_wp2_with fail
          refine (HC2.out _ HBD.out).mono ?_
          rintro e w2 ⟨rfl, hb2⟩
          have HB3 := hide (bl_trans HBC.out hb2)
          clear hb2 x0 x1 x2 x3 x4 x5 x6 x7 y0 y1 y2 y3 y4 y5 y6 y7
          go_wp2
          go_ret
          exact ⟨ret_bool HN2.out.symm, HB3.out⟩
      · obtain rfl : j = l.length := by omega
        have hj := HT.out
        rw [List.take_length, HL.out, List.take_length] at hj
        have HE := hide (show r = true by rw [← HRR.out]; exact hj)
        have gl : decide ((l.length : Int) < (l.length : Int)) = false := by simp
        have gl' : decide (l.length < l.length) = false := by simp
        clear hj hlt HT
        go_wp2
        go_ret
        exact ⟨ret_bool HE.out.symm, HBL.out⟩
  · have e1 : ((l.length : Int) != (m.length : Int)) = true := by simp; omega
    have hne : r = false := by
      cases r with
      | true => exact absurd (sameL_len _ _ HRR.out) hlen
      | false => rfl
    subst hne
    clear h g hx gx HF hb0 HRR
    go_enter Tryz.func38, Tryz.ntmps38
    go_wp2
    go_ret
    exact ⟨rfl, bl_refl w⟩
end
section
open Go.ChangeShapes Go.WideShapes Go.ChangeAt Go.RowKit
open SetM
attribute [local go_sem ↓] Go.wp_at_zero Go.wp_at_succ
set_option maxRecDepth 100000
set_option linter.unusedVariables false
set_option linter.unusedSimpArgs false
theorem tleq (a b : ByteArray) (r : Bool) (h : decide (a = b) = r) : (a.toList == b.toList) = r := by
  rw [← h]; by_cases e : a = b <;> simp [e, tl_iff]
theorem bleq (a b : Bool) (r : Bool) (h : decide (a = b) = r) : (a == b) = r := by
  rw [← h]; cases a <;> cases b <;> rfl
theorem ileq (a b : Int) (r : Bool) (h : decide (a = b) = r) : (a == b) = r := by
  rw [← h]; by_cases e : a = b <;> simp [e]
theorem cells_lit2 (w0 : World) (arr : Array Value) (e : TypeId) (j : Nat) (u : Value) (hu : arr.toList[j]? = some u) {n : Nat} (hn : w0.heap.size = n) : (w0.alloc (.cells arr e)).cell? ((⟨n, 0, none⟩ : Addr).add j) = some u := by
  subst hn; exact cells_lit w0 arr e j u hu
set_option maxHeartbeats 4000000 in
theorem samerx_any {w0 : World} {t : Rt} (h : RxAt w0 t) : ∀ u, RxAt w0 u → ∀ w, Below w0.heap.size w0 w → Calls Tryz.prog 23 #[t.v, u.v] w (SmPost (sameM t u) w) := by
  induction h with
  | mk t hr hk hs ih =>
    intro u hu w hb0
    have hM := sameM_eq t u
    have HRC := hide (fun W (hb : Below w0.heap.size w0 W) => eqrows_any _ _ _ _ W (rwat_below hr hb) (rwat_below hu.rows hb))
    have HKC := hide (fun W (hb : Below w0.heap.size w0 W) => eqfunc_any _ _ _ _ w0 hk hu.ks hs (fun i hi => hu.kid i hi) (fun i hi gi W2 hb2 => ih i hi _ (hu.kid i gi) W2 hb2) W hb)
    have HB0 := hide hb0
    obtain ⟨A, c, hkv⟩ := ksat_len hk
    obtain ⟨RA, rc, hrv⟩ := rwat_len hr
    obtain ⟨B, d, hkv2⟩ := ksat_len hu.ks
    obtain ⟨RB, rd, hrv2⟩ := rwat_len hu.rows
    unfold Rt.v Rt.cs SmPost at *
    rw [hkv, hkv2] at HKC
    rw [hrv, hrv2] at HRC
    rw [hkv, hrv, hkv2, hrv2]
    obtain ⟨r, hrr⟩ : ∃ r, sameM t u = r := ⟨_, rfl⟩
    rw [hrr] at hM ⊢
    clear hr hk hs ih hu hb0 hkv hrv hkv2 hrv2
    generalize t.k = k at *
    generalize t.ch = ch at *
    generalize t.nt = nt at *
    generalize t.mi = mi at *
    generalize t.ma = ma at *
    generalize t.lz = lz at *
    generalize u.k = k' at *
    generalize u.ch = ch' at *
    generalize u.nt = nt' at *
    generalize u.mi = mi' at *
    generalize u.ma = ma' at *
    generalize u.lz = lz' at *
    obtain ⟨qr, hqr⟩ : ∃ q, decide (t.rows = u.rows) = q := ⟨_, rfl⟩
    rw [hqr] at hM HRC
    obtain ⟨qk, hqk⟩ : ∃ q, sameL t.kids u.kids = q := ⟨_, rfl⟩
    rw [hqk] at hM HKC
    generalize t.rows.length = rl at *
    generalize u.rows.length = ul at *
    generalize t.kids.length = kl at *
    generalize u.kids.length = vl at *
    clear hrr hqr hqk
    have hba := bl_alloc (bl_alloc (bl_refl w) (.cells #[.int .i64 k, .string ch, .bool nt, .slice RA rl rc, .int .i64 mi, .int .i64 ma, .bool lz, .slice A kl c] 25)) (.cells #[.int .i64 k', .string ch', .bool nt', .slice RB ul rd, .int .i64 mi', .int .i64 ma', .bool lz', .slice B vl d] 25)
    have HBA := hide hba
    have HBD := hide (bl_trans HB0.out hba)
    clear hba
    have f0 : ((w.alloc (.cells #[.int .i64 k, .string ch, .bool nt, .slice RA rl rc, .int .i64 mi, .int .i64 ma, .bool lz, .slice A kl c] 25)).alloc (.cells #[.int .i64 k', .string ch', .bool nt', .slice RB ul rd, .int .i64 mi', .int .i64 ma', .bool lz', .slice B vl d] 25)).cell? ⟨w.heap.size, 0, none⟩ = some (.int .i64 k) := cell_later (bl_alloc (bl_refl _) _) (cells_lit w _ _ 0 _ rfl)
    have g0 : ((w.alloc (.cells #[.int .i64 k, .string ch, .bool nt, .slice RA rl rc, .int .i64 mi, .int .i64 ma, .bool lz, .slice A kl c] 25)).alloc (.cells #[.int .i64 k', .string ch', .bool nt', .slice RB ul rd, .int .i64 mi', .int .i64 ma', .bool lz', .slice B vl d] 25)).cell? ⟨w.heap.size + 1, 0, none⟩ = some (.int .i64 k') := cells_lit2 (w.alloc (.cells #[.int .i64 k, .string ch, .bool nt, .slice RA rl rc, .int .i64 mi, .int .i64 ma, .bool lz, .slice A kl c] 25)) _ _ 0 _ rfl (by simp)
    have f1 : ((w.alloc (.cells #[.int .i64 k, .string ch, .bool nt, .slice RA rl rc, .int .i64 mi, .int .i64 ma, .bool lz, .slice A kl c] 25)).alloc (.cells #[.int .i64 k', .string ch', .bool nt', .slice RB ul rd, .int .i64 mi', .int .i64 ma', .bool lz', .slice B vl d] 25)).cell? ⟨w.heap.size, 1, none⟩ = some (.string ch) := cell_later (bl_alloc (bl_refl _) _) (cells_lit w _ _ 1 _ rfl)
    have g1 : ((w.alloc (.cells #[.int .i64 k, .string ch, .bool nt, .slice RA rl rc, .int .i64 mi, .int .i64 ma, .bool lz, .slice A kl c] 25)).alloc (.cells #[.int .i64 k', .string ch', .bool nt', .slice RB ul rd, .int .i64 mi', .int .i64 ma', .bool lz', .slice B vl d] 25)).cell? ⟨w.heap.size + 1, 1, none⟩ = some (.string ch') := cells_lit2 (w.alloc (.cells #[.int .i64 k, .string ch, .bool nt, .slice RA rl rc, .int .i64 mi, .int .i64 ma, .bool lz, .slice A kl c] 25)) _ _ 1 _ rfl (by simp)
    have f2 : ((w.alloc (.cells #[.int .i64 k, .string ch, .bool nt, .slice RA rl rc, .int .i64 mi, .int .i64 ma, .bool lz, .slice A kl c] 25)).alloc (.cells #[.int .i64 k', .string ch', .bool nt', .slice RB ul rd, .int .i64 mi', .int .i64 ma', .bool lz', .slice B vl d] 25)).cell? ⟨w.heap.size, 2, none⟩ = some (.bool nt) := cell_later (bl_alloc (bl_refl _) _) (cells_lit w _ _ 2 _ rfl)
    have g2 : ((w.alloc (.cells #[.int .i64 k, .string ch, .bool nt, .slice RA rl rc, .int .i64 mi, .int .i64 ma, .bool lz, .slice A kl c] 25)).alloc (.cells #[.int .i64 k', .string ch', .bool nt', .slice RB ul rd, .int .i64 mi', .int .i64 ma', .bool lz', .slice B vl d] 25)).cell? ⟨w.heap.size + 1, 2, none⟩ = some (.bool nt') := cells_lit2 (w.alloc (.cells #[.int .i64 k, .string ch, .bool nt, .slice RA rl rc, .int .i64 mi, .int .i64 ma, .bool lz, .slice A kl c] 25)) _ _ 2 _ rfl (by simp)
    have f3 : ((w.alloc (.cells #[.int .i64 k, .string ch, .bool nt, .slice RA rl rc, .int .i64 mi, .int .i64 ma, .bool lz, .slice A kl c] 25)).alloc (.cells #[.int .i64 k', .string ch', .bool nt', .slice RB ul rd, .int .i64 mi', .int .i64 ma', .bool lz', .slice B vl d] 25)).cell? ⟨w.heap.size, 3, none⟩ = some (.slice RA rl rc) := cell_later (bl_alloc (bl_refl _) _) (cells_lit w _ _ 3 _ rfl)
    have g3 : ((w.alloc (.cells #[.int .i64 k, .string ch, .bool nt, .slice RA rl rc, .int .i64 mi, .int .i64 ma, .bool lz, .slice A kl c] 25)).alloc (.cells #[.int .i64 k', .string ch', .bool nt', .slice RB ul rd, .int .i64 mi', .int .i64 ma', .bool lz', .slice B vl d] 25)).cell? ⟨w.heap.size + 1, 3, none⟩ = some (.slice RB ul rd) := cells_lit2 (w.alloc (.cells #[.int .i64 k, .string ch, .bool nt, .slice RA rl rc, .int .i64 mi, .int .i64 ma, .bool lz, .slice A kl c] 25)) _ _ 3 _ rfl (by simp)
    have f4 : ((w.alloc (.cells #[.int .i64 k, .string ch, .bool nt, .slice RA rl rc, .int .i64 mi, .int .i64 ma, .bool lz, .slice A kl c] 25)).alloc (.cells #[.int .i64 k', .string ch', .bool nt', .slice RB ul rd, .int .i64 mi', .int .i64 ma', .bool lz', .slice B vl d] 25)).cell? ⟨w.heap.size, 4, none⟩ = some (.int .i64 mi) := cell_later (bl_alloc (bl_refl _) _) (cells_lit w _ _ 4 _ rfl)
    have g4 : ((w.alloc (.cells #[.int .i64 k, .string ch, .bool nt, .slice RA rl rc, .int .i64 mi, .int .i64 ma, .bool lz, .slice A kl c] 25)).alloc (.cells #[.int .i64 k', .string ch', .bool nt', .slice RB ul rd, .int .i64 mi', .int .i64 ma', .bool lz', .slice B vl d] 25)).cell? ⟨w.heap.size + 1, 4, none⟩ = some (.int .i64 mi') := cells_lit2 (w.alloc (.cells #[.int .i64 k, .string ch, .bool nt, .slice RA rl rc, .int .i64 mi, .int .i64 ma, .bool lz, .slice A kl c] 25)) _ _ 4 _ rfl (by simp)
    have f5 : ((w.alloc (.cells #[.int .i64 k, .string ch, .bool nt, .slice RA rl rc, .int .i64 mi, .int .i64 ma, .bool lz, .slice A kl c] 25)).alloc (.cells #[.int .i64 k', .string ch', .bool nt', .slice RB ul rd, .int .i64 mi', .int .i64 ma', .bool lz', .slice B vl d] 25)).cell? ⟨w.heap.size, 5, none⟩ = some (.int .i64 ma) := cell_later (bl_alloc (bl_refl _) _) (cells_lit w _ _ 5 _ rfl)
    have g5 : ((w.alloc (.cells #[.int .i64 k, .string ch, .bool nt, .slice RA rl rc, .int .i64 mi, .int .i64 ma, .bool lz, .slice A kl c] 25)).alloc (.cells #[.int .i64 k', .string ch', .bool nt', .slice RB ul rd, .int .i64 mi', .int .i64 ma', .bool lz', .slice B vl d] 25)).cell? ⟨w.heap.size + 1, 5, none⟩ = some (.int .i64 ma') := cells_lit2 (w.alloc (.cells #[.int .i64 k, .string ch, .bool nt, .slice RA rl rc, .int .i64 mi, .int .i64 ma, .bool lz, .slice A kl c] 25)) _ _ 5 _ rfl (by simp)
    have f6 : ((w.alloc (.cells #[.int .i64 k, .string ch, .bool nt, .slice RA rl rc, .int .i64 mi, .int .i64 ma, .bool lz, .slice A kl c] 25)).alloc (.cells #[.int .i64 k', .string ch', .bool nt', .slice RB ul rd, .int .i64 mi', .int .i64 ma', .bool lz', .slice B vl d] 25)).cell? ⟨w.heap.size, 6, none⟩ = some (.bool lz) := cell_later (bl_alloc (bl_refl _) _) (cells_lit w _ _ 6 _ rfl)
    have g6 : ((w.alloc (.cells #[.int .i64 k, .string ch, .bool nt, .slice RA rl rc, .int .i64 mi, .int .i64 ma, .bool lz, .slice A kl c] 25)).alloc (.cells #[.int .i64 k', .string ch', .bool nt', .slice RB ul rd, .int .i64 mi', .int .i64 ma', .bool lz', .slice B vl d] 25)).cell? ⟨w.heap.size + 1, 6, none⟩ = some (.bool lz') := cells_lit2 (w.alloc (.cells #[.int .i64 k, .string ch, .bool nt, .slice RA rl rc, .int .i64 mi, .int .i64 ma, .bool lz, .slice A kl c] 25)) _ _ 6 _ rfl (by simp)
    have f7 : ((w.alloc (.cells #[.int .i64 k, .string ch, .bool nt, .slice RA rl rc, .int .i64 mi, .int .i64 ma, .bool lz, .slice A kl c] 25)).alloc (.cells #[.int .i64 k', .string ch', .bool nt', .slice RB ul rd, .int .i64 mi', .int .i64 ma', .bool lz', .slice B vl d] 25)).cell? ⟨w.heap.size, 7, none⟩ = some (.slice A kl c) := cell_later (bl_alloc (bl_refl _) _) (cells_lit w _ _ 7 _ rfl)
    have g7 : ((w.alloc (.cells #[.int .i64 k, .string ch, .bool nt, .slice RA rl rc, .int .i64 mi, .int .i64 ma, .bool lz, .slice A kl c] 25)).alloc (.cells #[.int .i64 k', .string ch', .bool nt', .slice RB ul rd, .int .i64 mi', .int .i64 ma', .bool lz', .slice B vl d] 25)).cell? ⟨w.heap.size + 1, 7, none⟩ = some (.slice B vl d) := cells_lit2 (w.alloc (.cells #[.int .i64 k, .string ch, .bool nt, .slice RA rl rc, .int .i64 mi, .int .i64 ma, .bool lz, .slice A kl c] 25)) _ _ 7 _ rfl (by simp)
    have F7 := hide f7
    have G7 := hide g7
    rcases h0 : decide (k = k') with _ | _
    · have z0 := ileq _ _ _ h0
      obtain rfl : r = false := by rw [hM]; simp only [h0, Bool.false_and, Bool.and_false]
      clear hM h0
      go_enter Tryz.func23, Tryz.ntmps23
      go_wp2
      go_ret
      exact ⟨rfl, HBA.out⟩
    have z0 := ileq _ _ _ h0
    rcases h1 : decide (ch = ch') with _ | _
    · have z1 := tleq _ _ _ h1
      obtain rfl : r = false := by rw [hM]; simp only [h1, Bool.false_and, Bool.and_false]
      clear hM h0 h1
      go_enter Tryz.func23, Tryz.ntmps23
      go_wp2
      go_ret
      exact ⟨rfl, HBA.out⟩
    have z1 := tleq _ _ _ h1
    rcases h2 : decide (nt = nt') with _ | _
    · have z2 := bleq _ _ _ h2
      obtain rfl : r = false := by rw [hM]; simp only [h2, Bool.false_and, Bool.and_false]
      clear hM h0 h1 h2
      go_enter Tryz.func23, Tryz.ntmps23
      go_wp2
      go_ret
      exact ⟨rfl, HBA.out⟩
    have z2 := bleq _ _ _ h2
    rcases h3 : decide (mi = mi') with _ | _
    · have z3 := ileq _ _ _ h3
      obtain rfl : r = false := by rw [hM]; simp only [h3, Bool.false_and, Bool.and_false]
      clear hM h0 h1 h2 h3
      go_enter Tryz.func23, Tryz.ntmps23
      go_wp2
      go_ret
      exact ⟨rfl, HBA.out⟩
    have z3 := ileq _ _ _ h3
    rcases h4 : decide (ma = ma') with _ | _
    · have z4 := ileq _ _ _ h4
      obtain rfl : r = false := by rw [hM]; simp only [h4, Bool.false_and, Bool.and_false]
      clear hM h0 h1 h2 h3 h4
      go_enter Tryz.func23, Tryz.ntmps23
      go_wp2
      go_ret
      exact ⟨rfl, HBA.out⟩
    have z4 := ileq _ _ _ h4
    rcases h5 : decide (lz = lz') with _ | _
    · have z5 := bleq _ _ _ h5
      obtain rfl : r = false := by rw [hM]; simp only [h5, Bool.false_and, Bool.and_false]
      clear hM h0 h1 h2 h3 h4 h5
      go_enter Tryz.func23, Tryz.ntmps23
      go_wp2
      go_ret
      exact ⟨rfl, HBA.out⟩
    have z5 := bleq _ _ _ h5
    have HE := hide (show r = (qr && qk) by rw [hM]; simp only [h0, h1, h2, h3, h4, h5, Bool.true_and])
    clear hM h0 h1 h2 h3 h4 h5
    rcases qr with _ | _
    · go_enter Tryz.func23, Tryz.ntmps23
      go_wp2_with fail
      refine (HRC.out _ HBD.out).mono ?_
      rintro e w2 ⟨rfl, hb2⟩
      have HB3 := hide (bl_trans HBA.out hb2)
      have y7 := cell_later hb2 F7.out
      have x7 := cell_later hb2 G7.out
      clear hb2 f0 g0 f1 g1 f2 g2 f3 g3 f4 g4 f5 g5 f6 g6 f7 g7
      go_wp2
      go_ret
      exact ⟨ret_bool (by rw [HE.out]; rfl), HB3.out⟩
    · go_enter Tryz.func23, Tryz.ntmps23
      go_wp2_with fail
      refine (HRC.out _ HBD.out).mono ?_
      rintro e w2 ⟨rfl, hb2⟩
      have HB3 := hide (bl_trans HBA.out hb2)
      have y7 := cell_later hb2 F7.out
      have x7 := cell_later hb2 G7.out
      clear hb2 f0 g0 f1 g1 f2 g2 f3 g3 f4 g4 f5 g5 f6 g6 f7 g7
      have HB4 := hide (bl_trans HB0.out HB3.out)
      go_wp2_with fail
      refine (HKC.out _ HB4.out).mono ?_
      rintro e w3 ⟨rfl, hb3⟩
      have HB5 := hide (bl_trans HB3.out hb3)
      clear hb3
      go_wp2
      go_ret
      exact ⟨ret_bool (by rw [HE.out]; rfl), HB5.out⟩
theorem same_any {w0 : World} {t u : Rt} (h : RxAt w0 t) (g : RxAt w0 u) (w : World) (hb0 : Below w0.heap.size w0 w) : Calls Tryz.prog 12 #[t.v, u.v] w (SmPost (sameM t u) w) := by
  have HC := hide (fun W hb => samerx_any h u g W hb)
  have HB0 := hide hb0
  obtain ⟨A, c, hkv⟩ := ksat_len h.ks
  obtain ⟨RA, rc, hrv⟩ := rwat_len h.rows
  obtain ⟨B, d, hkv2⟩ := ksat_len g.ks
  obtain ⟨RB, rd, hrv2⟩ := rwat_len g.rows
  unfold Rt.v Rt.cs SmPost at *
  rw [hkv, hrv, hkv2, hrv2] at HC ⊢
  generalize sameM t u = r at *
  clear h g hb0 hkv hrv hkv2 hrv2
  generalize t.k = k at *
  generalize t.ch = ch at *
  generalize t.nt = nt at *
  generalize t.mi = mi at *
  generalize t.ma = ma at *
  generalize t.lz = lz at *
  generalize u.k = k' at *
  generalize u.ch = ch' at *
  generalize u.nt = nt' at *
  generalize u.mi = mi' at *
  generalize u.ma = ma' at *
  generalize u.lz = lz' at *
  generalize t.rows.length = rl at *
  generalize u.rows.length = ul at *
  generalize t.kids.length = kl at *
  generalize u.kids.length = vl at *
  have hba := bl_alloc (bl_alloc (bl_refl w) (.cells #[.int .i64 k, .string ch, .bool nt, .slice RA rl rc, .int .i64 mi, .int .i64 ma, .bool lz, .slice A kl c] 25)) (.cells #[.int .i64 k', .string ch', .bool nt', .slice RB ul rd, .int .i64 mi', .int .i64 ma', .bool lz', .slice B vl d] 25)
  have HBA := hide hba
  have HBD := hide (bl_trans HB0.out hba)
  clear hba
  have f0 : ((w.alloc (.cells #[.int .i64 k, .string ch, .bool nt, .slice RA rl rc, .int .i64 mi, .int .i64 ma, .bool lz, .slice A kl c] 25)).alloc (.cells #[.int .i64 k', .string ch', .bool nt', .slice RB ul rd, .int .i64 mi', .int .i64 ma', .bool lz', .slice B vl d] 25)).cell? ⟨w.heap.size, 0, none⟩ = some (.int .i64 k) := cell_later (bl_alloc (bl_refl _) _) (cells_lit w _ _ 0 _ rfl)
  have g0 : ((w.alloc (.cells #[.int .i64 k, .string ch, .bool nt, .slice RA rl rc, .int .i64 mi, .int .i64 ma, .bool lz, .slice A kl c] 25)).alloc (.cells #[.int .i64 k', .string ch', .bool nt', .slice RB ul rd, .int .i64 mi', .int .i64 ma', .bool lz', .slice B vl d] 25)).cell? ⟨w.heap.size + 1, 0, none⟩ = some (.int .i64 k') := cells_lit2 (w.alloc (.cells #[.int .i64 k, .string ch, .bool nt, .slice RA rl rc, .int .i64 mi, .int .i64 ma, .bool lz, .slice A kl c] 25)) _ _ 0 _ rfl (by simp)
  have f1 : ((w.alloc (.cells #[.int .i64 k, .string ch, .bool nt, .slice RA rl rc, .int .i64 mi, .int .i64 ma, .bool lz, .slice A kl c] 25)).alloc (.cells #[.int .i64 k', .string ch', .bool nt', .slice RB ul rd, .int .i64 mi', .int .i64 ma', .bool lz', .slice B vl d] 25)).cell? ⟨w.heap.size, 1, none⟩ = some (.string ch) := cell_later (bl_alloc (bl_refl _) _) (cells_lit w _ _ 1 _ rfl)
  have g1 : ((w.alloc (.cells #[.int .i64 k, .string ch, .bool nt, .slice RA rl rc, .int .i64 mi, .int .i64 ma, .bool lz, .slice A kl c] 25)).alloc (.cells #[.int .i64 k', .string ch', .bool nt', .slice RB ul rd, .int .i64 mi', .int .i64 ma', .bool lz', .slice B vl d] 25)).cell? ⟨w.heap.size + 1, 1, none⟩ = some (.string ch') := cells_lit2 (w.alloc (.cells #[.int .i64 k, .string ch, .bool nt, .slice RA rl rc, .int .i64 mi, .int .i64 ma, .bool lz, .slice A kl c] 25)) _ _ 1 _ rfl (by simp)
  have f2 : ((w.alloc (.cells #[.int .i64 k, .string ch, .bool nt, .slice RA rl rc, .int .i64 mi, .int .i64 ma, .bool lz, .slice A kl c] 25)).alloc (.cells #[.int .i64 k', .string ch', .bool nt', .slice RB ul rd, .int .i64 mi', .int .i64 ma', .bool lz', .slice B vl d] 25)).cell? ⟨w.heap.size, 2, none⟩ = some (.bool nt) := cell_later (bl_alloc (bl_refl _) _) (cells_lit w _ _ 2 _ rfl)
  have g2 : ((w.alloc (.cells #[.int .i64 k, .string ch, .bool nt, .slice RA rl rc, .int .i64 mi, .int .i64 ma, .bool lz, .slice A kl c] 25)).alloc (.cells #[.int .i64 k', .string ch', .bool nt', .slice RB ul rd, .int .i64 mi', .int .i64 ma', .bool lz', .slice B vl d] 25)).cell? ⟨w.heap.size + 1, 2, none⟩ = some (.bool nt') := cells_lit2 (w.alloc (.cells #[.int .i64 k, .string ch, .bool nt, .slice RA rl rc, .int .i64 mi, .int .i64 ma, .bool lz, .slice A kl c] 25)) _ _ 2 _ rfl (by simp)
  have f3 : ((w.alloc (.cells #[.int .i64 k, .string ch, .bool nt, .slice RA rl rc, .int .i64 mi, .int .i64 ma, .bool lz, .slice A kl c] 25)).alloc (.cells #[.int .i64 k', .string ch', .bool nt', .slice RB ul rd, .int .i64 mi', .int .i64 ma', .bool lz', .slice B vl d] 25)).cell? ⟨w.heap.size, 3, none⟩ = some (.slice RA rl rc) := cell_later (bl_alloc (bl_refl _) _) (cells_lit w _ _ 3 _ rfl)
  have g3 : ((w.alloc (.cells #[.int .i64 k, .string ch, .bool nt, .slice RA rl rc, .int .i64 mi, .int .i64 ma, .bool lz, .slice A kl c] 25)).alloc (.cells #[.int .i64 k', .string ch', .bool nt', .slice RB ul rd, .int .i64 mi', .int .i64 ma', .bool lz', .slice B vl d] 25)).cell? ⟨w.heap.size + 1, 3, none⟩ = some (.slice RB ul rd) := cells_lit2 (w.alloc (.cells #[.int .i64 k, .string ch, .bool nt, .slice RA rl rc, .int .i64 mi, .int .i64 ma, .bool lz, .slice A kl c] 25)) _ _ 3 _ rfl (by simp)
  have f4 : ((w.alloc (.cells #[.int .i64 k, .string ch, .bool nt, .slice RA rl rc, .int .i64 mi, .int .i64 ma, .bool lz, .slice A kl c] 25)).alloc (.cells #[.int .i64 k', .string ch', .bool nt', .slice RB ul rd, .int .i64 mi', .int .i64 ma', .bool lz', .slice B vl d] 25)).cell? ⟨w.heap.size, 4, none⟩ = some (.int .i64 mi) := cell_later (bl_alloc (bl_refl _) _) (cells_lit w _ _ 4 _ rfl)
  have g4 : ((w.alloc (.cells #[.int .i64 k, .string ch, .bool nt, .slice RA rl rc, .int .i64 mi, .int .i64 ma, .bool lz, .slice A kl c] 25)).alloc (.cells #[.int .i64 k', .string ch', .bool nt', .slice RB ul rd, .int .i64 mi', .int .i64 ma', .bool lz', .slice B vl d] 25)).cell? ⟨w.heap.size + 1, 4, none⟩ = some (.int .i64 mi') := cells_lit2 (w.alloc (.cells #[.int .i64 k, .string ch, .bool nt, .slice RA rl rc, .int .i64 mi, .int .i64 ma, .bool lz, .slice A kl c] 25)) _ _ 4 _ rfl (by simp)
  have f5 : ((w.alloc (.cells #[.int .i64 k, .string ch, .bool nt, .slice RA rl rc, .int .i64 mi, .int .i64 ma, .bool lz, .slice A kl c] 25)).alloc (.cells #[.int .i64 k', .string ch', .bool nt', .slice RB ul rd, .int .i64 mi', .int .i64 ma', .bool lz', .slice B vl d] 25)).cell? ⟨w.heap.size, 5, none⟩ = some (.int .i64 ma) := cell_later (bl_alloc (bl_refl _) _) (cells_lit w _ _ 5 _ rfl)
  have g5 : ((w.alloc (.cells #[.int .i64 k, .string ch, .bool nt, .slice RA rl rc, .int .i64 mi, .int .i64 ma, .bool lz, .slice A kl c] 25)).alloc (.cells #[.int .i64 k', .string ch', .bool nt', .slice RB ul rd, .int .i64 mi', .int .i64 ma', .bool lz', .slice B vl d] 25)).cell? ⟨w.heap.size + 1, 5, none⟩ = some (.int .i64 ma') := cells_lit2 (w.alloc (.cells #[.int .i64 k, .string ch, .bool nt, .slice RA rl rc, .int .i64 mi, .int .i64 ma, .bool lz, .slice A kl c] 25)) _ _ 5 _ rfl (by simp)
  have f6 : ((w.alloc (.cells #[.int .i64 k, .string ch, .bool nt, .slice RA rl rc, .int .i64 mi, .int .i64 ma, .bool lz, .slice A kl c] 25)).alloc (.cells #[.int .i64 k', .string ch', .bool nt', .slice RB ul rd, .int .i64 mi', .int .i64 ma', .bool lz', .slice B vl d] 25)).cell? ⟨w.heap.size, 6, none⟩ = some (.bool lz) := cell_later (bl_alloc (bl_refl _) _) (cells_lit w _ _ 6 _ rfl)
  have g6 : ((w.alloc (.cells #[.int .i64 k, .string ch, .bool nt, .slice RA rl rc, .int .i64 mi, .int .i64 ma, .bool lz, .slice A kl c] 25)).alloc (.cells #[.int .i64 k', .string ch', .bool nt', .slice RB ul rd, .int .i64 mi', .int .i64 ma', .bool lz', .slice B vl d] 25)).cell? ⟨w.heap.size + 1, 6, none⟩ = some (.bool lz') := cells_lit2 (w.alloc (.cells #[.int .i64 k, .string ch, .bool nt, .slice RA rl rc, .int .i64 mi, .int .i64 ma, .bool lz, .slice A kl c] 25)) _ _ 6 _ rfl (by simp)
  have f7 : ((w.alloc (.cells #[.int .i64 k, .string ch, .bool nt, .slice RA rl rc, .int .i64 mi, .int .i64 ma, .bool lz, .slice A kl c] 25)).alloc (.cells #[.int .i64 k', .string ch', .bool nt', .slice RB ul rd, .int .i64 mi', .int .i64 ma', .bool lz', .slice B vl d] 25)).cell? ⟨w.heap.size, 7, none⟩ = some (.slice A kl c) := cell_later (bl_alloc (bl_refl _) _) (cells_lit w _ _ 7 _ rfl)
  have g7 : ((w.alloc (.cells #[.int .i64 k, .string ch, .bool nt, .slice RA rl rc, .int .i64 mi, .int .i64 ma, .bool lz, .slice A kl c] 25)).alloc (.cells #[.int .i64 k', .string ch', .bool nt', .slice RB ul rd, .int .i64 mi', .int .i64 ma', .bool lz', .slice B vl d] 25)).cell? ⟨w.heap.size + 1, 7, none⟩ = some (.slice B vl d) := cells_lit2 (w.alloc (.cells #[.int .i64 k, .string ch, .bool nt, .slice RA rl rc, .int .i64 mi, .int .i64 ma, .bool lz, .slice A kl c] 25)) _ _ 7 _ rfl (by simp)
  go_enter Tryz.func12, Tryz.ntmps12
  go_wp2_with fail
  refine (HC.out _ HBD.out).mono ?_
  rintro e w2 ⟨rfl, hb2⟩
  have HB3 := hide (bl_trans HBA.out hb2)
  clear hb2 f0 g0 f1 g1 f2 g2 f3 g3 f4 g4 f5 g5 f6 g6 f7 g7
  go_wp2
  go_ret
  exact ⟨rfl, HB3.out⟩
end
section
open Go.ChangeShapes Go.WideShapes Go.ChangeAt Go.RowKit
open SetM
attribute [local go_sem ↓] Go.wp_at_zero Go.wp_at_succ
attribute [local go_sem] eqgn_rw
attribute [local go_sem ↓] neq_rw
set_option maxRecDepth 100000
set_option linter.unusedVariables false
set_option linter.unusedSimpArgs false
theorem tlne (a b : ByteArray) (r : Bool) (h : decide (a = b) = r) : (a.toList != b.toList) = !r := by
  show (!(a.toList == b.toList)) = !r; rw [tleq a b r h]
theorem blne (a b : Bool) (r : Bool) (h : decide (a = b) = r) : (a != b) = !r := by
  rw [← h]; cases a <;> cases b <;> rfl
theorem ilne (a b : Int) (r : Bool) (h : decide (a = b) = r) : (a != b) = !r := by
  rw [← h]; by_cases e : a = b <;> simp [e]
end
section
open Go.ChangeShapes Go.WideShapes Go.ChangeAt Go.RowKit
open SetM
attribute [local go_sem ↓] Go.wp_at_zero Go.wp_at_succ
set_option maxRecDepth 100000
set_option linter.unusedVariables false
def fillR (l : List Rw) (k : Nat) : List Rw := l.take k ++ List.replicate (l.length - k) (⟨#[]⟩, ⟨#[]⟩)
theorem fillR_len (l : List Rw) (k : Nat) (hk : k ≤ l.length) : (fillR l k).length = l.length := by unfold fillR; simp; omega
theorem fillR_succ (l : List Rw) (k : Nat) (h : k < l.length) : (fillR l k).set k l[k] = fillR l (k + 1) := by
  unfold fillR
  have hl : (l.take k).length = k := by simp; omega
  rw [List.set_append_right _ _ (by omega), hl, Nat.sub_self, List.take_succ_eq_append_getElem h, show l.length - k = (l.length - (k + 1)) + 1 by omega, List.replicate_succ, List.set_cons_zero, List.append_assoc]
  rfl
theorem fillR_all (l : List Rw) : fillR l l.length = l := by unfold fillR; simp
theorem flatR_set2 (l : List Rw) (i : Nat) (h : i < l.length) (s : Rw) : ((flatR l).set (i * 2) (.string s.1)).set (i * 2 + 1) (.string s.2) = flatR (l.set i s) := by
  induction l generalizing i with
  | nil => simp at h
  | cons a r ih =>
    cases i with
    | zero => rfl
    | succ i =>
      have e : ∀ (b : Rw) (q : List Rw), flatR (b :: q) = .string b.1 :: .string b.2 :: flatR q := fun _ _ => rfl
      have h1 : (i + 1) * 2 = i * 2 + 1 + 1 := by omega
      rw [e, h1, List.set_cons_succ, List.set_cons_succ, List.set_cons_succ, List.set_cons_succ, ih i (by simpa using h), List.set_cons_succ, e]
theorem own_putR {w : World} {base g n c : Nat} {l : List Rw} (h : w.ownsRow base 42 2 (.slice (some ⟨g, 0, none⟩) n c) n (flatR l)) (i : Nat) (hi : i < l.length) (s : Rw) :
    ((w.setCell ⟨g, i * 2, none⟩ (.string s.1)).setCell ⟨g, i * 2 + 1, none⟩ (.string s.2)).ownsRow base 42 2 (.slice (some ⟨g, 0, none⟩) n c) n (flatR (l.set i s)) := by
  have h1 := (World.ownsRow.stored h (i * 2) (.string s.1)).1
  have h2 := (World.ownsRow.stored h1 (i * 2 + 1) (.string s.2)).1
  rw [flatR_set2 l i hi s] at h2
  exact h2
theorem made_flatR (n : Nat) : (madeCells #[Value.string ⟨#[]⟩, Value.string ⟨#[]⟩] (n * 2)).toList = flatR (List.replicate n (⟨#[]⟩, ⟨#[]⟩)) := by
  apply List.ext_getElem
  · rw [flatR_len]; simp [madeCells]
  · intro i h1 h2
    have hi : i < n * 2 := by simpa [madeCells] using h1
    have hf := flatR_at (List.replicate n ((⟨#[]⟩ : ByteArray), (⟨#[]⟩ : ByteArray))) (i / 2) (by simp; omega)
    have e1 : (madeCells #[Value.string ⟨#[]⟩, Value.string ⟨#[]⟩] (n * 2)).toList[i] = .string ⟨#[]⟩ := by
      simp only [madeCells, Array.toList_map, Array.toList_range, List.getElem_map, List.getElem_range]
      rcases Nat.mod_two_eq_zero_or_one i with h | h <;> simp [h]
    rw [e1]
    simp only [List.getElem_replicate] at hf
    rcases Nat.mod_two_eq_zero_or_one i with h | h
    · have ht : i / 2 * 2 = i := by omega
      rw [ht, List.getElem?_eq_getElem h2] at hf
      exact (Option.some.inj hf.1).symm
    · have ht : i / 2 * 2 + 1 = i := by omega
      rw [ht, List.getElem?_eq_getElem h2] at hf
      exact (Option.some.inj hf.2).symm
theorem results_cell1 {fn : Func} {p : Tmp} {ty : TypeId} (h : fn.results = #[.cell p ty]) (tmps : Array Value) (P : Program) (w : World) :
    (results fn tmps).run P w = ((asAddr (tmps.getD p undef)).run P w).andThen fun a w₁ => (loadVar ty a).run P w₁ := by
  simp only [results, h]
  simp [Sem.run_bind, Result.andThen]
theorem idrow_any (a b : ByteArray) (w : World) : Calls Tryz.prog 61 #[.agg #[.string a, .string b]] w fun e w' => e = .returned (.agg #[.string a, .string b]) ∧ Below w.heap.size w w' := by
  have hb := hide (fun o1 o2 => bl_alloc (bl_alloc (bl_refl w) o1) o2)
  go_enter Tryz.func61, Tryz.ntmps61
  go_wp2
  refine bodyPost_ret (v := .agg #[.string a, .string b]) ?_ rfl ⟨rfl, hb.out _ _⟩
  rw [results_cell1 rfl]
  go_simp
/-- A slice from block n on. -/
def FrV (n : Nat) (v : Value) : Prop := ∀ x len c, v = .slice (some x) len c → n ≤ x.block
def RwPost (w : World) (l : List Rw) : Ending → World → Prop := fun e w' => ∃ v', e = .returned v' ∧ Below w.heap.size w w' ∧ RwAt w' v' l ∧ FrV w.heap.size v'
def RInv (l : List Rw) (w1 : World) (i : Value) (wr : World) : Prop :=
  ∃ k : Nat, i = .int .i64 k ∧ k ≤ l.length ∧ Hid (wr.ownsRow w1.heap.size 42 2 (.slice (some ⟨w1.heap.size, 0, none⟩) l.length l.length) l.length (flatR (fillR l k))) ∧ Hid (Below w1.heap.size w1 wr) ∧ w1.heap.size < wr.heap.size
set_option maxHeartbeats 8000000 in
theorem eachrows_any (v : Value) (l : List Rw) (w : World) (h : RwAt w v l) (hl : l.length ≤ 100000) :
    Calls Tryz.prog 60 #[v, .func (.func 61) #[] #[]] w (RwPost w l) := by
  obtain ⟨i0, hi0, hz0', hz1, hz2⟩ := info_parts info_rw
  obtain ⟨vA, vc, rfl⟩ := rwat_len h
  have H := hide h
  unfold RwPost
  rcases l with _ | ⟨s0, lr⟩
  · clear h hl H
    simp only [List.length_nil] at *
    go_enter Tryz.func60, Tryz.ntmps60
    go_wp2
    go_ret
    exact ⟨_, rfl, bl_refl w, .inl ⟨rfl, rfl⟩, fun x len c h => by cases h⟩
  obtain ⟨l, hll⟩ : ∃ l, s0 :: lr = l := ⟨_, rfl⟩
  have hpos : 0 < l.length := by rw [← hll]; simp
  rw [hll] at H h hl ⊢
  clear hll h
  have gz : ((l.length : Int) == 0) = false := beq_eq_false_iff_ne.2 (by omega)
  go_enter Tryz.func60, Tryz.ntmps60
  go_wp2_with (refine wpList_make_full _ rfl (.tmp 12) (.tmp 12) 22 rfl w.heap.size 42 i0 (.agg #[.string ⟨#[]⟩, .string ⟨#[]⟩]) 2 Tryz.underlying22 hi0 hz0' hz1 .i64 .i64 l.length l.length l.length rfl rfl rfl rfl (by rw [hz2]; omega) (by unfold maxLen; omega) (Nat.le_refl _) ?_; intro w2 ho2 hg2)
  have hb2 : Below w.heap.size w w2 := bl_grown (bl_refl w) hg2 (fun k hk => by cases hk)
  have hst : RInv l w (.int .i64 0) w2 := ⟨0, rfl, Nat.zero_le _, hide (by
    have e : (madeCells (Value.agg #[.string ⟨#[]⟩, .string ⟨#[]⟩]).cells (l.length * 2)).toList = flatR (fillR l 0) := by
      have := made_flatR l.length
      unfold fillR
      simpa [Value.cells] using this
    rw [← e]; exact ho2), hide hb2, (World.ownsRow.lt ho2 _ rfl).2⟩
  have HST0 := hide hst
  clear hst ho2 hg2 hb2
  go_wp2
  go_loopw [16] (fun i wr => RInv l w i wr) (fun i _ => l.length - (intOf i).toNat)
  case atStart => exact HST0.out
  case round =>
    obtain ⟨k, rfl, hk, HROW, HBL, hlt1⟩ := hrel
    by_cases hlt : k < l.length
    · obtain ⟨b1, o1, c1', hv1, hc1, hm1, hlb1, hcell1⟩ := rwat_some (rwat_below H.out HBL.out) (by omega)
      injection hv1 with hv1 _ hv1c
      subst hv1 hv1c
      unfold maxLen at hm1
      obtain ⟨x1, x2⟩ := hcell1 k hlt
      have hfl := fillR_len l k hk
      have hsu := fillR_succ l k hlt
      clear hcell1
      generalize l[k] = s at *
      obtain ⟨s1, s2⟩ := s
      have HSU := hide hsu
      have z1 : wr.cell? ⟨w.heap.size, k * 2, none⟩ = some (.string (fillR l k)[k].1) := by rw [World.ownsRow.cellAt HROW.out (k * 2) (by omega)]; exact (flatR_at _ k (by omega)).1
      have z2 : wr.cell? ⟨w.heap.size, k * 2 + 1, none⟩ = some (.string (fillR l k)[k].2) := by rw [World.ownsRow.cellAt HROW.out (k * 2 + 1) (by omega)]; exact (flatR_at _ k (by omega)).2
      generalize (fillR l k)[k].1 = q1 at z1
      generalize (fillR l k)[k].2 = q2 at z2
      have HFL := hide hfl
      clear hfl hsu
      have gl : decide (k < l.length) = true := decide_eq_true hlt
      have gl' : decide ((k : Int) < (l.length : Int)) = true := decide_eq_true (by omega)
      have e5 : IntKind.i64.wrap ((k : Int) + 1) = (k : Int) + 1 := by rw [IntKind.wrap_i64]; omega
      have hfin := fun W (hh : Below wr.heap.size wr W) => own_putR (own_below HROW.out hh) k (by rw [HFL.out]; exact hlt) (s1, s2)
      rw [HSU.out] at hfin
      have HFIN := hide hfin
      have HFZ := hide (fun W (hh : Below wr.heap.size wr W) => World.ownsRow.frozenAt (own_below HROW.out hh))
      have HC := hide (fun W => idrow_any s1 s2 W)
      clear hfin HSU
      go_wp2_with fail
      refine (HC.out _).mono ?_
      rintro e w2 ⟨rfl, hb2⟩
      have hba := bl_trans (bl_alloc (bl_refl wr) _) hb2
      have y1 := cell_later hba z1
      have y2 := cell_later hba z2
      have va3 := HFZ.out _ hba (k * 2)
      have va4 := HFZ.out _ hba (k * 2 + 1)
      have HBB := hide hba
      have hsz := hba.size
      clear hba hb2 x1 x2 z1 z2
      go_wp2
      refine ⟨?_, by first | (simp [intOf]; done) | (simp [intOf]; omega)⟩
      refine ⟨k + 1, by go_num, by omega, hide ?_, hide ?_, ?_⟩
      · exact HFIN.out _ HBB.out
      · exact bl_set (bl_set (bl_trans HBL.out HBB.out) (Nat.le_refl _) _) (Nat.le_refl _) _
      · simp [World.setCell]; omega
    · obtain rfl : k = l.length := by omega
      have ho := own_base HROW.out (Nat.le_refl _)
      rw [fillR_all] at ho
      have HO := hide (own_rwat ho)
      have gl : decide (l.length < l.length) = false := by simp
      have gl' : decide ((l.length : Int) < (l.length : Int)) = false := by simp
      clear ho
      go_wp2
      go_ret
      exact ⟨_, rfl, HBL.out, HO.out, fun x len c h => by cases h; exact Nat.le_refl _⟩
theorem listrows_any (v : Value) (l : List Rw) (w : World) (h : RwAt w v l) (hl : l.length ≤ 100000) :
    Calls Tryz.prog 51 #[v] w (RwPost w l) := by
  have HC := hide (eachrows_any v l w h hl)
  clear h hl
  unfold RwPost at *
  go_enter Tryz.func51, Tryz.ntmps51
  go_wp2_with fail
  refine HC.out.mono ?_
  rintro e w2 ⟨v', rfl, hb2, hr, hf⟩
  have HB := hide hb2
  have HR := hide (And.intro hr hf)
  clear hb2 hr hf
  go_wp2
  go_ret
  exact ⟨_, rfl, HB.out, HR.out⟩
end
section
open Go.ChangeShapes Go.WideShapes Go.ChangeAt Go.RowKit
open SetM
attribute [local go_sem ↓] Go.wp_at_zero Go.wp_at_succ
set_option maxRecDepth 100000
set_option linter.unusedVariables false
mutual
  def er : Rt → Rt
    | .mk k ch nt _ rows mi ma lz _ l => .mk k ch nt (.slice none 0 0) rows mi ma lz (.slice none 0 0) (erL l)
  def erL : List Rt → List Rt
    | [] => []
    | t :: l => er t :: erL l
end
theorem erL_map (l : List Rt) : erL l = l.map er := by
  induction l with
  | nil => rfl
  | cons a l ih => rw [erL, ih]; rfl
theorem er_eq (t : Rt) : er t = .mk t.k t.ch t.nt (.slice none 0 0) t.rows t.mi t.ma t.lz (.slice none 0 0) (t.kids.map er) := by
  cases t; rw [er, erL_map]; rfl
/-- Its lists lie from block n on. -/
inductive Fr (n : Nat) : Rt → Prop
  | mk (t : Rt) (hr : FrV n t.rv) (hk : FrV n t.kv) (hs : ∀ x ∈ t.kids, Fr n x) : Fr n t
theorem Fr.mono {n m : Nat} {t : Rt} (h : Fr m t) (hm : n ≤ m) : Fr n t := by
  induction h with
  | mk t hr hk hs ih => exact .mk t (fun x len c e => Nat.le_trans hm (hr x len c e)) (fun x len c e => Nat.le_trans hm (hk x len c e)) ih
theorem FrV.mono {n m : Nat} {v : Value} (h : FrV m v) (hm : n ≤ m) : FrV n v := fun x len c e => Nat.le_trans hm (h x len c e)
def Kept (n : Nat) (w w' : World) : Prop := ∀ (p : Addr) (v : Value), n ≤ p.block → w.cell? p = some v → w'.cell? p = some v
theorem addr_blk (x : Addr) (j : Nat) : (x.add j).block = x.block := by unfold Addr.add; split <;> rfl
theorem rwat_kept {n : Nat} {w w' : World} {v : Value} {l : List Rw} (h : RwAt w v l) (hf : FrV n v) (hw : Kept n w w') : RwAt w' v l := by
  rcases h with h | ⟨x, c, rfl, h1, h2, h3⟩
  · exact .inl h
  · have hx := hf x _ _ rfl
    exact .inr ⟨x, c, rfl, h1, h2, fun i hi => ⟨hw _ _ (by rw [addr_blk]; exact hx) (h3 i hi).1, hw _ _ (by rw [addr_blk]; exact hx) (h3 i hi).2⟩⟩
theorem ksat_kept {n : Nat} {w w' : World} {v : Value} {l : List Rt} (h : KsAt w v l) (hf : FrV n v) (hw : Kept n w w') : KsAt w' v l := by
  rcases h with h | ⟨x, c, rfl, h1, h2, h3⟩
  · exact .inl h
  · have hx := hf x _ _ rfl
    exact .inr ⟨x, c, rfl, h1, h2, fun i hi j u hu => hw _ _ (by rw [addr_blk]; exact hx) (h3 i hi j u hu)⟩
theorem rx_kept {n : Nat} {w w' : World} {t : Rt} (h : RxAt w t) (hf : Fr n t) (hw : Kept n w w') : RxAt w' t := by
  induction h with
  | mk t hr hk hs ih =>
    obtain ⟨_, f1, f2, f3⟩ := hf
    exact .mk t (rwat_kept hr f1 hw) (ksat_kept hk f2 hw) (fun i hi => ih i hi (f3 _ (List.getElem_mem hi)))
theorem kept_set (w : World) {n : Nat} {p : Addr} (hp : p.block < n) (u : Value) : Kept n w (w.setCell p u) := by
  intro q v hq hc
  rw [World.cell?_of_block (w := w)]
  · exact hc
  · exact Below.heap_setCell w p u _ (by omega)
theorem kept_trans {n : Nat} {a b c : World} (h : Kept n a b) (g : Kept n b c) : Kept n a c := fun p v hp hc => g p v hp (h p v hp hc)
theorem kept_below {n : Nat} {a b : World} (h : Below a.heap.size a b) : Kept n a b := fun p v _ hc => cell_later h hc
def flatX (l : List Rt) : List Value := l.flatMap Rt.cs
theorem flatX_len (l : List Rt) : (flatX l).length = l.length * 8 := by
  induction l with
  | nil => rfl
  | cons a r ih => simp only [flatX, List.flatMap_cons, List.length_append, List.length_cons] at *; simp only [Rt.cs, List.length_cons, List.length_nil]; omega
theorem flatX_at (l : List Rt) (i : Nat) (h : i < l.length) (j : Nat) (u : Value) (hu : (l[i].cs)[j]? = some u) : (flatX l)[i * 8 + j]? = some u := by
  induction l generalizing i with
  | nil => simp at h
  | cons a r ih =>
    have e : flatX (a :: r) = a.cs ++ flatX r := rfl
    have hl : a.cs.length = 8 := rfl
    cases i with
    | zero =>
      rw [e, List.getElem?_append_left (by have := (List.getElem?_eq_some_iff.1 hu).1; simp only [List.getElem_cons_zero] at this; omega)]
      simpa using hu
    | succ i =>
      rw [e, List.getElem?_append_right (by omega), hl, show (i + 1) * 8 + j - 8 = i * 8 + j by omega]
      exact ih i (by simpa using h) (by simpa using hu)
theorem flatX_set8 (l : List Rt) (i : Nat) (h : i < l.length) (t : Rt) : ((((((((flatX l).set (i * 8) (.int .i64 t.k)).set (i * 8 + 1) (.string t.ch)).set (i * 8 + 2) (.bool t.nt)).set (i * 8 + 3) t.rv).set (i * 8 + 4) (.int .i64 t.mi)).set (i * 8 + 5) (.int .i64 t.ma)).set (i * 8 + 6) (.bool t.lz)).set (i * 8 + 7) t.kv = flatX (l.set i t) := by
  induction l generalizing i with
  | nil => simp at h
  | cons a r ih =>
    cases i with
    | zero => rfl
    | succ i =>
      have e : ∀ (b : Rt) (q : List Rt), flatX (b :: q) = .int .i64 b.k :: .string b.ch :: .bool b.nt :: b.rv :: .int .i64 b.mi :: .int .i64 b.ma :: .bool b.lz :: b.kv :: flatX q := fun _ _ => rfl
      have h1 : (i + 1) * 8 = i * 8 + 1 + 1 + 1 + 1 + 1 + 1 + 1 + 1 := by omega
      have h2 : ∀ m, i * 8 + 1 + 1 + 1 + 1 + 1 + 1 + 1 + 1 + m = i * 8 + m + 1 + 1 + 1 + 1 + 1 + 1 + 1 + 1 := by intro m; omega
      rw [e, h1]
      simp only [h2, List.set_cons_succ]
      rw [ih i (by simpa using h), e]
theorem own_putX {w : World} {base g n c : Nat} {l : List Rt} (h : w.ownsRow base 25 8 (.slice (some ⟨g, 0, none⟩) n c) n (flatX l)) (i : Nat) (hi : i < l.length) (t : Rt) :
    ((((((((w.setCell ⟨g, i * 8, none⟩ (.int .i64 t.k)).setCell ⟨g, i * 8 + 1, none⟩ (.string t.ch)).setCell ⟨g, i * 8 + 2, none⟩ (.bool t.nt)).setCell ⟨g, i * 8 + 3, none⟩ t.rv).setCell ⟨g, i * 8 + 4, none⟩ (.int .i64 t.mi)).setCell ⟨g, i * 8 + 5, none⟩ (.int .i64 t.ma)).setCell ⟨g, i * 8 + 6, none⟩ (.bool t.lz)).setCell ⟨g, i * 8 + 7, none⟩ t.kv).ownsRow base 25 8 (.slice (some ⟨g, 0, none⟩) n c) n (flatX (l.set i t)) := by
  have h1 := (World.ownsRow.stored h (i * 8) (.int .i64 t.k)).1
  have h2 := (World.ownsRow.stored h1 (i * 8 + 1) (.string t.ch)).1
  have h3 := (World.ownsRow.stored h2 (i * 8 + 2) (.bool t.nt)).1
  have h4 := (World.ownsRow.stored h3 (i * 8 + 3) t.rv).1
  have h5 := (World.ownsRow.stored h4 (i * 8 + 4) (.int .i64 t.mi)).1
  have h6 := (World.ownsRow.stored h5 (i * 8 + 5) (.int .i64 t.ma)).1
  have h7 := (World.ownsRow.stored h6 (i * 8 + 6) (.bool t.lz)).1
  have h8 := (World.ownsRow.stored h7 (i * 8 + 7) t.kv).1
  rw [flatX_set8 l i hi t] at h8
  exact h8
theorem own_ksat {w : World} {base : Nat} {v : Value} {l : List Rt} (h : w.ownsRow base 25 8 v l.length (flatX l)) : KsAt w v l := by
  rcases own_form h with ⟨rfl, h1, h2⟩ | ⟨g, c, rfl, h1, h2, h3, h4, h5⟩
  · exact .inl ⟨rfl, List.eq_nil_of_length_eq_zero h1⟩
  · refine .inr ⟨_, c, rfl, h3, h4, fun i hi j u hu => ?_⟩
    rw [addr_add]
    simp only [Nat.zero_add]
    exact h5 _ _ (flatX_at l i hi j u hu)
def rt0 : Rt := .mk 0 ⟨#[]⟩ false (.slice none 0 0) [] 0 0 false (.slice none 0 0) []
theorem info_rx : (Tryz.prog.info? 25).map (fun i => (i.zero, i.size, i.bytes)) = some (some rt0.v, 8, 104) := by kernel_rfl
theorem made_flatX (n : Nat) : (madeCells rt0.cs.toArray (n * 8)).toList = flatX (List.replicate n rt0) := by
  apply List.ext_getElem
  · rw [flatX_len]; simp [madeCells]
  · intro i h1 h2
    have hi : i < n * 8 := by simpa [madeCells] using h1
    have hl : rt0.cs.length = 8 := rfl
    have hj : i % 8 < rt0.cs.length := by omega
    have hf := flatX_at (List.replicate n rt0) (i / 8) (by simp; omega) (i % 8) rt0.cs[i % 8] (by simp)
    have ht : i / 8 * 8 + i % 8 = i := by omega
    rw [ht, List.getElem?_eq_getElem h2] at hf
    rw [Option.some.inj hf]
    simp only [madeCells, Array.toList_map, Array.toList_range, List.getElem_map, List.getElem_range]
    simp [hl]
    rw [List.getElem?_eq_getElem hj]
    rfl
end
section
open Go.ChangeShapes Go.WideShapes Go.ChangeAt Go.RowKit
open SetM
attribute [local go_sem ↓] Go.wp_at_zero Go.wp_at_succ
set_option maxRecDepth 100000
set_option linter.unusedVariables false
def DpPost (t : Rt) (w : World) : Ending → World → Prop := fun e w' => ∃ t', e = .returned t'.v ∧ Below w.heap.size w w' ∧ RxAt w' t' ∧ Fr w.heap.size t' ∧ er t' = er t
def EpPost (l : List Rt) (w : World) : Ending → World → Prop := fun e w' => ∃ v' L, e = .returned v' ∧ Below w.heap.size w w' ∧ KsAt w' v' L ∧ FrV w.heap.size v' ∧ (∀ x ∈ L, RxAt w' x) ∧ (∀ x ∈ L, Fr w.heap.size x) ∧ L.map er = l.map er
def EInv (l : List Rt) (w1 : World) (i : Value) (wr : World) : Prop :=
  ∃ (k : Nat) (L : List Rt), i = .int .i64 k ∧ k ≤ l.length ∧ L.length = l.length ∧ Hid (wr.ownsRow w1.heap.size 25 8 (.slice (some ⟨w1.heap.size, 0, none⟩) l.length l.length) l.length (flatX L)) ∧ Hid (Below w1.heap.size w1 wr) ∧ w1.heap.size < wr.heap.size ∧ Hid (∀ i (h : i < k) (h1 : i < L.length) (h2 : i < l.length), er L[i] = er l[i] ∧ RxAt wr L[i] ∧ Fr (w1.heap.size + 1) L[i])
theorem kept8 (w : World) {n g : Nat} (hg : g < n) (o0 : Nat) (u0 : Value) (o1 : Nat) (u1 : Value) (o2 : Nat) (u2 : Value) (o3 : Nat) (u3 : Value) (o4 : Nat) (u4 : Value) (o5 : Nat) (u5 : Value) (o6 : Nat) (u6 : Value) (o7 : Nat) (u7 : Value) : Kept n w ((((((((w.setCell ⟨g, o0, none⟩ u0).setCell ⟨g, o1, none⟩ u1).setCell ⟨g, o2, none⟩ u2).setCell ⟨g, o3, none⟩ u3).setCell ⟨g, o4, none⟩ u4).setCell ⟨g, o5, none⟩ u5).setCell ⟨g, o6, none⟩ u6).setCell ⟨g, o7, none⟩ u7) :=
  kept_trans (kept_trans (kept_trans (kept_trans (kept_trans (kept_trans (kept_trans (kept_set _ hg _) (kept_set _ hg _)) (kept_set _ hg _)) (kept_set _ hg _)) (kept_set _ hg _)) (kept_set _ hg _)) (kept_set _ hg _)) (kept_set _ hg _)
theorem bl8 {a w : World} {g : Nat} (h : Below a.heap.size a w) (hg : a.heap.size ≤ g) (o0 : Nat) (u0 : Value) (o1 : Nat) (u1 : Value) (o2 : Nat) (u2 : Value) (o3 : Nat) (u3 : Value) (o4 : Nat) (u4 : Value) (o5 : Nat) (u5 : Value) (o6 : Nat) (u6 : Value) (o7 : Nat) (u7 : Value) : Below a.heap.size a ((((((((w.setCell ⟨g, o0, none⟩ u0).setCell ⟨g, o1, none⟩ u1).setCell ⟨g, o2, none⟩ u2).setCell ⟨g, o3, none⟩ u3).setCell ⟨g, o4, none⟩ u4).setCell ⟨g, o5, none⟩ u5).setCell ⟨g, o6, none⟩ u6).setCell ⟨g, o7, none⟩ u7) :=
  bl_set (bl_set (bl_set (bl_set (bl_set (bl_set (bl_set (bl_set h hg _) hg _) hg _) hg _) hg _) hg _) hg _) hg _
set_option maxHeartbeats 16000000 in
theorem eachrx_any (v : Value) (l : List Rt) (w0 : World) (h : KsAt w0 v l) (hx : ∀ i (hi : i < l.length), RxAt w0 l[i]) (hl : l.length ≤ 100000)
    (HF : ∀ i (hi : i < l.length) W, Below w0.heap.size w0 W → Calls Tryz.prog 39 #[l[i].v] W (DpPost l[i] W)) (w : World) (hb0 : Below w0.heap.size w0 w) :
    Calls Tryz.prog 52 #[v, .func (.func 39) #[] #[]] w (EpPost l w) := by
  obtain ⟨i0, hi0, hz0', hz1, hz2⟩ := info_parts info_rx
  obtain ⟨vA, vc, rfl⟩ := ksat_len h
  have H := hide h
  have HB0 := hide hb0
  have HX := hide hx
  have HF2 := hide HF
  unfold EpPost
  by_cases hpos : 0 < l.length
  case neg =>
    have hl0 : l = [] := List.eq_nil_of_length_eq_zero (by omega)
    subst hl0
    clear h hl H hx HF HX HF2 hpos
    simp only [List.length_nil] at *
    go_enter Tryz.func52, Tryz.ntmps52
    go_wp2
    go_ret
    exact ⟨_, [], rfl, bl_refl w, .inl ⟨rfl, rfl⟩, (fun x len c h => by cases h), (fun x hx => by cases hx), (fun x hx => by cases hx), rfl⟩
  clear h hx HF hb0
  have gz : ((l.length : Int) == 0) = false := beq_eq_false_iff_ne.2 (by omega)
  go_enter Tryz.func52, Tryz.ntmps52
  go_wp2_with (refine wpList_make_full _ rfl (.tmp 12) (.tmp 12) 23 rfl w.heap.size 25 i0 rt0.v 8 Tryz.underlying23 hi0 hz0' hz1 .i64 .i64 l.length l.length l.length rfl rfl rfl rfl (by rw [hz2]; omega) (by unfold maxLen; omega) (Nat.le_refl _) ?_; intro w2 ho2 hg2)
  have hb2 : Below w.heap.size w w2 := bl_grown (bl_refl w) hg2 (fun k hk => by cases hk)
  have hst : EInv l w (.int .i64 0) w2 := ⟨0, List.replicate l.length rt0, rfl, Nat.zero_le _, by simp, hide (by
    have e : (madeCells rt0.v.cells (l.length * 8)).toList = flatX (List.replicate l.length rt0) := by
      have := made_flatX l.length
      simpa [Value.cells, Rt.v] using this
    rw [← e]; exact ho2), hide hb2, (World.ownsRow.lt ho2 _ rfl).2, hide (fun i h => absurd h (Nat.not_lt_zero _))⟩
  have HST0 := hide hst
  clear hst ho2 hg2 hb2
  go_wp2
  go_loopw [16] (fun i wr => EInv l w i wr) (fun i _ => l.length - (intOf i).toNat)
  case atStart => exact HST0.out
  case round =>
    obtain ⟨k, L, rfl, hk, hL, HROW, HBL, hlt1, HALL⟩ := hrel
    by_cases hlt : k < l.length
    · have HBW := hide (bl_trans HB0.out HBL.out)
      obtain ⟨b1, o1, c1', hv1, hc1, hm1, hlb1, hcell1⟩ := ksat_8 (ksat_below H.out HBW.out) (by omega)
      injection hv1 with hv1 _ hv1c
      subst hv1 hv1c
      unfold maxLen at hm1
      obtain ⟨x0, x1, x2, x3, x4, x5, x6, x7⟩ := hcell1 k hlt
      have HC := fun W hb => HF2.out k hlt W hb
      have hxp := HX.out k hlt
      clear hcell1
      have HLK := hide (show ∃ x, x = l[k] from ⟨_, rfl⟩)
      obtain ⟨p, hp⟩ : ∃ p, l[k] = p := ⟨_, rfl⟩
      rw [hp] at x0 x1 x2 x3 x4 x5 x6 x7 HC hxp
      obtain ⟨pA, pc, hprv⟩ := rwat_len hxp.rows
      obtain ⟨pB, pd, hpkv⟩ := ksat_len hxp.ks
      unfold DpPost at HC
      rw [show p.v = .agg #[.int .i64 p.k, .string p.ch, .bool p.nt, .slice pA p.rows.length pc, .int .i64 p.mi, .int .i64 p.ma, .bool p.lz, .slice pB p.kids.length pd] by unfold Rt.v Rt.cs; rw [hprv, hpkv]] at HC
      rw [hprv] at x3
      rw [hpkv] at x7
      have HP := hide hp
      clear hxp hprv hpkv hp HLK
      have hLk : k < L.length := by omega
      have zz := fun j u (hu : (L[k].cs)[j]? = some u) => (show wr.cell? ⟨w.heap.size, k * 8 + j, none⟩ = some u by have hj8 : j < 8 := (List.getElem?_eq_some_iff.1 hu).1; rw [World.ownsRow.cellAt HROW.out (k * 8 + j) (by omega)]; exact flatX_at L k hLk j u hu)
      have z0 : wr.cell? ⟨w.heap.size, k * 8, none⟩ = some (.int .i64 L[k].k) := zz 0 _ rfl
      have z1 := zz 1 _ rfl
      have z2 := zz 2 _ rfl
      have z3 := zz 3 _ rfl
      have z4 := zz 4 _ rfl
      have z5 := zz 5 _ rfl
      have z6 := zz 6 _ rfl
      have z7 := zz 7 _ rfl
      clear zz
      generalize L[k] = q at z0 z1 z2 z3 z4 z5 z6 z7
      have HFIN := hide (fun W (hh : Below wr.heap.size wr W) (t' : Rt) => own_putX (own_below HROW.out hh) k hLk t')
      have HFZ := hide (fun W (hh : Below wr.heap.size wr W) => World.ownsRow.frozenAt (own_below HROW.out hh))
      have HC2 := hide HC
      have HLL := hide (And.intro hL hLk)
      have gl : decide (k < l.length) = true := decide_eq_true hlt
      have gl' : decide ((k : Int) < (l.length : Int)) = true := decide_eq_true (by omega)
      have e5 : IntKind.i64.wrap ((k : Int) + 1) = (k : Int) + 1 := by rw [IntKind.wrap_i64]; omega
      clear HC hL hLk
      go_wp2_with fail
      refine (HC2.out _ (bl_trans HBW.out (bl_alloc (bl_refl wr) _))).mono ?_
      rintro e w2 ⟨t', rfl, hb2, hrx, hfr, her⟩
      have hba := bl_trans (bl_alloc (bl_refl wr) _) hb2
      have y0 := cell_later hba z0
      have y1 := cell_later hba z1
      have y2 := cell_later hba z2
      have y3 := cell_later hba z3
      have y4 := cell_later hba z4
      have y5 := cell_later hba z5
      have y6 := cell_later hba z6
      have y7 := cell_later hba z7
      have v0 := HFZ.out _ hba (k * 8)
      have v1 := HFZ.out _ hba (k * 8 + 1)
      have v2 := HFZ.out _ hba (k * 8 + 2)
      have v3 := HFZ.out _ hba (k * 8 + 3)
      have v4 := HFZ.out _ hba (k * 8 + 4)
      have v5 := HFZ.out _ hba (k * 8 + 5)
      have v6 := HFZ.out _ hba (k * 8 + 6)
      have v7 := HFZ.out _ hba (k * 8 + 7)
      obtain ⟨tA, tc, htrv⟩ := rwat_len hrx.rows
      obtain ⟨tB, td, htkv⟩ := ksat_len hrx.ks
      have hfin := HFIN.out _ hba t'
      rw [htrv, htkv] at hfin
      rw [show t'.v = .agg #[.int .i64 t'.k, .string t'.ch, .bool t'.nt, .slice tA t'.rows.length tc, .int .i64 t'.mi, .int .i64 t'.ma, .bool t'.lz, .slice tB t'.kids.length td] by unfold Rt.v Rt.cs; rw [htrv, htkv]]
      have HFN := hide hfin
      have HBB := hide hba
      have HFR := hide (hfr.mono (show w.heap.size + 1 ≤ (wr.alloc _).heap.size by simp; omega))
      have HRX := hide hrx
      have HER := hide her
      have hsz := hba.size
      clear hba hb2 hfin hfr hrx her htrv htkv x0 x1 x2 x3 x4 x5 x6 x7 z0 z1 z2 z3 z4 z5 z6 z7
      go_wp2
      refine ⟨?_, by first | (simp [intOf]; done) | (simp [intOf]; omega)⟩
      refine ⟨k + 1, L.set k t', by go_num, by omega, by simp [HLL.out.1], hide HFN.out, hide ?_, ?_, hide ?_⟩
      · exact bl8 (bl_trans HBL.out HBB.out) (Nat.le_refl _) _ _ _ _ _ _ _ _ _ _ _ _ _ _ _ _
      · simp [World.setCell]; omega
      · intro i h1 h2 h3
        by_cases hik : i = k
        · subst hik
          simp only [List.getElem_set_self]
          exact ⟨HER.out.trans (by rw [HP.out]), rx_kept HRX.out HFR.out (kept8 _ (Nat.lt_succ_self _) _ _ _ _ _ _ _ _ _ _ _ _ _ _ _ _), HFR.out⟩
        · have hik2 : k ≠ i := fun e => hik e.symm
          simp only [List.getElem_set_ne hik2]
          obtain ⟨a1, a2, a3⟩ := HALL.out i (by omega) (by simpa using h2) h3
          exact ⟨a1, rx_kept a2 a3 (kept_trans (kept_below HBB.out) (kept8 _ (Nat.lt_succ_self _) _ _ _ _ _ _ _ _ _ _ _ _ _ _ _ _)), a3⟩
    · obtain rfl : k = l.length := by omega
      have ho := HROW.out
      have HAL := hide (fun i (h1 : i < L.length) => HALL.out i (by omega) h1 (by omega))
      have gl : decide (l.length < l.length) = false := by simp
      have gl' : decide ((l.length : Int) < (l.length : Int)) = false := by simp
      have HKS := hide (show KsAt wr (.slice (some ⟨w.heap.size, 0, none⟩) l.length l.length) L from own_ksat (base := w.heap.size) (by rw [hL]; exact ho))
      clear ho
      go_wp2
      go_ret
      refine ⟨_, L, rfl, HBL.out, HKS.out, (fun x len c h => by cases h; exact Nat.le_refl _), fun x hx => ?_, fun x hx => ?_, ?_⟩
      · obtain ⟨i, hi, rfl⟩ := List.mem_iff_getElem.1 hx
        exact (HAL.out i hi).2.1
      · obtain ⟨i, hi, rfl⟩ := List.mem_iff_getElem.1 hx
        exact (HAL.out i hi).2.2.mono (Nat.le_succ _)
      · apply List.ext_getElem
        · simp [hL]
        · intro i h1 h2
          simp only [List.getElem_map]
          exact (HAL.out i (by simpa using h1)).1
end
section
open Go.ChangeShapes Go.WideShapes Go.ChangeAt Go.RowKit
open SetM
attribute [local go_sem ↓] Go.wp_at_zero Go.wp_at_succ
set_option maxRecDepth 100000
set_option linter.unusedVariables false
theorem sM_pos (t : Rt) : 1 ≤ sM t := by rw [sM_eq]; omega
theorem sL_len (l : List Rt) : l.length ≤ sL l := by
  induction l with
  | nil => simp
  | cons a l ih => rw [sL, List.length_cons]; have := sM_pos a; omega
set_option maxHeartbeats 16000000 in
theorem deeprx_any {w0 : World} {t : Rt} (h : RxAt w0 t) : sM t ≤ 100000 → ∀ w, Below w0.heap.size w0 w → Calls Tryz.prog 39 #[t.v] w (DpPost t w) := by
  induction h with
  | mk t hr hk hs ih =>
    intro hz w hb0
    have hM := sM_eq t
    have hl1 := rwS_len t.rows
    have hl2 := sL_len t.kids
    have HRC := hide (fun W (hb : Below w0.heap.size w0 W) => listrows_any _ _ W (rwat_below hr hb) (by omega))
    have HKC := hide (fun W (hb : Below w0.heap.size w0 W) => eachrx_any _ _ w0 hk hs (by omega) (fun i hi W2 hb2 => ih i hi (by have := sL_kid t.kids i hi; omega) W2 hb2) W hb)
    have HB0 := hide hb0
    have HBO := hide (fun o1 o2 => bl_alloc (bl_alloc (bl_refl w) o1) o2)
    have hsz0 := hb0.size
    obtain ⟨A, c, hkv⟩ := ksat_len hk
    obtain ⟨RA, rc, hrv⟩ := rwat_len hr
    rw [hkv] at HKC
    rw [hrv] at HRC
    unfold DpPost
    unfold RwPost at HRC
    unfold EpPost at HKC
    rw [show t.v = .agg #[.int .i64 t.k, .string t.ch, .bool t.nt, .slice RA t.rows.length rc, .int .i64 t.mi, .int .i64 t.ma, .bool t.lz, .slice A t.kids.length c] by unfold Rt.v Rt.cs; rw [hkv, hrv]]
    have FJ := hide (fun o2 j u (hu : (#[Value.int .i64 t.k, .string t.ch, .bool t.nt, .slice RA t.rows.length rc, .int .i64 t.mi, .int .i64 t.ma, .bool t.lz, .slice A t.kids.length c] : Array Value).toList[j]? = some u) => cell_later (bl_alloc (bl_refl _) o2) (cells_lit w _ 25 j u hu))
    clear hr hk hs ih hb0 hz hM hl1 hl2 hkv hrv
    go_enter Tryz.func39, Tryz.ntmps39
    go_wp2_with fail
    refine (HRC.out _ (bl_trans HB0.out (HBO.out _ _))).mono ?_
    rintro e w2 ⟨rv', rfl, hb2, hrw, hfv⟩
    obtain ⟨nA, nc, rfl⟩ := rwat_len hrw
    have c0 : w2.cell? ⟨w.heap.size, 0, none⟩ = some (.int .i64 t.k) := cell_later hb2 (FJ.out _ 0 _ rfl)
    have c1 : w2.cell? ⟨w.heap.size, 1, none⟩ = some (.string t.ch) := cell_later hb2 (FJ.out _ 1 _ rfl)
    have c2 : w2.cell? ⟨w.heap.size, 2, none⟩ = some (.bool t.nt) := cell_later hb2 (FJ.out _ 2 _ rfl)
    have c3 : w2.cell? ⟨w.heap.size, 3, none⟩ = some (.slice RA t.rows.length rc) := cell_later hb2 (FJ.out _ 3 _ rfl)
    have c4 : w2.cell? ⟨w.heap.size, 4, none⟩ = some (.int .i64 t.mi) := cell_later hb2 (FJ.out _ 4 _ rfl)
    have c5 : w2.cell? ⟨w.heap.size, 5, none⟩ = some (.int .i64 t.ma) := cell_later hb2 (FJ.out _ 5 _ rfl)
    have c6 : w2.cell? ⟨w.heap.size, 6, none⟩ = some (.bool t.lz) := cell_later hb2 (FJ.out _ 6 _ rfl)
    have c7 : w2.cell? ⟨w.heap.size, 7, none⟩ = some (.slice A t.kids.length c) := cell_later hb2 (FJ.out _ 7 _ rfl)
    have z0 : w2.cell? ⟨w.heap.size + 1, 0, none⟩ = some (.int .i64 0) := cell_later hb2 (cells_lit2 _ _ _ 0 _ rfl (by simp))
    have z1 : w2.cell? ⟨w.heap.size + 1, 1, none⟩ = some (.string ⟨#[]⟩) := cell_later hb2 (cells_lit2 _ _ _ 1 _ rfl (by simp))
    have z2 : w2.cell? ⟨w.heap.size + 1, 2, none⟩ = some (.bool false) := cell_later hb2 (cells_lit2 _ _ _ 2 _ rfl (by simp))
    have z3 : w2.cell? ⟨w.heap.size + 1, 3, none⟩ = some (.slice none 0 0) := cell_later hb2 (cells_lit2 _ _ _ 3 _ rfl (by simp))
    have z4 : w2.cell? ⟨w.heap.size + 1, 4, none⟩ = some (.int .i64 0) := cell_later hb2 (cells_lit2 _ _ _ 4 _ rfl (by simp))
    have z5 : w2.cell? ⟨w.heap.size + 1, 5, none⟩ = some (.int .i64 0) := cell_later hb2 (cells_lit2 _ _ _ 5 _ rfl (by simp))
    have z6 : w2.cell? ⟨w.heap.size + 1, 6, none⟩ = some (.bool false) := cell_later hb2 (cells_lit2 _ _ _ 6 _ rfl (by simp))
    have z7 : w2.cell? ⟨w.heap.size + 1, 7, none⟩ = some (.slice none 0 0) := cell_later hb2 (cells_lit2 _ _ _ 7 _ rfl (by simp))
    have hf1 : ∀ o, w2.frozen? ⟨w.heap.size, o, none⟩ = false := fun o => (hb2.frozen (p := ⟨w.heap.size, o, none⟩) (by simp; omega)).trans (by go_simp)
    have hf2 : ∀ o, w2.frozen? ⟨w.heap.size + 1, o, none⟩ = false := fun o => (hb2.frozen (p := ⟨w.heap.size + 1, o, none⟩) (by simp)).trans (by go_simp)
    have HB2 := hide (bl_trans (HBO.out _ _) hb2)
    have HRW := hide hrw
    have HFV := hide (hfv.mono (show w.heap.size + 2 ≤ _ by simp))
    have hs2 : w.heap.size + 1 < w2.heap.size := by have := hb2.size; simp at this; omega
    clear hb2 hrw hfv FJ HRC
    go_wp2_with fail
    have HBS := hide (show Below w.heap.size w (w2.setCell ⟨w.heap.size, 3, none⟩ (.slice nA t.rows.length nc)) from bl_set HB2.out (Nat.le_refl _) _)
    refine (HKC.out _ (bl_trans HB0.out HBS.out)).mono ?_
    rintro e w3 ⟨kv', L, rfl, hb3, hks, hfk, hrl, hfl, hel⟩
    obtain ⟨kA, kc, rfl⟩ := ksat_len hks
    have d0 : w3.cell? ⟨w.heap.size, 0, none⟩ = some (.int .i64 t.k) := cell_later hb3 (by go_simp)
    have d1 : w3.cell? ⟨w.heap.size, 1, none⟩ = some (.string t.ch) := cell_later hb3 (by go_simp)
    have d2 : w3.cell? ⟨w.heap.size, 2, none⟩ = some (.bool t.nt) := cell_later hb3 (by go_simp)
    have d3 : w3.cell? ⟨w.heap.size, 3, none⟩ = some (.slice nA t.rows.length nc) := cell_later hb3 (by go_simp)
    have d4 : w3.cell? ⟨w.heap.size, 4, none⟩ = some (.int .i64 t.mi) := cell_later hb3 (by go_simp)
    have d5 : w3.cell? ⟨w.heap.size, 5, none⟩ = some (.int .i64 t.ma) := cell_later hb3 (by go_simp)
    have d6 : w3.cell? ⟨w.heap.size, 6, none⟩ = some (.bool t.lz) := cell_later hb3 (by go_simp)
    have d7 : w3.cell? ⟨w.heap.size, 7, none⟩ = some (.slice A t.kids.length c) := cell_later hb3 (by go_simp)
    have y0 : w3.cell? ⟨w.heap.size + 1, 0, none⟩ = some (.int .i64 0) := cell_later hb3 (by go_simp)
    have y1 : w3.cell? ⟨w.heap.size + 1, 1, none⟩ = some (.string ⟨#[]⟩) := cell_later hb3 (by go_simp)
    have y2 : w3.cell? ⟨w.heap.size + 1, 2, none⟩ = some (.bool false) := cell_later hb3 (by go_simp)
    have y3 : w3.cell? ⟨w.heap.size + 1, 3, none⟩ = some (.slice none 0 0) := cell_later hb3 (by go_simp)
    have y4 : w3.cell? ⟨w.heap.size + 1, 4, none⟩ = some (.int .i64 0) := cell_later hb3 (by go_simp)
    have y5 : w3.cell? ⟨w.heap.size + 1, 5, none⟩ = some (.int .i64 0) := cell_later hb3 (by go_simp)
    have y6 : w3.cell? ⟨w.heap.size + 1, 6, none⟩ = some (.bool false) := cell_later hb3 (by go_simp)
    have y7 : w3.cell? ⟨w.heap.size + 1, 7, none⟩ = some (.slice none 0 0) := cell_later hb3 (by go_simp)
    have g1 : ∀ o, w3.frozen? ⟨w.heap.size, o, none⟩ = false := fun o => (hb3.frozen (p := ⟨w.heap.size, o, none⟩) (by simp [World.setCell]; omega)).trans (by go_simp)
    have g2 : ∀ o, w3.frozen? ⟨w.heap.size + 1, o, none⟩ = false := fun o => (hb3.frozen (p := ⟨w.heap.size + 1, o, none⟩) (by simp [World.setCell]; omega)).trans (by go_simp)
    have HB3 := hide (bl_trans HBS.out hb3)
    have hsz3 : w.heap.size + 2 ≤ (w2.setCell ⟨w.heap.size, 3, none⟩ (.slice nA t.rows.length nc)).heap.size := by simp [World.setCell]; omega
    have HRW3 := hide (show RwAt w3 (.slice nA t.rows.length nc) t.rows from rwat_kept HRW.out HFV.out (kept_trans (kept_set w2 (show w.heap.size < w.heap.size + 2 by omega) _) (kept_below hb3)))
    have HKS := hide hks
    have HFK := hide (hfk.mono hsz3)
    have HRL := hide hrl
    have HFL := hide (fun x hx => (hfl x hx).mono hsz3)
    have HEL := hide hel
    clear hb3 hks hfk hrl hfl hel hsz3 hf1 hf2 c0 c1 c2 c3 c4 c5 c6 c7 z0 z1 z2 z3 z4 z5 z6 z7 HKC HRW
    go_wp2
    refine bodyPost_ret (v := .agg #[.int .i64 t.k, .string t.ch, .bool t.nt, .slice nA t.rows.length nc, .int .i64 t.mi, .int .i64 t.ma, .bool t.lz, .slice kA L.length kc]) ?_ rfl ⟨Rt.mk t.k t.ch t.nt (.slice nA t.rows.length nc) t.rows t.mi t.ma t.lz (.slice kA L.length kc) L, rfl, ?_, ?_, ?_, ?_⟩
    · rw [results_cell1 rfl]
      go_simp
    · exact bl8 (bl_set HB3.out (Nat.le_refl _) _) (Nat.le_succ _) _ _ _ _ _ _ _ _ _ _ _ _ _ _ _ _
    · have hkp := fun o0 u0 o1 u1 o2 u2 o3 u3 o4 u4 o5 u5 o6 u6 o7 u7 uu => kept_trans (kept_set w3 (p := ⟨w.heap.size, 7, none⟩) (n := w.heap.size + 2) (show w.heap.size < w.heap.size + 2 by omega) uu) (kept8 _ (show w.heap.size + 1 < w.heap.size + 2 by omega) o0 u0 o1 u1 o2 u2 o3 u3 o4 u4 o5 u5 o6 u6 o7 u7)
      exact .mk _ (rwat_kept HRW3.out HFV.out (hkp _ _ _ _ _ _ _ _ _ _ _ _ _ _ _ _ _)) (ksat_kept HKS.out HFK.out (hkp _ _ _ _ _ _ _ _ _ _ _ _ _ _ _ _ _)) (fun i hi => rx_kept (HRL.out _ (List.getElem_mem hi)) (HFL.out _ (List.getElem_mem hi)) (hkp _ _ _ _ _ _ _ _ _ _ _ _ _ _ _ _ _))
    · exact .mk _ (HFV.out.mono (by omega)) (HFK.out.mono (by omega)) (fun x hx => (HFL.out x hx).mono (by omega))
    · rw [er_eq t, er_eq]
      show Rt.mk _ _ _ _ _ _ _ _ _ (L.map er) = _
      rw [HEL.out]
      rfl
end
section
open Go.ChangeShapes Go.WideShapes Go.ChangeAt Go.RowKit
open SetM
set_option linter.unusedVariables false
def OffV (g : Nat) (v : Value) : Prop := ∀ x len c, v = .slice (some x) len c → 0 < len → x.block ≠ g
inductive Off (g : Nat) : Rt → Prop
  | mk (t : Rt) (hr : OffV g t.rv) (hk : OffV g t.kv) (hs : ∀ x ∈ t.kids, Off g x) : Off g t
theorem off_fr {n g : Nat} {t : Rt} (h : Fr n t) (hg : g < n) : Off g t := by
  induction h with
  | mk t hr hk hs ih => exact .mk t (fun x len c e _ => by have := hr x len c e; omega) (fun x len c e _ => by have := hk x len c e; omega) ih
theorem off_new {w : World} {g : Nat} {t : Rt} (h : RxAt w t) (hg : w.heap.size ≤ g) : Off g t := by
  induction h with
  | mk t hr hk hs ih =>
    refine .mk t (fun x len c e hp => ?_) (fun x len c e hp => ?_) (fun x hx => ?_)
    · obtain ⟨A, c', hv⟩ := rwat_len hr
      rw [e] at hv
      injection hv with _ hl _
      obtain ⟨b, off, c2, hv2, _, _, hlt, _⟩ := rwat_some hr (by omega)
      rw [e] at hv2
      injection hv2 with hx _ _
      injection hx with hx
      subst hx
      show b ≠ g
      omega
    · obtain ⟨A, c', hv⟩ := ksat_len hk
      rw [e] at hv
      injection hv with _ hl _
      obtain ⟨b, off, c2, hv2, _, _, hlt, _⟩ := ksat_some hk (by omega)
      rw [e] at hv2
      injection hv2 with hx _ _
      injection hx with hx
      subst hx
      show b ≠ g
      omega
    · obtain ⟨i, hi, rfl⟩ := List.mem_iff_getElem.1 hx
      exact ih i hi
theorem cell_off {w w' : World} {g : Nat} (hw : w.grownBy w' (some g)) {p : Addr} {v : Value} (hp : p.block ≠ g) (hc : w.cell? p = some v) : w'.cell? p = some v := by
  rw [World.cell?_of_block (w := w) (hw.block p.block (World.block_lt_of_cell? w p hc) (fun e => hp (by cases e; rfl)))]
  exact hc
theorem rwat_off {w w' : World} {g : Nat} {v : Value} {l : List Rw} (h : RwAt w v l) (hf : OffV g v) (hw : w.grownBy w' (some g)) : RwAt w' v l := by
  rcases h with h | ⟨x, c, rfl, h1, h2, h3⟩
  · exact .inl h
  · refine .inr ⟨x, c, rfl, h1, h2, fun i hi => ?_⟩
    have hx := hf x _ _ rfl (by omega)
    exact ⟨cell_off hw (by rw [addr_blk]; exact hx) (h3 i hi).1, cell_off hw (by rw [addr_blk]; exact hx) (h3 i hi).2⟩
theorem ksat_off {w w' : World} {g : Nat} {v : Value} {l : List Rt} (h : KsAt w v l) (hf : OffV g v) (hw : w.grownBy w' (some g)) : KsAt w' v l := by
  rcases h with h | ⟨x, c, rfl, h1, h2, h3⟩
  · exact .inl h
  · refine .inr ⟨x, c, rfl, h1, h2, fun i hi j u hu => ?_⟩
    have hx := hf x _ _ rfl (by omega)
    exact cell_off hw (by rw [addr_blk]; exact hx) (h3 i hi j u hu)
theorem rx_off {w w' : World} {g : Nat} {t : Rt} (h : RxAt w t) (hf : Off g t) (hw : w.grownBy w' (some g)) : RxAt w' t := by
  induction h with
  | mk t hr hk hs ih =>
    obtain ⟨_, f1, f2, f3⟩ := hf
    exact .mk t (rwat_off hr f1 hw) (ksat_off hk f2 hw) (fun i hi => ih i hi (f3 _ (List.getElem_mem hi)))
/-- The parts' own cells as the source of an append. -/
theorem ksat_src {w : World} {A : Option Addr} {c : Nat} {l : List Rt} (h : KsAt w (.slice A l.length c) l) : Src w 8 A l.length (flatX l) := by
  refine ⟨flatX_len l, ?_⟩
  rcases h with ⟨_, rfl⟩ | ⟨x, c', hv, _, _, hc⟩
  · exact .inl rfl
  · injection hv with hv _ _
    refine .inr ⟨x, hv, fun j u hu => ?_⟩
    have hj : j < l.length * 8 := by have := (List.getElem?_eq_some_iff.1 hu).1; rwa [flatX_len] at this
    have hq : j / 8 < l.length := by omega
    have hr8 : j % 8 < (l[j / 8].cs).length := by show j % 8 < 8; omega
    have h1 := flatX_at l (j / 8) hq (j % 8) _ (List.getElem?_eq_getElem hr8)
    have h2 := hc (j / 8) hq (j % 8) _ (List.getElem?_eq_getElem hr8)
    rw [show j / 8 * 8 + j % 8 = j by omega] at h1 h2
    rw [hu] at h1
    rw [Option.some.inj h1]
    exact h2
end
section
open Go.ChangeShapes Go.WideShapes Go.ChangeAt Go.RowKit
open SetM
attribute [local go_sem ↓] Go.wp_at_zero Go.wp_at_succ
set_option maxRecDepth 100000
set_option linter.unusedVariables false
section
variable {P : Program}
theorem run_app_src5 (w : World) (base : Nat) (t ty e : TypeId) (i : TypeInfo) (z : Value) (size bytes : Nat) (ht : P.underlying t = some (.slice e)) (hi : P.info? e = some i) (hz : i.zero = some z)
    (hsize : i.size = size) (hby : i.bytes = bytes) (hzs : z.cells.size = size) (hsz : 0 < size)
    (v : Value) (n : Nat) (xs : List Value) (hown : w.ownsRow base e size v n xs)
    (A : Option Addr) (m c : Nat) (news : List Value) (hr : Src w size A m news) (h1 : ∀ u ∈ news, u.oneCell' = true)
    (h63 : n + m ≤ 100000000) (hbytes : bytes ≤ 1000) (hbase : base ≤ w.heap.size) :
    ∃ v' w', (Builtin.append_ #[t, t] ty #[v, .slice A m c]).run P w = .ok v' w' ∧ w'.ownsRow base e size v' (n + m) (xs ++ news) ∧ w.grownBy w' v.ownBlock ∧ (v'.ownBlock = v.ownBlock ∨ ∃ k, v'.ownBlock = some k ∧ w.heap.size ≤ k) := by
  have hb2 : (n + m) * bytes ≤ 100000000 * 1000 := Nat.mul_le_mul h63 hbytes
  cases A with
  | none =>
    rcases hr.2 with rfl | ⟨ad, hA, _⟩
    · have hn : news = [] := List.eq_nil_of_length_eq_zero (by rw [hr.1]; omega)
      subst hn
      refine ⟨v, w, ?_, by simpa using hown, grown_refl w _, .inl rfl⟩
      rcases own_form hown with ⟨rfl, _⟩ | ⟨g, cap, rfl, _, _, hnc, _⟩
      · simp [Builtin.append_, run_underlying ht, sizeOf, typeInfo, hi, Builtin.lenOf, Builtin.firstCells]
      · simp [Builtin.append_, run_underlying ht, sizeOf, typeInfo, hi, Builtin.lenOf, Builtin.firstCells, hnc, storeCells]
    · cases hA
  | some ad =>
    have hc : ∀ j u, news[j]? = some u → w.cell? (ad.add j) = some u := by
      rcases hr.2 with rfl | ⟨ad', hA, hc⟩
      · have hn : news = [] := List.eq_nil_of_length_eq_zero (by rw [hr.1]; omega)
        subst hn
        intro j u hu; simp at hu
      · injection hA with hA
        subst hA; exact hc
    obtain ⟨v', w', h2, h3, h4, h5⟩ := run_append_own_at (P := P) w base t ty e i z size bytes ht hi hz hsize hby hzs hsz v n xs hown ad m c news hr.1 hc h1 (by simp only [maxLen]; omega) (by omega) hbase
    refine ⟨v', w', h2, h3, h4, ?_⟩
    first
      | exact h5
      | exact h5.2
      | (rcases h5.2 with h | h; exact .inl h; exact .inr ⟨_, h, Nat.le_refl _⟩)
      | (rcases h5 with h | h; exact .inl h; exact .inr ⟨_, h, Nat.le_refl _⟩)
theorem wpList_src5 {ops : Array Oper} {rest : List Oper} {o : Oper} {a : Act} {Q : Exit → Act → World → Prop} (w : World) (hgd : o.guard = none) (s x : Operand) (t : TypeId)
    (ho : o.op = .call { callee := .builtin .append, args := #[s, x], argTypes := #[t, t] })
    (base : Nat) (e : TypeId) (i : TypeInfo) (z : Value) (size bytes : Nat) (ht : P.underlying t = some (.slice e)) (hi : P.info? e = some i) (hz : i.zero = some z)
    (hsize : i.size = size) (hby : i.bytes = bytes) (hzs : z.cells.size = size) (hsz : 0 < size)
    (v : Value) (n : Nat) (xs : List Value) (hs : a.eval s = v) (hown : w.ownsRow base e size v n xs)
    (A : Option Addr) (m c : Nat) (news : List Value) (hx : a.eval x = .slice A m c) (hr : Src w size A m news) (h1 : ∀ u ∈ news, u.oneCell' = true)
    (h63 : n + m ≤ 100000000) (hbytes : bytes ≤ 1000) (hbase : base ≤ w.heap.size)
    (h : ∀ v' w', w'.ownsRow base e size v' (n + m) (xs ++ news) → w.grownBy w' v.ownBlock → (v'.ownBlock = v.ownBlock ∨ ∃ k, v'.ownBlock = some k ∧ w.heap.size ≤ k) → wpList P ops Q rest (a.put o.dst v') w') : wpList P ops Q (o :: rest) a w :=
  wpList_plain hgd fun _ hK => by
    obtain ⟨v', w', hrun, h2, h3, h5⟩ := run_app_src5 (P := P) w base t o.type e i z size bytes ht hi hz hsize hby hzs hsz v n xs hown A m c news hr h1 h63 hbytes hbase
    unfold Oper.wp execOp
    simp only [ho, resolve, invoke, builtin, Sem.run_bind, Sem.run_pure, Result.andThen_ok, List.map_toArray, List.map_cons, List.map_nil, hs, hx, hrun]
    exact hK _ _ (h v' w' h2 h3 h5)
end
theorem rx_row {w w' : World} {row : Option Nat} {t : Rt} (h : RxAt w t) (hf : ∀ g, row = some g → Off g t) (hw : w.grownBy w' row) : RxAt w' t := by
  cases row with
  | none => exact rx_below h (bl_grown (bl_refl w) hw (fun k hk => by cases hk))
  | some g => exact rx_off h (hf g rfl) hw
theorem er_k {a b : Rt} (h : er a = er b) : a.k = b.k ∧ a.kids.map er = b.kids.map er ∧ a.kids.length = b.kids.length := by
  rw [er_eq, er_eq] at h
  injection h with h1 h2 h3 h4 h5 h6 h7 h8 h9 h10
  exact ⟨h1, h10, by simpa using congrArg List.length h10⟩
/-- What flatten makes: the parts, those of a kind replaced by theirs. -/
def flK (kind : Int) (l : List Rt) : List Rt := l.flatMap (fun t => if t.k = kind then t.kids.map er else [er t])
theorem flK_snoc (kind : Int) (l : List Rt) (k : Nat) (h : k < l.length) : flK kind (l.take (k + 1)) = flK kind (l.take k) ++ (if l[k].k = kind then l[k].kids.map er else [er l[k]]) := by
  unfold flK; rw [List.take_succ_eq_append_getElem h, List.flatMap_append]; simp only [List.flatMap_cons, List.flatMap_nil, List.append_nil]
theorem flatX_app (l m : List Rt) : flatX (l ++ m) = flatX l ++ flatX m := by simp [flatX]
theorem one_cellX {w : World} (l : List Rt) (hl : ∀ x ∈ l, RxAt w x) : ∀ u ∈ flatX l, u.oneCell' = true := by
  intro u hu
  simp only [flatX, List.mem_flatMap] at hu
  obtain ⟨t, ht, hu⟩ := hu
  obtain ⟨A, c, h1⟩ := rwat_len (hl t ht).rows
  obtain ⟨B, d, h2⟩ := ksat_len (hl t ht).ks
  unfold Rt.cs at hu
  rw [h1, h2] at hu
  simp at hu
  rcases hu with rfl | rfl | rfl | rfl | rfl | rfl | rfl | rfl <;> rfl
def FpPost (kind : Int) (l : List Rt) (w : World) : Ending → World → Prop := fun e w' => ∃ v' L, e = .returned v' ∧ Below w.heap.size w w' ∧ KsAt w' v' L ∧ FrV w.heap.size v' ∧ (∀ x ∈ L, RxAt w' x) ∧ (∀ x ∈ L, Fr w.heap.size x) ∧ L.map er = flK kind l
def FInv (Q : Rt → Prop) (kind : Int) (l : List Rt) (w : World) (s i : Value) (wr : World) : Prop :=
  ∃ (k : Nat) (L : List Rt) (A : Option Addr) (c : Nat), i = .int .i64 k ∧ s = .slice A L.length c ∧ k ≤ l.length ∧ L.length ≤ sL (l.take k) ∧ Hid (wr.ownsRow w.heap.size 25 8 (.slice A L.length c) L.length (flatX L)) ∧ Hid (Below w.heap.size w wr) ∧ Hid (∀ x ∈ L, (RxAt wr x ∧ ∀ g, (Value.slice A L.length c).ownBlock = some g → Off g x) ∧ Q x) ∧ Hid (L.map er = flK kind (l.take k))
/-- The step: what is appended keeps the relation. -/
theorem finv_step {Q : Rt → Prop} {kind : Int} {l : List Rt} {w w3 w4 : World} {k : Nat} (hk : k < l.length) {L M : List Rt} {A : Option Addr} {c : Nat} {v' : Value}
    (hL : ∀ x ∈ L, (RxAt w3 x ∧ ∀ g, (Value.slice A L.length c).ownBlock = some g → Off g x) ∧ Q x) (hM : ∀ x ∈ M, (RxAt w3 x ∧ ∀ g, (Value.slice A L.length c).ownBlock = some g → Off g x) ∧ Q x)
    (ho : w4.ownsRow w.heap.size 25 8 v' (L.length + M.length) (flatX L ++ flatX M)) (hg : w3.grownBy w4 (Value.slice A L.length c).ownBlock)
    (h5 : v'.ownBlock = (Value.slice A L.length c).ownBlock ∨ ∃ k, v'.ownBlock = some k ∧ w3.heap.size ≤ k) (hb : Below w.heap.size w w4) (hlen : L.length ≤ sL (l.take k)) (hm : M.length ≤ sM l[k])
    (hE : L.map er = flK kind (l.take k)) (hE2 : M.map er = if l[k].k = kind then l[k].kids.map er else [er l[k]]) : FInv Q kind l w v' (.int .i64 ((k : Int) + 1)) w4 := by
  obtain ⟨B, d, rfl⟩ := own_slice ho
  refine ⟨k + 1, L ++ M, B, d, by simp, by simp, by omega, ?_, hide ?_, hide hb, hide ?_, hide ?_⟩
  · rw [sL_snoc l k hk, List.length_append]; omega
  · rw [List.length_append, flatX_app]; exact ho
  · intro x hx
    have h6 : (RxAt w3 x ∧ ∀ g, (Value.slice A L.length c).ownBlock = some g → Off g x) ∧ Q x := by
      rcases List.mem_append.1 hx with h | h
      · exact hL x h
      · exact hM x h
    refine ⟨⟨rx_row h6.1.1 h6.1.2 hg, fun g hg2 => ?_⟩, h6.2⟩
    rw [List.length_append] at hg2
    rcases h5 with h5 | ⟨k2, h5, h7⟩
    · exact h6.1.2 g (by rw [← h5]; exact hg2)
    · rw [h5] at hg2
      injection hg2 with hg2
      subst hg2
      exact off_new h6.1.1 h7
  · rw [List.map_append, hE, hE2, flK_snoc kind l k hk]
end
section
open Go.ChangeShapes Go.WideShapes Go.ChangeAt Go.RowKit
open SetM
attribute [local go_sem ↓] Go.wp_at_zero Go.wp_at_succ
set_option maxRecDepth 100000
set_option linter.unusedVariables false
theorem sL_take (l : List Rt) (k : Nat) : sL (l.take k) ≤ sL l := by
  have h2 : sL l = sL (l.take k) + sL (l.drop k) := by rw [← sL_app, List.take_append_drop]
  omega
set_option maxHeartbeats 16000000 in
theorem flatten_any (kind : Int) (v : Value) (l : List Rt) (w : World) (h : KsAt w v l) (hx : ∀ i (hi : i < l.length), RxAt w l[i]) (hz : sL l ≤ 100000) :
    Calls Tryz.prog 25 #[.int .i64 kind, v] w (FpPost kind l w) := by
  obtain ⟨i0, hi0, hz0', hz1, hz2⟩ := info_parts info_rx
  obtain ⟨vA, vc, rfl⟩ := ksat_len h
  have H := hide h
  have HX := hide hx
  have hll := sL_len l
  have HDC := hide (fun i (hi : i < l.length) W (hb : Below w.heap.size w W) => deeprx_any (hx i hi) (by have := sL_kid l i hi; omega) W hb)
  have HZ := hide hz
  unfold FpPost
  unfold DpPost at HDC
  have hst : FInv (Fr w.heap.size) kind l w (.slice none 0 0) (.int .i64 0) w := ⟨0, [], none, 0, rfl, rfl, Nat.zero_le _, by simp, hide ⟨by simp [flatX], .inl ⟨rfl, rfl⟩⟩, hide (bl_refl w), hide (fun x hx => by cases hx), hide (by simp [flK])⟩
  have HST0 := hide hst
  clear h hx hst hz
  go_enter Tryz.func25, Tryz.ntmps25
  go_wp2
  go_loopw [5, 10] (fun s i wr => FInv (Fr w.heap.size) kind l w s i wr) (fun _ i _ => l.length - (intOf i).toNat)
  case atStart => exact HST0.out
  case round =>
    obtain ⟨k, L, A, c, rfl, rfl, hk, hlen, HROW, HBL, HALL, HE⟩ := hrel
    by_cases hlt : k < l.length
    · obtain ⟨b1, o1, c1', hv1, hc1, hm1, hlb1, hcell1⟩ := ksat_8 (ksat_below H.out HBL.out) (by omega)
      injection hv1 with hv1 _ hv1c
      subst hv1 hv1c
      unfold maxLen at hm1
      obtain ⟨x0, x1, x2, x3, x4, x5, x6, x7⟩ := hcell1 k hlt
      have HC := fun W hb => HDC.out k hlt W hb
      have hxp := HX.out k hlt
      clear hcell1
      obtain ⟨p, hp⟩ : ∃ p, l[k] = p := ⟨_, rfl⟩
      rw [hp] at x0 x1 x2 x3 x4 x5 x6 x7 HC hxp
      obtain ⟨pA, pc, hprv⟩ := rwat_len hxp.rows
      obtain ⟨pB, pd, hpkv⟩ := ksat_len hxp.ks
      rw [show p.v = .agg #[.int .i64 p.k, .string p.ch, .bool p.nt, .slice pA p.rows.length pc, .int .i64 p.mi, .int .i64 p.ma, .bool p.lz, .slice pB p.kids.length pd] by unfold Rt.v Rt.cs; rw [hprv, hpkv]] at HC
      rw [hprv] at x3
      rw [hpkv] at x7
      have HP := hide hp
      have HKL := hide hlt
      have hlk : p.kids.length ≤ 100000 := by
        have h1 := sL_kid l k hlt
        have h2 := sM_eq p
        have h3 := sL_len p.kids
        have h4 := HZ.out
        rw [hp] at h1
        omega
      have hlL : L.length ≤ 100000 := by have h4 := HZ.out; have := sL_take l k; omega
      have HLEN := hide hlen
      have HMM := hide (show p.kids.length ≤ sM (l[k]'hlt) ∧ 1 ≤ sM (l[k]'hlt) by
        rw [hp]
        have h2 := sM_eq p
        have h3 := sL_len p.kids
        omega)
      have HC2 := hide HC
      clear hxp hprv hpkv hp HC hlen
      have gl : decide (k < l.length) = true := decide_eq_true hlt
      have gl' : decide ((k : Int) < (l.length : Int)) = true := decide_eq_true (by omega)
      have e5 : IntKind.i64.wrap ((k : Int) + 1) = (k : Int) + 1 := by rw [IntKind.wrap_i64]; omega
      go_wp2_with fail
      refine (HC2.out _ (bl_trans HBL.out (bl_alloc (bl_refl wr) _))).mono ?_
      rintro e w2 ⟨t', rfl, hb2, hrx, hfr, her⟩
      obtain ⟨tA, tc, htrv⟩ := rwat_len hrx.rows
      obtain ⟨tB, td, htkv⟩ := ksat_len hrx.ks
      obtain ⟨ek, em, el⟩ := er_k her
      have HTK := hide htkv
      have HCS := hide (show t'.cs = [.int .i64 t'.k, .string t'.ch, .bool t'.nt, .slice tA t'.rows.length tc, .int .i64 t'.mi, .int .i64 t'.ma, .bool t'.lz, .slice tB t'.kids.length td] by unfold Rt.cs; rw [htrv, htkv])
      rw [show t'.v = .agg #[.int .i64 t'.k, .string t'.ch, .bool t'.nt, .slice tA t'.rows.length tc, .int .i64 t'.mi, .int .i64 t'.ma, .bool t'.lz, .slice tB t'.kids.length td] by unfold Rt.v Rt.cs; rw [htrv, htkv]]
      have c0 : w2.cell? ⟨wr.heap.size, 0, none⟩ = some (.int .i64 p.k) := cell_later hb2 (cells_lit wr _ _ 0 _ rfl)
      have c1 : w2.cell? ⟨wr.heap.size, 1, none⟩ = some (.string p.ch) := cell_later hb2 (cells_lit wr _ _ 1 _ rfl)
      have c2 : w2.cell? ⟨wr.heap.size, 2, none⟩ = some (.bool p.nt) := cell_later hb2 (cells_lit wr _ _ 2 _ rfl)
      have c3 : w2.cell? ⟨wr.heap.size, 3, none⟩ = some (.slice pA p.rows.length pc) := cell_later hb2 (cells_lit wr _ _ 3 _ rfl)
      have c4 : w2.cell? ⟨wr.heap.size, 4, none⟩ = some (.int .i64 p.mi) := cell_later hb2 (cells_lit wr _ _ 4 _ rfl)
      have c5 : w2.cell? ⟨wr.heap.size, 5, none⟩ = some (.int .i64 p.ma) := cell_later hb2 (cells_lit wr _ _ 5 _ rfl)
      have c6 : w2.cell? ⟨wr.heap.size, 6, none⟩ = some (.bool p.lz) := cell_later hb2 (cells_lit wr _ _ 6 _ rfl)
      have c7 : w2.cell? ⟨wr.heap.size, 7, none⟩ = some (.slice pB p.kids.length pd) := cell_later hb2 (cells_lit wr _ _ 7 _ rfl)
      have hg1 : ∀ o, w2.frozen? ⟨wr.heap.size, o, none⟩ = false := fun o => (hb2.frozen (p := ⟨wr.heap.size, o, none⟩) (by simp)).trans (by go_simp)
      have HB2 := hide (bl_trans (bl_alloc (bl_refl wr) _) hb2)
      have HFR := hide (hfr.mono (show wr.heap.size + 1 ≤ (wr.alloc _).heap.size by simp))
      have HRX := hide hrx
      have HER := hide her
      have HEK := hide ek
      have HEM := hide em
      have hlt7 : wr.heap.size < w2.heap.size := by have := hb2.size; simp at this; omega
      rw [← el] at hlk
      clear hb2 hrx hfr her htrv htkv em el x0 x1 x2 x3 x4 x5 x6 x7
      have HW3 := hide (fun o0 u0 o1 u1 o2 u2 o3 u3 o4 u4 o5 u5 o6 u6 o7 u7 => And.intro (bl8 (g := wr.heap.size) HB2.out (Nat.le_refl _) o0 u0 o1 u1 o2 u2 o3 u3 o4 u4 o5 u5 o6 u6 o7 u7) (kept8 w2 (Nat.lt_succ_self wr.heap.size) o0 u0 o1 u1 o2 u2 o3 u3 o4 u4 o5 u5 o6 u6 o7 u7))
      have hown1 := fun (W3 : World) (b3 : Below wr.heap.size wr W3) => own_below HROW.out b3
      have HOWN := hide hown1
      have hFinv := fun (M : List Rt) (W3 : World) (b3 : Below wr.heap.size wr W3) (hM : ∀ x ∈ M, RxAt W3 x ∧ Fr (wr.heap.size + 1) x) (v' : Value) (w4 : World) (ho : w4.ownsRow w.heap.size 25 8 v' (L.length + M.length) (flatX L ++ flatX M)) (hg : W3.grownBy w4 (Value.slice A L.length c).ownBlock)
          (h5 : v'.ownBlock = (Value.slice A L.length c).ownBlock ∨ ∃ k, v'.ownBlock = some k ∧ W3.heap.size ≤ k) (hm : M.length ≤ sM (l[k]'HKL.out)) (hE2 : M.map er = if (l[k]'HKL.out).k = kind then (l[k]'HKL.out).kids.map er else [er (l[k]'HKL.out)]) =>
        finv_step HKL.out (fun x hx => ⟨⟨rx_below (HALL.out x hx).1.1 b3, (HALL.out x hx).1.2⟩, (HALL.out x hx).2⟩) (fun x hx => ⟨⟨(hM x hx).1, fun g hg => off_fr (hM x hx).2 (Nat.lt_succ_of_lt (World.ownsRow.lt HROW.out g hg).2)⟩, (hM x hx).2.mono (Nat.le_succ_of_le HBL.out.size)⟩) ho hg h5 (bl_own (bl_trans HBL.out b3) (own_below HROW.out b3) hg (Nat.le_refl _)) HLEN.out hm HE.out hE2
      have HFINV := hide hFinv
      have HSZ := hide HBL.out.size
      have hone := one_cellX t'.kids (fun x hx => by obtain ⟨i, hi, rfl⟩ := List.mem_iff_getElem.1 hx; exact HRX.out.kid i hi)
      have HONE := hide hone
      have HONE1 := hide (one_cellX [t'] (fun x hx => by rw [List.mem_singleton] at hx; subst hx; exact HRX.out))
      have HSRC := hide (fun W (hkp : Kept (wr.heap.size + 1) w2 W) => (show Src W 8 tB t'.kids.length (flatX t'.kids) from by
        have h1 := HRX.out.ks
        obtain ⟨_, f1, f2, f3⟩ := HFR.out
        have h2 := ksat_kept h1 f2 hkp
        rw [HTK.out] at h2
        exact ksat_src h2))
      have HMK := hide (fun W (hkp : Kept (wr.heap.size + 1) w2 W) => (show ∀ x ∈ t'.kids, RxAt W x ∧ Fr (wr.heap.size + 1) x from fun x hx => by
        obtain ⟨i, hi, rfl⟩ := List.mem_iff_getElem.1 hx
        obtain ⟨_, f1, f2, f3⟩ := HFR.out
        exact ⟨rx_kept (HRX.out.kid i hi) (f3 _ hx) hkp, f3 _ hx⟩))
      have HM1 := hide (fun W (hkp : Kept (wr.heap.size + 1) w2 W) => (show ∀ x ∈ [t'], RxAt W x ∧ Fr (wr.heap.size + 1) x from fun x hx => by
        rw [List.mem_singleton] at hx
        subst hx
        exact ⟨rx_kept HRX.out HFR.out hkp, HFR.out⟩))
      clear hown1 hFinv hone
      by_cases hke : p.k = kind
      · have gk : (t'.k == kind) = true := by rw [ek, hke]; simp
        have HMM2 := hide (show t'.kids.length ≤ sM (l[k]'HKL.out) by have := HMM.out.1; have h9 := congrArg List.length HEM.out; simp at h9; omega)
        have HE2 := hide (show t'.kids.map er = if (l[k]'HKL.out).k = kind then (l[k]'HKL.out).kids.map er else [er (l[k]'HKL.out)] by rw [HP.out, if_pos hke, HEM.out])
        clear ek hke
        go_wp2_with (at_builtin; go_must (refine wpList_src5 _ rfl _ _ 23 rfl w.heap.size 25 i0 rt0.v 8 104 Tryz.underlying23 hi0 hz0' hz1 hz2 rfl (by decide) (.slice A L.length c) L.length (flatX L) rfl (HOWN.out _ (HW3.out _ _ _ _ _ _ _ _ _ _ _ _ _ _ _ _).1) tB t'.kids.length td (flatX t'.kids) rfl (HSRC.out _ (HW3.out _ _ _ _ _ _ _ _ _ _ _ _ _ _ _ _).2) HONE.out (by omega) (by decide) (Nat.le_trans HSZ.out (HW3.out _ _ _ _ _ _ _ _ _ _ _ _ _ _ _ _).1.size) ?_); intro v' w4 hv4 hg4 h5)
        have HST := hide (HFINV.out t'.kids _ (HW3.out _ _ _ _ _ _ _ _ _ _ _ _ _ _ _ _).1 (HMK.out _ (HW3.out _ _ _ _ _ _ _ _ _ _ _ _ _ _ _ _).2) v' w4 hv4 hg4 h5 HMM2.out HE2.out)
        clear hv4 hg4 h5
        go_wp2
        refine ⟨?_, by first | (simp [intOf]; done) | (simp [intOf]; omega)⟩
        exact HST.out
      · have gk : (t'.k == kind) = false := by rw [ek]; exact beq_eq_false_iff_ne.2 hke
        have HE2 := hide (show [t'].map er = if (l[k]'HKL.out).k = kind then (l[k]'HKL.out).kids.map er else [er (l[k]'HKL.out)] by rw [HP.out, if_neg hke]; simp [HER.out])
        have HFX := hide (show flatX [t'] = [.int .i64 t'.k, .string t'.ch, .bool t'.nt, .slice tA t'.rows.length tc, .int .i64 t'.mi, .int .i64 t'.ma, .bool t'.lz, .slice tB t'.kids.length td] by unfold flatX; simp [HCS.out])
        have hone1 := HONE1.out
        rw [HFX.out] at hone1
        have HO1 := hide hone1
        clear ek hke hone1
        go_wp2_with (at_builtin; go_must (refine wpList_src5 _ rfl _ _ 23 rfl w.heap.size 25 i0 rt0.v 8 104 Tryz.underlying23 hi0 hz0' hz1 hz2 rfl (by decide) (.slice A L.length c) L.length (flatX L) rfl (HOWN.out _ (bl_alloc (HW3.out _ _ _ _ _ _ _ _ _ _ _ _ _ _ _ _).1 _)) (some ⟨_, 0, none⟩) 1 1 [.int .i64 t'.k, .string t'.ch, .bool t'.nt, .slice tA t'.rows.length tc, .int .i64 t'.mi, .int .i64 t'.ma, .bool t'.lz, .slice tB t'.kids.length td] rfl (src_block (cs := #[.int .i64 t'.k, .string t'.ch, .bool t'.nt, .slice tA t'.rows.length tc, .int .i64 t'.mi, .int .i64 t'.ma, .bool t'.lz, .slice tB t'.kids.length td]) (heap_new (by simp [World.setCell])) rfl) HO1.out (by omega) (by decide) (Nat.le_trans HSZ.out (bl_alloc (HW3.out _ _ _ _ _ _ _ _ _ _ _ _ _ _ _ _).1 _).size) ?_); intro v' w4 hv4 hg4 h5)
        rw [← HFX.out] at hv4
        have HST := hide (HFINV.out [t'] _ (bl_alloc (HW3.out _ _ _ _ _ _ _ _ _ _ _ _ _ _ _ _).1 _) (HM1.out _ (kept_trans (HW3.out _ _ _ _ _ _ _ _ _ _ _ _ _ _ _ _).2 (kept_below (bl_alloc (bl_refl _) _)))) v' w4 hv4 hg4 h5 HMM.out.2 HE2.out)
        clear hv4 hg4 h5
        go_wp2
        refine ⟨?_, by first | (simp [intOf]; done) | (simp [intOf]; omega)⟩
        exact HST.out
    · obtain rfl : k = l.length := by omega
      have ho := HROW.out
      have gl : decide (l.length < l.length) = false := by simp
      have gl' : decide ((l.length : Int) < (l.length : Int)) = false := by simp
      have he := HE.out
      rw [List.take_length] at he
      have HE2 := hide he
      have HKS := hide (own_ksat ho)
      have HFV := hide (show FrV w.heap.size (.slice A L.length c) from fun x len d e => by
        rcases own_form ho with ⟨h1, _⟩ | ⟨g, c2, h1, h2, _⟩
        · rw [e] at h1; cases h1
        · rw [e] at h1; injection h1 with h1; injection h1 with h1; subst h1; exact h2)
      clear ho he
      go_wp2
      go_ret
      exact ⟨_, L, rfl, HBL.out, HKS.out, HFV.out, fun x hx => (HALL.out x hx).1.1, fun x hx => (HALL.out x hx).2, HE2.out⟩
end
end Go.Proofs.YtmacpmblodhcpaaGreatDoor
