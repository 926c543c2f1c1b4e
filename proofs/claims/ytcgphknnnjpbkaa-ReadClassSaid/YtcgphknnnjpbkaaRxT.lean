/- Trees of regular expressions: as data, in memory, as arguments. No condition. -/
import Derived.Test.YtcgphknnnjpbkaaRowArgs
import Derived.ChangeSame
import Derived.Deep.Slices
namespace Go.Proofs.Ytcgphknnnjpbkaa
set_option maxRecDepth 100000
open Go.ChangeShapes Go.WideShapes Go.ChangeAt Go.RowKit Go.Deep Go.Joins
open SetM
set_option linter.unusedVariables false
/-- A part: its kind, character, rows, bounds, kids; rv, kv: the slices that hold its rows and kids. -/
inductive Rt where
  | mk (k : Int) (ch : ByteArray) (nt : Bool) (rv : Value) (rows : List Rw) (mi ma : Int) (lz : Bool) (kv : Value) (kids : List Rt)
instance : Inhabited Rt := ⟨.mk 0 ⟨#[]⟩ false (.slice none 0 0) [] 0 0 false (.slice none 0 0) []⟩
def Rt.k : Rt → Int | .mk k _ _ _ _ _ _ _ _ _ => k
def Rt.ch : Rt → ByteArray | .mk _ c _ _ _ _ _ _ _ _ => c
def Rt.nt : Rt → Bool | .mk _ _ n _ _ _ _ _ _ _ => n
def Rt.rv : Rt → Value | .mk _ _ _ v _ _ _ _ _ _ => v
def Rt.rows : Rt → List Rw | .mk _ _ _ _ r _ _ _ _ _ => r
def Rt.mi : Rt → Int | .mk _ _ _ _ _ m _ _ _ _ => m
def Rt.ma : Rt → Int | .mk _ _ _ _ _ _ m _ _ _ => m
def Rt.lz : Rt → Bool | .mk _ _ _ _ _ _ _ z _ _ => z
def Rt.kv : Rt → Value | .mk _ _ _ _ _ _ _ _ v _ => v
def Rt.kids : Rt → List Rt | .mk _ _ _ _ _ _ _ _ _ l => l
/-- Its cells. -/
def Rt.cs (t : Rt) : List Value := [.int .i64 t.k, .string t.ch, .bool t.nt, t.rv, .int .i64 t.mi, .int .i64 t.ma, .bool t.lz, t.kv]
def Rt.v (t : Rt) : Value := .agg t.cs.toArray
/-- The slice holds these parts' cells. -/
def KsAt (w : World) (v : Value) (l : List Rt) : Prop :=
  (v = .slice none 0 0 ∧ l = []) ∨ ∃ x c, v = .slice (some x) l.length c ∧ l.length ≤ c ∧ c ≤ maxLen ∧ ∀ i (h : i < l.length) j u, (l[i].cs)[j]? = some u → w.cell? (x.add (i * 8 + j)) = some u
/-- The tree lies in memory. -/
inductive RxAt (w : World) : Rt → Prop
  | mk (t : Rt) (hr : RwAt w t.rv t.rows) (hk : KsAt w t.kv t.kids) (hs : ∀ i (h : i < t.kids.length), RxAt w t.kids[i]) : RxAt w t
theorem RxAt.rows {w : World} {t : Rt} (h : RxAt w t) : RwAt w t.rv t.rows := by cases h; assumption
theorem RxAt.ks {w : World} {t : Rt} (h : RxAt w t) : KsAt w t.kv t.kids := by cases h; assumption
theorem RxAt.kid {w : World} {t : Rt} (h : RxAt w t) (i : Nat) (hi : i < t.kids.length) : RxAt w t.kids[i] := by cases h with | mk _ _ _ hs => exact hs i hi
theorem ksat_below {w w' : World} {v : Value} {l : List Rt} (h : KsAt w v l) (hb : Below w.heap.size w w') : KsAt w' v l := by
  rcases h with h | ⟨x, c, rfl, h1, h2, h3⟩
  · exact .inl h
  · exact .inr ⟨x, c, rfl, h1, h2, fun i hi j u hu => cell_later hb (h3 i hi j u hu)⟩
theorem rx_below {w w' : World} {t : Rt} (h : RxAt w t) (hb : Below w.heap.size w w') : RxAt w' t := by
  induction h with
  | mk t hr hk hs ih => exact .mk t (rwat_below hr hb) (ksat_below hk hb) ih
theorem ksat_len {w : World} {v : Value} {l : List Rt} (h : KsAt w v l) : ∃ a c, v = .slice a l.length c := by
  rcases h with ⟨rfl, rfl⟩ | ⟨x, c, rfl, _⟩
  · exact ⟨none, 0, rfl⟩
  · exact ⟨some x, c, rfl⟩
/-- Its address, where it holds something. -/
theorem ksat_some {w : World} {v : Value} {l : List Rt} (h : KsAt w v l) (hp : 0 < l.length) :
    ∃ b off c, v = .slice (some ⟨b, off, none⟩) l.length c ∧ l.length ≤ c ∧ c ≤ maxLen ∧ b < w.heap.size ∧ ∀ i (h : i < l.length) j u, (l[i].cs)[j]? = some u → w.cell? ⟨b, off + i * 8 + j, none⟩ = some u := by
  rcases h with ⟨rfl, rfl⟩ | ⟨x, c, rfl, h1, h2, h3⟩
  · simp at hp
  · obtain ⟨b, off, spot⟩ := x
    have hc := h3 0 hp 0 _ rfl
    have hspot : spot = none := by simpa [Addr.add] using World.cell?_spot hc
    subst hspot
    refine ⟨b, off, c, rfl, h1, h2, ?_, fun i hi j u hu => ?_⟩
    · have := World.block_lt_of_cell? w _ hc
      rw [addr_add] at this
      exact this
    · have := h3 i hi j u hu
      rw [addr_add] at this
      rw [Nat.add_assoc]; exact this
theorem ksat_8 {w : World} {v : Value} {l : List Rt} (h : KsAt w v l) (hp : 0 < l.length) :
    ∃ b off c, v = .slice (some ⟨b, off, none⟩) l.length c ∧ l.length ≤ c ∧ c ≤ maxLen ∧ b < w.heap.size ∧ ∀ i (h : i < l.length), w.cell? ⟨b, off + i * 8, none⟩ = some (.int .i64 l[i].k) ∧ w.cell? ⟨b, off + i * 8 + 1, none⟩ = some (.string l[i].ch) ∧ w.cell? ⟨b, off + i * 8 + 2, none⟩ = some (.bool l[i].nt) ∧ w.cell? ⟨b, off + i * 8 + 3, none⟩ = some l[i].rv ∧ w.cell? ⟨b, off + i * 8 + 4, none⟩ = some (.int .i64 l[i].mi) ∧ w.cell? ⟨b, off + i * 8 + 5, none⟩ = some (.int .i64 l[i].ma) ∧ w.cell? ⟨b, off + i * 8 + 6, none⟩ = some (.bool l[i].lz) ∧ w.cell? ⟨b, off + i * 8 + 7, none⟩ = some l[i].kv := by
  obtain ⟨b, off, c, h1, h2, h3, h4, h5⟩ := ksat_some h hp
  exact ⟨b, off, c, h1, h2, h3, h4, fun i hi => ⟨h5 i hi 0 _ rfl, h5 i hi 1 _ rfl, h5 i hi 2 _ rfl, h5 i hi 3 _ rfl, h5 i hi 4 _ rfl, h5 i hi 5 _ rfl, h5 i hi 6 _ rfl, h5 i hi 7 _ rfl⟩⟩
/-- What is well formed in a tree: its numbers are ints, its texts no longer than can be. -/
inductive WfX : Rt → Prop
  | mk (t : Rt) (h1 : (Lit.int .i64 t.k).wf = true) (h2 : t.ch.size ≤ maxLen) (h3 : ∀ s ∈ t.rows, WfR s) (h4 : (Lit.int .i64 t.mi).wf = true) (h5 : (Lit.int .i64 t.ma).wf = true) (hs : ∀ x ∈ t.kids, WfX x) : WfX t
section
variable {H : Type} {enc : TypeId × Value → H} {W : World} {base : Nat} {held : Bool}
theorem open_rows_cells {fuel : Nat} {v : Value} {x : DataW H × List MemPlace} (hf : DataW.trod enc Try.prog W base (fun _ => true) held fuel 23 [v] = some x) : ∃ l : List Rw, RwAt W v l ∧ ∀ s ∈ l, WfR s := by
  obtain ⟨f0, f1, hs, o0, o1, t0, t1, hone⟩ := rw_fields
  rcases open_slice_pairs Try.underlying23 hs (by kernel_rfl) o0 o1 (by rw [t0]; kernel_rfl) (by rw [t1]; kernel_rfl) hf with ⟨hcs, _⟩ | ⟨x, l, c, m, n, V0, V1, D0, D1, P0, P1, hcs, _, hl, hm, hmm, _, hcell⟩
  · injection hcs with hcs
    exact ⟨[], .inl ⟨hcs, rfl⟩, by simp⟩
  · injection hcs with hcs
    subst hcs
    rw [t0, t1] at hcell
    have hex : ∀ i, i < l → ∃ s : Rw, W.cell? (x.add (i * 2)) = some (.string s.1) ∧ W.cell? (x.add (i * 2 + 1)) = some (.string s.2) ∧ WfR s := by
      intro i hi
      obtain ⟨h0, h1, h2, h3⟩ := hcell i (by simp only [if_true] at hmm; omega)
      obtain ⟨a, e0, _, wa⟩ := DataW.trod_string Try.underlying9 h2
      obtain ⟨b, e1, _, wb⟩ := DataW.trod_string Try.underlying9 h3
      simp at e0 e1
      rw [e0] at h0
      rw [e1] at h1
      exact ⟨(a, b), h0, h1, wa, wb⟩
    obtain ⟨q, hq⟩ := choose_lt hex
    refine ⟨(List.range l).map q, .inr ⟨x, c, by simp, by simpa using hl, hm, fun i hi => ?_⟩, fun s hs => ?_⟩
    · simp at hi
      simp only [List.getElem_map, List.getElem_range]
      exact ⟨(hq i hi).1, (hq i hi).2.1⟩
    · simp at hs
      obtain ⟨i, hi, rfl⟩ := hs
      exact (hq i hi).2.2
set_option maxRecDepth 100000 in
/-- A tree that is handed in. -/
theorem open_cells : ∀ (fuel : Nat) (cs : List Value) (x : DataW H × List MemPlace), DataW.trod enc Try.prog W base (fun _ => true) held fuel 26 cs = some x → ∃ t : Rt, t.cs = cs ∧ RxAt W t ∧ WfX t := by
  intro fuel
  induction fuel using Nat.strongRecOn with
  | _ fuel ih =>
    intro cs x h
    obtain ⟨xs, n, hf, _, hlen, hxl, hg⟩ := DataW.trod_struct Try.underlying26 h
    have hC : Try.prog.cellsOf 26 = 8 := by kernel_rfl
    have hC1 : Try.prog.cellsOf 3 = 1 := by kernel_rfl
    have hCs : Try.prog.cellsOf 9 = 1 := by kernel_rfl
    have hCb : Try.prog.cellsOf 4 = 1 := by kernel_rfl
    have hCr : Try.prog.cellsOf 23 = 1 := by kernel_rfl
    have hCk : Try.prog.cellsOf 24 = 1 := by kernel_rfl
    rw [hC] at hlen
    match cs, hlen, xs, hxl with
    | [v0, v1, v2, v3, v4, v5, v6, v7], _, [y0, y1, y2, y3, y4, y5, y6, y7], _ =>
      have g0 : DataW.trod enc Try.prog W base (fun _ => true) held n 3 (([v0, v1, v2, v3, v4, v5, v6, v7].drop 0).take (Try.prog.cellsOf 3)) = some y0 := hg 0 _ rfl
      have g1 : DataW.trod enc Try.prog W base (fun _ => true) held n 9 (([v0, v1, v2, v3, v4, v5, v6, v7].drop 1).take (Try.prog.cellsOf 9)) = some y1 := hg 1 _ rfl
      have g2 : DataW.trod enc Try.prog W base (fun _ => true) held n 4 (([v0, v1, v2, v3, v4, v5, v6, v7].drop 2).take (Try.prog.cellsOf 4)) = some y2 := hg 2 _ rfl
      have g3 : DataW.trod enc Try.prog W base (fun _ => true) held n 23 (([v0, v1, v2, v3, v4, v5, v6, v7].drop 3).take (Try.prog.cellsOf 23)) = some y3 := hg 3 _ rfl
      have g4 : DataW.trod enc Try.prog W base (fun _ => true) held n 3 (([v0, v1, v2, v3, v4, v5, v6, v7].drop 4).take (Try.prog.cellsOf 3)) = some y4 := hg 4 _ rfl
      have g5 : DataW.trod enc Try.prog W base (fun _ => true) held n 3 (([v0, v1, v2, v3, v4, v5, v6, v7].drop 5).take (Try.prog.cellsOf 3)) = some y5 := hg 5 _ rfl
      have g6 : DataW.trod enc Try.prog W base (fun _ => true) held n 4 (([v0, v1, v2, v3, v4, v5, v6, v7].drop 6).take (Try.prog.cellsOf 4)) = some y6 := hg 6 _ rfl
      have g7 : DataW.trod enc Try.prog W base (fun _ => true) held n 24 (([v0, v1, v2, v3, v4, v5, v6, v7].drop 7).take (Try.prog.cellsOf 24)) = some y7 := hg 7 _ rfl
      rw [hC1] at g0 g4 g5
      rw [hCs] at g1
      rw [hCb] at g2 g6
      rw [hCr] at g3
      rw [hCk] at g7
      obtain ⟨a0, q0, _, u0⟩ := DataW.trod_int Try.underlying3 g0
      obtain ⟨a1, q1, _, u1⟩ := DataW.trod_string Try.underlying9 g1
      obtain ⟨a2, q2, _⟩ := DataW.trod_bool Try.underlying4 g2
      obtain ⟨a4, q4, _, u4⟩ := DataW.trod_int Try.underlying3 g4
      obtain ⟨a5, q5, _, u5⟩ := DataW.trod_int Try.underlying3 g5
      obtain ⟨a6, q6, _⟩ := DataW.trod_bool Try.underlying4 g6
      simp at q0 q1 q2 q4 q5 q6
      subst q0 q1 q2 q4 q5 q6
      replace g3 : DataW.trod enc Try.prog W base (fun _ => true) held n 23 [v3] = some y3 := g3
      replace g7 : DataW.trod enc Try.prog W base (fun _ => true) held n 24 [v7] = some y7 := g7
      obtain ⟨rows, hr, hwr⟩ := open_rows_cells g3
      have hkids : ∃ l : List Rt, KsAt W v7 l ∧ (∀ i (h : i < l.length), RxAt W l[i]) ∧ ∀ x ∈ l, WfX x := by
        rcases DataW.trod_slice Try.underlying24 g7 with ⟨hcs, _⟩ | ⟨a, len, cap, elems, rest, m, hn, hcs, _, _, hl, hm, hel, hx, _⟩
        · injection hcs with hcs
          exact ⟨[], .inl ⟨hcs, rfl⟩, fun i hi => by simp at hi, fun x hx => by cases hx⟩
        · injection hcs with hcs
          have hex : ∀ i, i < len → ∃ t : Rt, (∀ j u, t.cs[j]? = some u → W.cell? (a.add (i * 8 + j)) = some u) ∧ RxAt W t ∧ WfX t := by
            intro i hi
            have hxi := hx i hi
            rw [hC, List.getElem?_eq_getElem (by omega)] at hxi
            obtain ⟨cs', h1, h2⟩ := Option.bind_eq_some_iff.1 hxi
            obtain ⟨t, ht, ha, hw⟩ := ih m (by omega) cs' _ h2
            refine ⟨t, fun j u hu => ?_, ha, hw⟩
            rw [ht] at hu
            obtain ⟨_, hlen, hcell⟩ := World.cells?_some h1
            have hj : j < cs'.length := (List.getElem?_eq_some_iff.1 hu).1
            have := hcell j (by omega)
            rw [add_add] at this
            rw [← hu]
            exact this
          obtain ⟨q, hq⟩ := choose_lt hex
          refine ⟨(List.range len).map q, .inr ⟨a, cap, by rw [hcs]; simp, by simpa using hl, hm, fun i hi j u hu => ?_⟩, fun i hi => ?_, fun x hx => ?_⟩
          · simp at hi
            simp only [List.getElem_map, List.getElem_range] at hu
            exact (hq i hi).1 j u hu
          · simp at hi
            simp only [List.getElem_map, List.getElem_range]
            exact (hq i hi).2.1
          · simp at hx
            obtain ⟨i, hi, rfl⟩ := hx
            exact (hq i hi).2.2
      obtain ⟨l, hk, hs, hws⟩ := hkids
      exact ⟨.mk a0 a1 a2 v3 rows a4 a5 a6 v7 l, rfl, .mk _ hr hk hs, .mk _ u0 u1 hwr u4 u5 hws⟩
end
end Go.Proofs.Ytcgphknnnjpbkaa
