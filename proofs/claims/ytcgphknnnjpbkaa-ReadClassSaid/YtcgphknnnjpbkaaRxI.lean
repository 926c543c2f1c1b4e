/- A tree's copy: what is new, what is the same; the copy of a list of trees (deep.Each). Condition: not too many. -/
import Derived.Test.YtcgphknnnjpbkaaRxC
import Derived.Test.YtcgphknnnjpbkaaRxG
namespace Go.Proofs.Ytcgphknnnjpbkaa
open Go.ChangeShapes Go.WideShapes Go.ChangeAt Go.RowKit
open SetM
attribute [local go_sem ↓] Go.wp_at_zero Go.wp_at_succ
set_option maxRecDepth 100000
set_option linter.unusedVariables false
mutual
  def er : Rt → Rt
    | .mk k ch nt _ rows mi ma lz _ l => .mk k ch nt (.slice none 0 0) rows mi ma lz (.slice none 0 0) (erL l)
  def erL : List Rt → List Rt
    | [] => []
    | t :: l => er t :: erL l
end
theorem erL_map (l : List Rt) : erL l = l.map er := by
  induction l with
  | nil => rfl
  | cons a l ih => rw [erL, ih]; rfl
theorem er_eq (t : Rt) : er t = .mk t.k t.ch t.nt (.slice none 0 0) t.rows t.mi t.ma t.lz (.slice none 0 0) (t.kids.map er) := by
  cases t; rw [er, erL_map]; rfl
/-- Its lists lie from block n on. -/
inductive Fr (n : Nat) : Rt → Prop
  | mk (t : Rt) (hr : FrV n t.rv) (hk : FrV n t.kv) (hs : ∀ x ∈ t.kids, Fr n x) : Fr n t
theorem Fr.mono {n m : Nat} {t : Rt} (h : Fr m t) (hm : n ≤ m) : Fr n t := by
  induction h with
  | mk t hr hk hs ih => exact .mk t (fun x len c e => Nat.le_trans hm (hr x len c e)) (fun x len c e => Nat.le_trans hm (hk x len c e)) ih
theorem FrV.mono {n m : Nat} {v : Value} (h : FrV m v) (hm : n ≤ m) : FrV n v := fun x len c e => Nat.le_trans hm (h x len c e)
def Kept (n : Nat) (w w' : World) : Prop := ∀ (p : Addr) (v : Value), n ≤ p.block → w.cell? p = some v → w'.cell? p = some v
theorem addr_blk (x : Addr) (j : Nat) : (x.add j).block = x.block := by unfold Addr.add; split <;> rfl
theorem rwat_kept {n : Nat} {w w' : World} {v : Value} {l : List Rw} (h : RwAt w v l) (hf : FrV n v) (hw : Kept n w w') : RwAt w' v l := by
  rcases h with h | ⟨x, c, rfl, h1, h2, h3⟩
  · exact .inl h
  · have hx := hf x _ _ rfl
    exact .inr ⟨x, c, rfl, h1, h2, fun i hi => ⟨hw _ _ (by rw [addr_blk]; exact hx) (h3 i hi).1, hw _ _ (by rw [addr_blk]; exact hx) (h3 i hi).2⟩⟩
theorem ksat_kept {n : Nat} {w w' : World} {v : Value} {l : List Rt} (h : KsAt w v l) (hf : FrV n v) (hw : Kept n w w') : KsAt w' v l := by
  rcases h with h | ⟨x, c, rfl, h1, h2, h3⟩
  · exact .inl h
  · have hx := hf x _ _ rfl
    exact .inr ⟨x, c, rfl, h1, h2, fun i hi j u hu => hw _ _ (by rw [addr_blk]; exact hx) (h3 i hi j u hu)⟩
theorem rx_kept {n : Nat} {w w' : World} {t : Rt} (h : RxAt w t) (hf : Fr n t) (hw : Kept n w w') : RxAt w' t := by
  induction h with
  | mk t hr hk hs ih =>
    obtain ⟨_, f1, f2, f3⟩ := hf
    exact .mk t (rwat_kept hr f1 hw) (ksat_kept hk f2 hw) (fun i hi => ih i hi (f3 _ (List.getElem_mem hi)))
theorem kept_set (w : World) {n : Nat} {p : Addr} (hp : p.block < n) (u : Value) : Kept n w (w.setCell p u) := by
  intro q v hq hc
  rw [World.cell?_of_block (w := w)]
  · exact hc
  · exact Below.heap_setCell w p u _ (by omega)
theorem kept_trans {n : Nat} {a b c : World} (h : Kept n a b) (g : Kept n b c) : Kept n a c := fun p v hp hc => g p v hp (h p v hp hc)
theorem kept_below {n : Nat} {a b : World} (h : Below a.heap.size a b) : Kept n a b := fun p v _ hc => cell_later h hc
def flatX (l : List Rt) : List Value := l.flatMap Rt.cs
theorem flatX_len (l : List Rt) : (flatX l).length = l.length * 8 := by
  induction l with
  | nil => rfl
  | cons a r ih => simp only [flatX, List.flatMap_cons, List.length_append, List.length_cons] at *; simp only [Rt.cs, List.length_cons, List.length_nil]; omega
theorem flatX_at (l : List Rt) (i : Nat) (h : i < l.length) (j : Nat) (u : Value) (hu : (l[i].cs)[j]? = some u) : (flatX l)[i * 8 + j]? = some u := by
  induction l generalizing i with
  | nil => simp at h
  | cons a r ih =>
    have e : flatX (a :: r) = a.cs ++ flatX r := rfl
    have hl : a.cs.length = 8 := rfl
    cases i with
    | zero =>
      rw [e, List.getElem?_append_left (by have := (List.getElem?_eq_some_iff.1 hu).1; simp only [List.getElem_cons_zero] at this; omega)]
      simpa using hu
    | succ i =>
      rw [e, List.getElem?_append_right (by omega), hl, show (i + 1) * 8 + j - 8 = i * 8 + j by omega]
      exact ih i (by simpa using h) (by simpa using hu)
theorem flatX_set8 (l : List Rt) (i : Nat) (h : i < l.length) (t : Rt) : ((((((((flatX l).set (i * 8) (.int .i64 t.k)).set (i * 8 + 1) (.string t.ch)).set (i * 8 + 2) (.bool t.nt)).set (i * 8 + 3) t.rv).set (i * 8 + 4) (.int .i64 t.mi)).set (i * 8 + 5) (.int .i64 t.ma)).set (i * 8 + 6) (.bool t.lz)).set (i * 8 + 7) t.kv = flatX (l.set i t) := by
  induction l generalizing i with
  | nil => simp at h
  | cons a r ih =>
    cases i with
    | zero => rfl
    | succ i =>
      have e : ∀ (b : Rt) (q : List Rt), flatX (b :: q) = .int .i64 b.k :: .string b.ch :: .bool b.nt :: b.rv :: .int .i64 b.mi :: .int .i64 b.ma :: .bool b.lz :: b.kv :: flatX q := fun _ _ => rfl
      have h1 : (i + 1) * 8 = i * 8 + 1 + 1 + 1 + 1 + 1 + 1 + 1 + 1 := by omega
      have h2 : ∀ m, i * 8 + 1 + 1 + 1 + 1 + 1 + 1 + 1 + 1 + m = i * 8 + m + 1 + 1 + 1 + 1 + 1 + 1 + 1 + 1 := by intro m; omega
      rw [e, h1]
      simp only [h2, List.set_cons_succ]
      rw [ih i (by simpa using h), e]
theorem own_putX {w : World} {base g n c : Nat} {l : List Rt} (h : w.ownsRow base 26 8 (.slice (some ⟨g, 0, none⟩) n c) n (flatX l)) (i : Nat) (hi : i < l.length) (t : Rt) :
    ((((((((w.setCell ⟨g, i * 8, none⟩ (.int .i64 t.k)).setCell ⟨g, i * 8 + 1, none⟩ (.string t.ch)).setCell ⟨g, i * 8 + 2, none⟩ (.bool t.nt)).setCell ⟨g, i * 8 + 3, none⟩ t.rv).setCell ⟨g, i * 8 + 4, none⟩ (.int .i64 t.mi)).setCell ⟨g, i * 8 + 5, none⟩ (.int .i64 t.ma)).setCell ⟨g, i * 8 + 6, none⟩ (.bool t.lz)).setCell ⟨g, i * 8 + 7, none⟩ t.kv).ownsRow base 26 8 (.slice (some ⟨g, 0, none⟩) n c) n (flatX (l.set i t)) := by
  have h1 := (World.ownsRow.stored h (i * 8) (.int .i64 t.k)).1
  have h2 := (World.ownsRow.stored h1 (i * 8 + 1) (.string t.ch)).1
  have h3 := (World.ownsRow.stored h2 (i * 8 + 2) (.bool t.nt)).1
  have h4 := (World.ownsRow.stored h3 (i * 8 + 3) t.rv).1
  have h5 := (World.ownsRow.stored h4 (i * 8 + 4) (.int .i64 t.mi)).1
  have h6 := (World.ownsRow.stored h5 (i * 8 + 5) (.int .i64 t.ma)).1
  have h7 := (World.ownsRow.stored h6 (i * 8 + 6) (.bool t.lz)).1
  have h8 := (World.ownsRow.stored h7 (i * 8 + 7) t.kv).1
  rw [flatX_set8 l i hi t] at h8
  exact h8
theorem own_ksat {w : World} {base : Nat} {v : Value} {l : List Rt} (h : w.ownsRow base 26 8 v l.length (flatX l)) : KsAt w v l := by
  rcases own_form h with ⟨rfl, h1, h2⟩ | ⟨g, c, rfl, h1, h2, h3, h4, h5⟩
  · exact .inl ⟨rfl, List.eq_nil_of_length_eq_zero h1⟩
  · refine .inr ⟨_, c, rfl, h3, h4, fun i hi j u hu => ?_⟩
    rw [addr_add]
    simp only [Nat.zero_add]
    exact h5 _ _ (flatX_at l i hi j u hu)
def rt0 : Rt := .mk 0 ⟨#[]⟩ false (.slice none 0 0) [] 0 0 false (.slice none 0 0) []
theorem info_rx : (Try.prog.info? 26).map (fun i => (i.zero, i.size, i.bytes)) = some (some rt0.v, 8, 104) := by kernel_rfl
theorem made_flatX (n : Nat) : (madeCells rt0.cs.toArray (n * 8)).toList = flatX (List.replicate n rt0) := by
  apply List.ext_getElem
  · rw [flatX_len]; simp [madeCells]
  · intro i h1 h2
    have hi : i < n * 8 := by simpa [madeCells] using h1
    have hl : rt0.cs.length = 8 := rfl
    have hj : i % 8 < rt0.cs.length := by omega
    have hf := flatX_at (List.replicate n rt0) (i / 8) (by simp; omega) (i % 8) rt0.cs[i % 8] (by simp)
    have ht : i / 8 * 8 + i % 8 = i := by omega
    rw [ht, List.getElem?_eq_getElem h2] at hf
    rw [Option.some.inj hf]
    simp only [madeCells, Array.toList_map, Array.toList_range, List.getElem_map, List.getElem_range]
    simp [hl]
    rw [List.getElem?_eq_getElem hj]
    rfl
end Go.Proofs.Ytcgphknnnjpbkaa
