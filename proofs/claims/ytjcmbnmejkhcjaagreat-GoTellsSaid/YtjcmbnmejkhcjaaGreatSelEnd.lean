/- Own slices of stretches behind a sort. No condition. Own slices of selections behind a sort. No condition. Contract: the order of selections by their stretches. No condition. Contract: two parts of a row of selections exchanged, as the library's stable sort does. Condition: they lie in the row, one behind the other. Contracts: selections in order: the library's stable sort of at most 20. Condition: at most 20 selections. Contract: a selection that covers two of them. No condition. Contract: selections put in order, those that touch put together. Condition: no more than the library's sort is known to put in order (StabOK). Contract: selections put in order, or refused. Condition: more than 64, or no more than the library's sort is known to put in order (StabOK). Selections put together (plain mathematics): of one way they stay of one way. Selections put in order (plain mathematics): apart, the same places, again the same, moved along, carets, bounds. -/
import Derived.Test.YtjcmbnmejkhcjaaGreatSpanA
import Derived.Shelf.SlSortCmp.InsertionK
import Derived.Test.YtjcmbnmejkhcjaaGreatMotR
import Derived.Test.YtjcmbnmejkhcjaaGreatLater
import Derived.Test.YtjcmbnmejkhcjaaGreatOwn
import Derived.IntWalk
import Derived.BigRegion
import Derived.Test.YtjcmbnmejkhcjaaGreatSelN
import Derived.Test.YtjcmbnmejkhcjaaGreatLay
import Derived.Test.YtjcmbnmejkhcjaaGreatApp
import Derived.Test.YtjcmbnmejkhcjaaGreatSpanB
import Derived.BigQuiet
namespace Go.Proofs.YtjcmbnmejkhcjaaGreat
section
open Go.ChangeShapes Go.WideShapes Go.ChangeAt Go.RowKit
open SpanM

-- behind a sort
section
open Go.Sort Go.Shelf
theorem sp_cell_flat {w : World} {g : Nat} {cur : Array Value} {e : TypeId} {fr : Nat × Nat} (F : Array Value) (n : Nat) (os : Array Obj) (hb : w.heap[g]? = some (.cells cur e fr)) :
    (grow (putRow id (Go.Sort.ahead w n) g 0 F) os).heap[g]? = some (.cells (putCells id 0 F cur) e fr) := by
  have hg : g < w.heap.size := (Array.getElem?_eq_some_iff.1 hb).1
  rw [heap_grow_old _ _ (by simpa using hg)]
  simp [putRow, mapBlock, Go.Sort.ahead, Array.getElem?_modify, hb, onCells]
theorem sp_grown {w : World} {g n : Nat} {os : Array Obj} (F : Array Value) : w.grownBy (grow (putRow id (Go.Sort.ahead w n) g 0 F) os) (some g) := by
  refine ⟨rfl, rfl, rfl, by simp, fun k hk hne => ?_⟩
  rw [heap_grow_old _ _ (by simpa using hk)]
  have : g ≠ k := fun e => hne (by rw [e])
  simp [putRow, mapBlock, Go.Sort.ahead, Array.getElem?_modify, this]
theorem sp_take (cur F : Array Value) (h : F.size ≤ cur.size) : (putCells id 0 F cur).toList.take F.size = F.toList := by
  apply List.ext_getElem?
  intro j
  by_cases hj : j < F.size
  · rw [List.getElem?_take_of_lt hj, Array.getElem?_toList]
    simp [putCells, hj, show j < cur.size by omega]
  · rw [List.getElem?_take_eq_none (by omega), List.getElem?_eq_none (by simpa using hj)]
theorem flatK_flat (d : Array Sp) : (flatK encS 2 d).toList = flat d.toList := by
  apply List.ext_getElem
  · simp [flat_len]
  intro t h1 h2
  have h1' : t < d.size * 2 := by simpa using h1
  have e1 : (flatK encS 2 d).toList[t] = (encS d[t / 2]!)[t % 2]! := by
    have := get_flatK encS 2 d t h1'
    rw [getElem!_pos _ t (by simpa using h1')] at this
    simpa using this
  rw [e1]
  have hq : t / 2 < d.toList.length := by simp; omega
  have hf := flat_at d.toList (t / 2) hq
  have hd : d[t / 2]! = d.toList[t / 2] := by rw [getElem!_pos d (t / 2) (by simpa using hq)]; simp
  rw [hd]
  rcases Nat.mod_two_eq_zero_or_one t with h | h
  · have ht : t / 2 * 2 = t := by omega
    rw [ht, List.getElem?_eq_getElem h2] at hf
    rw [Option.some.inj hf.1, h]; rfl
  · have ht : t / 2 * 2 + 1 = t := by omega
    rw [ht, List.getElem?_eq_getElem h2] at hf
    rw [Option.some.inj hf.2, h]; rfl
theorem own_sorted {w : World} {base g c : Nat} {l k : List Sp} (h : w.ownsRow base 56 2 (.slice (some ⟨g, 0, none⟩) l.length c) l.length (flat l)) (hl : k.length = l.length) (n : Nat) (os : Array Obj) :
    (sortWorldK encS 2 w g 0 n k.toArray os).ownsRow base 56 2 (.slice (some ⟨g, 0, none⟩) k.length c) k.length (flat k) := by
  rcases h.2 with ⟨h0, _⟩ | ⟨g', c', cur, hv, hb, hh, h1, h2, h3, h4⟩
  · cases h0
  cases hv
  refine ⟨flat_len k, .inr ⟨g, c, putCells id 0 (flatK encS 2 k.toArray) cur, rfl, hb, sp_cell_flat _ _ _ hh, by omega, h2, by simp [putCells, h3], ?_⟩⟩
  have := sp_take cur (flatK encS 2 k.toArray) (by simp; omega)
  rw [size_flatK, flatK_flat] at this
  simpa using this
theorem holds_own {w : World} {base g c : Nat} {l : List Sp} (h : w.ownsRow base 56 2 (.slice (some ⟨g, 0, none⟩) l.length c) l.length (flat l)) : HoldsK encS 2 w g 0 l.toArray := by
  intro j hj
  have hj' : j < l.length * 2 := by simpa using hj
  refine ⟨?_, by rw [Nat.zero_add]; exact World.ownsRow.frozenAt h j⟩
  rw [Nat.zero_add]
  rw [World.ownsRow.cellAt h j (by omega)]
  have e : (flatK encS 2 l.toArray)[j]! = (flatK encS 2 l.toArray).toList[j]'(by simpa using hj') := by rw [getElem!_pos _ j hj]; simp
  show (flat l)[j]? = some (id _)
  rw [e]
  have e2 := flatK_flat l.toArray
  simp only [id]
  rw [← List.getElem?_eq_getElem, e2]
theorem grown_sorted {w : World} {g n : Nat} {os : Array Obj} (k : Array Sp) : w.grownBy (sortWorldK encS 2 w g 0 n k os) (some g) := sp_grown _
end
end
section
open Go.ChangeShapes Go.WideShapes Go.ChangeAt Go.RowKit
open SpanM
section
open Go.Sort Go.Shelf
theorem own_sortedL {w : World} {base g c : Nat} {l k : List Sp} (h : w.ownsRow base 33 2 (.slice (some ⟨g, 0, none⟩) l.length c) l.length (flat l)) (hl : k.length = l.length) (n : Nat) (os : Array Obj) :
    (sortWorldK encS 2 w g 0 n k.toArray os).ownsRow base 33 2 (.slice (some ⟨g, 0, none⟩) k.length c) k.length (flat k) := by
  rcases h.2 with ⟨h0, _⟩ | ⟨g', c', cur, hv, hb, hh, h1, h2, h3, h4⟩
  · cases h0
  cases hv
  refine ⟨flat_len k, .inr ⟨g, c, putCells id 0 (flatK encS 2 k.toArray) cur, rfl, hb, sp_cell_flat _ _ _ hh, by omega, h2, by simp [putCells, h3], ?_⟩⟩
  have := sp_take cur (flatK encS 2 k.toArray) (by simp; omega)
  rw [size_flatK, flatK_flat] at this
  simpa using this
theorem holds_ownL {w : World} {base g c : Nat} {l : List Sp} (h : w.ownsRow base 33 2 (.slice (some ⟨g, 0, none⟩) l.length c) l.length (flat l)) : HoldsK encS 2 w g 0 l.toArray := by
  intro j hj
  have hj' : j < l.length * 2 := by simpa using hj
  refine ⟨?_, by rw [Nat.zero_add]; exact World.ownsRow.frozenAt h j⟩
  rw [Nat.zero_add]
  rw [World.ownsRow.cellAt h j (by omega)]
  have e : (flatK encS 2 l.toArray)[j]! = (flatK encS 2 l.toArray).toList[j]'(by simpa using hj') := by rw [getElem!_pos _ j hj]; simp
  show (flat l)[j]? = some (id _)
  rw [e]
  have e2 := flatK_flat l.toArray
  simp only [id]
  rw [← List.getElem?_eq_getElem, e2]
end
end
section
open Go.ChangeShapes Go.WideShapes Go.ChangeAt Go.RowKit
open SpanM
attribute [local go_sem ↓] Go.wp_at_zero Go.wp_at_succ
set_option maxRecDepth 100000
set_option linter.unusedVariables false
def ClCut (k m : Sp) (w : World) (v5 v6 : Value) (wx : World) : Prop := ∃ B5 B6 : Nat, v5 = .pointer (some ⟨B5, 0, none⟩) ∧ v6 = .pointer (some ⟨B6, 0, none⟩) ∧ (wx.cell? ⟨B5, 0, none⟩ = some (.int .i64 k.1) ∧ wx.cell? ⟨B5, 1, none⟩ = some (.int .i64 k.2) ∧ wx.cell? ⟨B6, 0, none⟩ = some (.int .i64 m.1) ∧ wx.cell? ⟨B6, 1, none⟩ = some (.int .i64 m.2)) ∧ Below w.heap.size w wx ∧ w.drawn ≤ wx.drawn
set_option maxHeartbeats 8000000 in
theorem closure_s (a b : Sp) (w : World) : Calls Tryz.prog 54 #[.agg #[.int .i64 a.1, .int .i64 a.2], .agg #[.int .i64 b.1, .int .i64 b.2]] w fun e w' => e = .returned (.int .i64 (cmpS (ky a) (ky b))) ∧ ∃ q os', w' = Go.Sort.grow (w.drewN q) os' := by
  obtain ⟨a1, a2⟩ := a
  obtain ⟨b1, b2⟩ := b
  obtain ⟨k, hk⟩ : ∃ k, ky (a1, a2) = k := ⟨_, rfl⟩
  obtain ⟨m, hm⟩ : ∃ m, ky (b1, b2) = m := ⟨_, rfl⟩
  have HA := hide (fun W => span_s a1 a2 k.1 k.2 (by rw [← hk]; rfl) (by rw [← hk]; rfl) W)
  have HB := hide (fun W => span_s b1 b2 m.1 m.2 (by rw [← hm]; rfl) (by rw [← hm]; rfl) W)
  rw [hk, hm]
  clear hk hm
  obtain ⟨k1, k2⟩ := k
  obtain ⟨m1, m2⟩ := m
  simp only at HA HB
  have HE := hide (show cmpS (k1, k2) (m1, m2) = if cmpI k1 m1 = 0 then cmpI k2 m2 else cmpI k1 m1 from rfl)
  generalize cmpS (k1, k2) (m1, m2) = r at *
  go_enter Tryz.func54, Tryz.ntmps54
  go_upto_region 1 with fail
  go_cut [5, 6] (fun v5 v6 wx => ClCut (k1, k2) (m1, m2) w v5 v6 wx)
  case first =>
    go_region_held3 (fun w' => w'.cell? ⟨w.heap.size, 0, none⟩ = some (.int .i64 a1) ∧ w'.cell? ⟨w.heap.size, 1, none⟩ = some (.int .i64 a2) ∧ w'.cell? ⟨w.heap.size + 1, 0, none⟩ = some (.int .i64 b1) ∧ w'.cell? ⟨w.heap.size + 1, 1, none⟩ = some (.int .i64 b2)) (((repeat' apply And.intro) <;> first | (go_simp; done) | (simp; done)))
      (first | (go_at_call 26; first | ((with_reducible refine (HA.out _).mono ?_); rintro e w1 ⟨rfl, rfl⟩) | ((with_reducible refine (HB.out _).mono ?_); rintro e w1 ⟨rfl, rfl⟩)))
    all_goals
      go_wp2_with fail
      go_meet
      refine ⟨_, _, rfl, rfl, ⟨by go_simp, by go_simp, by go_simp, by go_simp⟩, ?_, ?_⟩
      · repeat (first | exact bl_refl _ | refine bl_set ?_ (by simp) _ | refine bl_alloc ?_ _ | refine bl_drew ?_)
      · first | exact Nat.le_refl _ | exact Nat.le_succ _ | exact Nat.le_add_right _ _ | (show w.drawn ≤ w.drawn + 1 + 1; omega) | simp
  case rest =>
    obtain ⟨B5, B6, rfl, rfl, ⟨c1, c2, c3, c4⟩, hb, hd⟩ := hcut
    go_wp2
    go_region_held3 (fun w' => w'.cell? ⟨B5, 0, none⟩ = some (.int .i64 k1) ∧ w'.cell? ⟨B5, 1, none⟩ = some (.int .i64 k2) ∧ w'.cell? ⟨B6, 0, none⟩ = some (.int .i64 m1) ∧ w'.cell? ⟨B6, 1, none⟩ = some (.int .i64 m2)) (go_keep)
      (first | (go_at_call 56; refine (cmp_any _ _ _).mono ?_; rintro e w1 ⟨rfl, rfl⟩) | (go_at_call 55; refine (or_any _ (cmpI k1 m1) (cmpI k2 m2) r _ (by go_simp) (by go_simp) HE.out.symm).mono ?_; rintro e w1 ⟨rfl, rfl⟩))
    all_goals
      go_wp2
      go_ret
      refine ⟨rfl, grw_of ?_ ?_⟩
      · repeat (first | exact bl_refl _ | assumption | refine bl_set ?_ (by simp) _ | refine bl_alloc ?_ _ | refine bl_drew ?_ | refine bl_drewN ?_ _)
      · exact Nat.le_trans hd (by first | exact Nat.le_refl _ | exact Nat.le_succ _ | exact Nat.le_add_right _ _)
end
section
open Go.ChangeShapes Go.WideShapes Go.ChangeAt Go.RowKit
open SpanM
set_option maxRecDepth 100000
set_option linter.unusedVariables false
/-- Two parts of a row exchanged, one element after the other. -/
def swpL {α : Type} [Inhabited α] (l : List α) (i j : Nat) : List α := (l.set i l[j]!).set j l[i]!
def swR {α : Type} [Inhabited α] (l : List α) (a b : Nat) : Nat → List α
  | 0 => l
  | k + 1 => swpL (swR l a b k) (a + k) (b + k)
theorem swpL_len {α : Type} [Inhabited α] (l : List α) (i j : Nat) : (swpL l i j).length = l.length := by unfold swpL; simp
theorem swR_len {α : Type} [Inhabited α] (l : List α) (a b k : Nat) : (swR l a b k).length = l.length := by
  induction k with
  | zero => rfl
  | succ k ih => rw [swR, swpL_len, ih]
theorem swpL_at {α : Type} [Inhabited α] (A B C : List α) (x y : α) (i j : Nat) (hi : i = A.length) (hj : j = A.length + 1 + B.length) : swpL (A ++ x :: (B ++ y :: C)) i j = A ++ y :: (B ++ x :: C) := by
  subst hi hj
  have e1 : (A ++ x :: (B ++ y :: C))[A.length]! = x := by rw [getElem!_pos _ _ (by simp)]; simp
  have e2 : (A ++ x :: (B ++ y :: C))[A.length + 1 + B.length]! = y := by
    rw [getElem!_pos _ _ (by simp; omega), List.getElem_append_right (by omega)]
    simp only [show A.length + 1 + B.length - A.length = B.length + 1 by omega, List.getElem_cons_succ]
    rw [List.getElem_append_right (Nat.le_refl _)]
    simp
  unfold swpL
  rw [e1, e2, List.set_append_right _ _ (Nat.le_refl _), Nat.sub_self, List.set_cons_zero, List.set_append_right _ _ (by omega), show A.length + 1 + B.length - A.length = B.length + 1 by omega, List.set_cons_succ, List.set_append_right _ _ (Nat.le_refl _), Nat.sub_self, List.set_cons_zero]
theorem swR_at {α : Type} [Inhabited α] (P X M Y S : List α) (hXY : X.length = Y.length) : ∀ k, k ≤ X.length → swR (P ++ (X ++ (M ++ (Y ++ S)))) P.length (P.length + X.length + M.length) k = P ++ (Y.take k ++ (X.drop k ++ (M ++ (X.take k ++ (Y.drop k ++ S))))) := by
  intro k
  induction k with
  | zero => intro _; simp [swR]
  | succ k ih =>
    intro hk
    rw [swR, ih (by omega)]
    have hx : X.drop k = X[k] :: X.drop (k + 1) := List.drop_eq_getElem_cons (by omega)
    have hy : Y.drop k = Y[k] :: Y.drop (k + 1) := List.drop_eq_getElem_cons (by omega)
    have tx : X.take (k + 1) = X.take k ++ [X[k]] := List.take_succ_eq_append_getElem (by omega)
    have ty : Y.take (k + 1) = Y.take k ++ [Y[k]] := List.take_succ_eq_append_getElem (by omega)
    rw [hx, hy]
    have h := swpL_at (P ++ Y.take k) (X.drop (k + 1) ++ (M ++ X.take k)) (Y.drop (k + 1) ++ S) X[k] Y[k] (P.length + k) (P.length + X.length + M.length + k) (by rw [List.length_append, List.length_take]; omega) (by simp only [List.length_append, List.length_take, List.length_drop]; omega)
    rw [tx, ty]
    simp only [List.append_assoc, List.cons_append, List.nil_append] at h ⊢
    exact h
theorem swR_all {α : Type} [Inhabited α] (P X M Y S : List α) (hXY : X.length = Y.length) : swR (P ++ (X ++ (M ++ (Y ++ S)))) P.length (P.length + X.length + M.length) X.length = P ++ (Y ++ (M ++ (X ++ S))) := by
  have h := swR_at P X M Y S hXY X.length (Nat.le_refl _)
  have h1 : Y.take X.length = Y := by rw [hXY, List.take_length]
  have h2 : Y.drop X.length = [] := by rw [hXY, List.drop_length]
  rw [List.take_length, List.drop_length, List.nil_append, h1, h2, List.nil_append] at h
  exact h
theorem flat_set2 (l : List Sp) (i : Nat) (h : i < l.length) (s : Sp) : ((flat l).set (i * 2) (.int .i64 s.1)).set (i * 2 + 1) (.int .i64 s.2) = flat (l.set i s) := by
  induction l generalizing i with
  | nil => simp at h
  | cons a r ih =>
    cases i with
    | zero => rfl
    | succ i =>
      have e : ∀ (b : Sp) (q : List Sp), flat (b :: q) = .int .i64 b.1 :: .int .i64 b.2 :: flat q := fun _ _ => rfl
      have h1 : (i + 1) * 2 = i * 2 + 1 + 1 := by omega
      rw [e, h1, List.set_cons_succ, List.set_cons_succ, List.set_cons_succ, List.set_cons_succ, ih i (by simpa using h), List.set_cons_succ, e]
/-- A whole element stored into a row of one's own. -/
theorem own_put2 {w : World} {base g n c : Nat} {l : List Sp} (h : w.ownsRow base 33 2 (.slice (some ⟨g, 0, none⟩) n c) n (flat l)) (i : Nat) (hi : i < l.length) (s : Sp) :
    ((w.setCell ⟨g, i * 2, none⟩ (.int .i64 s.1)).setCell ⟨g, i * 2 + 1, none⟩ (.int .i64 s.2)).ownsRow base 33 2 (.slice (some ⟨g, 0, none⟩) n c) n (flat (l.set i s)) := by
  have h1 := (World.ownsRow.stored h (i * 2) (.int .i64 s.1)).1
  have h2 := (World.ownsRow.stored h1 (i * 2 + 1) (.int .i64 s.2)).1
  rw [flat_set2 l i hi s] at h2
  exact h2
set_option maxHeartbeats 8000000 in
theorem swapR_any (g c base n : Nat) (l : List Sp) (a b k : Nat) (fv : Value) (w : World) (h : w.ownsRow base 33 2 (.slice (some ⟨g, 0, none⟩) n c) n (flat l)) (hn : l.length = n) (hl : n ≤ 1000) (hab : a + k ≤ b) (hbn : b + k ≤ n) :
    Calls Tryz.prog 104 #[.slice (some ⟨g, 0, none⟩) n c, .int .i64 a, .int .i64 b, .int .i64 k, fv] w fun e w' => e = .returned (.tuple #[]) ∧ w.grownBy w' (some g) ∧ w'.ownsRow base 33 2 (.slice (some ⟨g, 0, none⟩) n c) n (flat (swR l a b k)) := by
  have H := hide h
  have HN := hide hn
  clear h hn
  go_enter Tryz.func104, Tryz.ntmps104
  go_wp2
  go_loopw [10] (fun v wr => ∃ i : Nat, v = .int .i64 i ∧ i ≤ k ∧ w.grownBy wr (some g) ∧ Hid (wr.ownsRow base 33 2 (.slice (some ⟨g, 0, none⟩) n c) n (flat (swR l a b i)))) (fun v _ => k - (intOf v).toNat)
  case atStart => exact ⟨0, rfl, Nat.zero_le _, grown_refl w _, H⟩
  case round =>
    obtain ⟨i, rfl, hi, hg, HO⟩ := hrel
    by_cases hlt : i < k
    · have hL : (swR l a b i).length = n := by rw [swR_len, HN.out]
      obtain ⟨p, hp⟩ : ∃ p, a + i = p := ⟨_, rfl⟩
      obtain ⟨q, hq⟩ : ∃ q, b + i = q := ⟨_, rfl⟩
      have hpn : p < n := by omega
      have hqn : q < n := by omega
      have hpq : p < q := by omega
      obtain ⟨L, hLL⟩ : ∃ L, swR l a b i = L := ⟨_, rfl⟩
      have hstep : swR l a b (i + 1) = (L.set p L[q]!).set q L[p]! := by rw [swR, hLL, hp, hq]; rfl
      rw [hLL] at hL HO
      have fp := flat_at L p (by omega)
      have fq := flat_at L q (by omega)
      rw [getElem!_pos L q (by omega), getElem!_pos L p (by omega)] at hstep
      obtain ⟨x, hx⟩ : ∃ x, L[p] = x := ⟨_, rfl⟩
      obtain ⟨y, hy⟩ : ∃ y, L[q] = y := ⟨_, rfl⟩
      rw [hx] at fp hstep
      rw [hy] at fq hstep
      have x1 : wr.cell? ⟨g, p * 2, none⟩ = some (.int .i64 x.1) := by rw [World.ownsRow.cellAt HO.out (p * 2) (by omega)]; exact fp.1
      have x2 : wr.cell? ⟨g, p * 2 + 1, none⟩ = some (.int .i64 x.2) := by rw [World.ownsRow.cellAt HO.out (p * 2 + 1) (by omega)]; exact fp.2
      have y1 : wr.cell? ⟨g, q * 2, none⟩ = some (.int .i64 y.1) := by rw [World.ownsRow.cellAt HO.out (q * 2) (by omega)]; exact fq.1
      have y2 : wr.cell? ⟨g, q * 2 + 1, none⟩ = some (.int .i64 y.2) := by rw [World.ownsRow.cellAt HO.out (q * 2 + 1) (by omega)]; exact fq.2
      have z1 := World.ownsRow.frozenAt HO.out (p * 2)
      have z2 := World.ownsRow.frozenAt HO.out (p * 2 + 1)
      have z3 := World.ownsRow.frozenAt HO.out (q * 2)
      have z4 := World.ownsRow.frozenAt HO.out (q * 2 + 1)
      have hw1 : (a : Int) + (i : Int) = (p : Int) := by omega
      have hw2 : (b : Int) + (i : Int) = (q : Int) := by omega
      have hw3 : IntKind.i64.wrap ((a : Int) + (i : Int)) = (p : Int) := by rw [IntWalk.i64_in _ (by omega)]; omega
      have hw4 : IntKind.i64.wrap ((b : Int) + (i : Int)) = (q : Int) := by rw [IntWalk.i64_in _ (by omega)]; omega
      have gp : decide (p < n) = true := decide_eq_true hpn
      have gq : decide (q < n) = true := decide_eq_true hqn
      have hne1 : p * 2 ≠ q * 2 := by omega
      have hne2 : p * 2 ≠ q * 2 + 1 := by omega
      have hne3 : p * 2 + 1 ≠ q * 2 := by omega
      have hne4 : p * 2 + 1 ≠ q * 2 + 1 := by omega
      have hLn := hL
      have hfin := fun (W : World) (hw : wr.grownBy W (some g)) (ho : W.ownsRow base 33 2 (.slice (some ⟨g, 0, none⟩) n c) n (flat L)) => own_put2 (own_put2 ho p (by omega) y) q (by rw [List.length_set]; omega) x
      rw [← hstep] at hfin
      have hfin2 := fun (W : World) (hw : wr.grownBy W (some g)) (ho : W.ownsRow base 33 2 (.slice (some ⟨g, 0, none⟩) n c) n (flat L)) => own_put2 (own_put2 ho q (by omega) x) p (by rw [List.length_set]; omega) y
      rw [List.set_comm _ _ (by omega : q ≠ p), ← hstep] at hfin2
      have HF := hide hfin
      have HF2 := hide hfin2
      have HS := hide hL
      clear hfin hfin2 hstep hL fp fq hx hy hLL hp hq hLn
      go_wp2
      go_region
      all_goals
        go_wp2
        refine ⟨?_, by first | (simp [intOf]; done) | (simp [intOf]; omega)⟩
        refine ⟨i + 1, by go_num, by omega, ?_, ?_⟩
        · exact hg.trans (by repeat (first | exact grown_refl _ _ | refine grown_drew ?_ | refine grown_set ?_ _ _))
        · first
            | exact World.ownsRow.drew (HF.out _ (grown_refl _ _) HO.out)
            | exact World.ownsRow.drew (HF2.out _ (grown_refl _ _) HO.out)
    · obtain rfl : i = k := by omega
      have gl : decide (i < i) = false := by simp
      go_wp2
      go_end0
      exact ⟨rfl, hg, HO.out⟩
end
section
open Go.ChangeShapes Go.WideShapes Go.ChangeAt Go.RowKit
open SpanM SelM
section
open Go.Sort Go.Proofs
def cmpL (a b : Sp) : Int := cmpS (ky a) (ky b)
theorem ltOf_lessL : ltOf cmpL = lessL := by
  funext a b
  unfold ltOf lessL cmpL
  show decide (cmpS (ky a) (ky b) < 0) = less (ky a) (ky b)
  rw [less_d, Bool.eq_iff_iff]
  unfold cmpS cmpI
  generalize ky a = x
  generalize ky b = y
  by_cases h1 : x.1 < y.1
  · simp [h1]
  · by_cases h2 : y.1 < x.1
    · simp [h1, h2]; omega
    · by_cases h3 : x.2 < y.2
      · simp [h1, h2, h3]; omega
      · by_cases h4 : y.2 < x.2
        · simp [h1, h2, h3, h4]
        · simp [h1, h2, h3, h4]
theorem insL_any (g c : Nat) (base : Nat) (l : List Sp) (a b : Nat) (w : World) (h : w.ownsRow base 33 2 (.slice (some ⟨g, 0, none⟩) l.length c) l.length (flat l)) (hab : a ≤ b) (hb : b ≤ l.length) (hl : l.length ≤ 1000) :
    Calls Tryz.prog 96 #[.slice (some ⟨g, 0, none⟩) l.length c, .int .i64 a, .int .i64 b, .func (.func 54) #[] #[]] w fun e w' =>
      e = .returned (.tuple #[]) ∧ w.grownBy w' (some g) ∧ ∀ k : List Sp, insertionSort lessL l.toArray a b = k.toArray → k.length = l.length → w'.ownsRow base 33 2 (.slice (some ⟨g, 0, none⟩) l.length c) l.length (flat k) := by
  have eg : ∀ args w, (callFunc 54 args).run Tryz.prog w = .ok (.enter 54 args) w := enters_of Tryz.func54 (by kernel_rfl) rfl
  have hg : g < w.heap.size := by
    rcases own_form h with ⟨h0, _⟩ | ⟨g', c', h0, _, h1, _⟩
    · cases h0
    · cases h0; exact h1
  have hcm : CmpLays Tryz.prog 54 #[] encS 2 cmpL g 0 l.toArray.size w := fun _ _ _ _ x y => closure_s x y _
  have hcon := AnyQ.insertionSortCmpFunc insL 2 (fun w => by kernel_rfl) (fun w => by kernel_rfl) encS (fun _ => rfl) (fun x v hv => by simp [encS] at hv; rcases hv with rfl | rfl <;> rfl) cmpL 54 #[] g 0 c a b l.toArray w eg hcm (holds_ownL h) hg hab (by simpa using hb) (by simp; omega)
  rw [ltOf_lessL] at hcon
  refine hcon.mono ?_
  rintro e w' ⟨he, n, os, rfl⟩
  refine ⟨he, ?_, fun k hk hkl => ?_⟩
  · exact sp_grown _
  · rw [hk]
    have := own_sortedL h hkl n os
    rw [hkl] at this
    exact this
end
theorem insL_none (fv : Value) (w : World) : Calls Tryz.prog 96 #[.slice none 0 0, .int .i64 0, .int .i64 0, fv] w fun e w' => e = .returned (.tuple #[]) ∧ w = w' := by
  go_enter Tryz.func96, Tryz.ntmps96
  go_wp2
  refine wp_loop_rounds 1 ?_
  rw [rounds_succ]
  go_wp2
  go_end0
  exact ⟨rfl, rfl⟩
set_option maxRecDepth 100000 in
set_option maxHeartbeats 2000000 in
theorem stableL_none (fv : Value) (w : World) : Calls Tryz.prog 82 #[.slice none 0 0, .int .i64 0, fv] w fun e w' => e = .returned (.tuple #[]) ∧ w = w' := by
  go_enter Tryz.func82, Tryz.ntmps82
  go_wp2
  refine wp_loop_rounds 1 ?_
  rw [rounds_succ]
  go_wp2_with (go_at_call 96; refine (insL_none _ _).mono ?_; rintro e w' ⟨rfl, rfl⟩)
  refine wp_loop_rounds 1 ?_
  rw [rounds_succ]
  go_wp2
  go_end0
  exact ⟨rfl, rfl⟩
section
open Go.Sort
theorem insSameL (l : List Sp) (a : Nat) : insertionSort lessL l.toArray a a = l.toArray := by
  unfold insertionSort; rw [insOuter_stop _ _ _ _ _ (by omega)]
set_option maxRecDepth 100000 in
set_option maxHeartbeats 4000000 in
theorem stableL_any (g c : Nat) (base : Nat) (l : List Sp) (w : World) (h : w.ownsRow base 33 2 (.slice (some ⟨g, 0, none⟩) l.length c) l.length (flat l)) (hl : l.length ≤ 20) :
    Calls Tryz.prog 82 #[.slice (some ⟨g, 0, none⟩) l.length c, .int .i64 l.length, .func (.func 54) #[] #[]] w fun e w' =>
      e = .returned (.tuple #[]) ∧ w.grownBy w' (some g) ∧ w'.ownsRow base 33 2 (.slice (some ⟨g, 0, none⟩) l.length c) l.length (flat (sortL l)) := by
  have H := hide h
  clear h
  have hfin' := insertionSort_list l
  have hsl := sortL_len l
  obtain ⟨S, hS⟩ : ∃ S, sortL l = S := ⟨_, rfl⟩
  rw [hS] at hfin' hsl ⊢
  have hfin := hide hfin'
  have HSL := hide hsl
  clear hS hsl hfin'
  by_cases h20 : l.length < 20
  · have hd : decide ((20 : Int) ≤ (l.length : Int)) = false := by simp; omega
    go_enter Tryz.func82, Tryz.ntmps82
    go_wp2
    refine wp_loop_rounds 1 ?_
    rw [rounds_succ]
    go_wp2_with fail
    refine (insL_any g c base l 0 l.length _ H.out (Nat.zero_le _) (Nat.le_refl _) (by omega)).mono ?_
    rintro e w1 ⟨rfl, hg1, ho1⟩
    have HO := hide (ho1 S hfin.out HSL.out)
    clear ho1
    go_wp2
    refine wp_loop_rounds 1 ?_
    rw [rounds_succ]
    go_wp2
    go_end0
    exact ⟨rfl, hg1, HO.out⟩
  · have h21 : l.length = 20 := by omega
    rw [h21]
    have hI := fun W (h : W.ownsRow base 33 2 (.slice (some ⟨g, 0, none⟩) l.length c) l.length (flat l)) => insL_any g c base l 0 l.length W h (Nat.zero_le _) (Nat.le_refl _) (by omega)
    have hJ := fun W (h : W.ownsRow base 33 2 (.slice (some ⟨g, 0, none⟩) S.length c) S.length (flat S)) => insL_any g c base S 20 20 W h (Nat.le_refl _) (by have := HSL.out; omega) (by have := HSL.out; omega)
    rw [HSL.out] at hJ
    have hfin' := hfin.out
    have hsl' := HSL.out
    have h0 := H.out
    rw [h21] at hI hJ hfin' hsl' h0
    have HI := hide hI
    have HJ := hide hJ
    have HF := hide hfin'
    have HS2 := hide hsl'
    have H0 := hide h0
    clear hI hJ hfin' hsl' h0 hfin HSL H h20 h21 hl
    go_enter Tryz.func82, Tryz.ntmps82
    go_wp2
    refine wp_loop_rounds 2 ?_
    rw [rounds_succ]
    go_wp2_with fail
    refine (HI.out _ H0.out).mono ?_
    rintro e w1 ⟨rfl, hg1, ho1⟩
    have HO := hide (ho1 S HF.out HS2.out)
    clear ho1
    go_wp2
    rw [rounds_succ]
    go_wp2_with fail
    refine (HJ.out _ HO.out).mono ?_
    rintro e w2 ⟨rfl, hg2, ho2⟩
    have HO2 := hide (ho2 S (insSameL S 20) (by rw [HS2.out]))
    clear ho2
    go_wp2
    refine wp_loop_rounds 1 ?_
    rw [rounds_succ]
    go_wp2
    go_end0
    exact ⟨rfl, hg1.trans hg2, HO2.out⟩
end
set_option maxRecDepth 100000 in
set_option maxHeartbeats 2000000 in
theorem sstableL_any (g c : Nat) (base : Nat) (l : List Sp) (w : World) (h : w.ownsRow base 33 2 (.slice (some ⟨g, 0, none⟩) l.length c) l.length (flat l)) (hl : l.length ≤ 20) :
    Calls Tryz.prog 53 #[.slice (some ⟨g, 0, none⟩) l.length c, .func (.func 54) #[] #[]] w fun e w' =>
      e = .returned (.tuple #[]) ∧ w.grownBy w' (some g) ∧ w'.ownsRow base 33 2 (.slice (some ⟨g, 0, none⟩) l.length c) l.length (flat (sortL l)) := by
  have H := hide h
  clear h
  go_enter Tryz.func53, Tryz.ntmps53
  go_wp2_with fail
  refine (stableL_any g c base l _ H.out hl).mono ?_
  rintro e w1 ⟨rfl, hg1, ho1⟩
  go_wp2
  go_end0
  exact ⟨rfl, hg1, ho1⟩
set_option maxRecDepth 100000 in
set_option maxHeartbeats 2000000 in
theorem sstableL_none (fv : Value) (w : World) : Calls Tryz.prog 53 #[.slice none 0 0, fv] w fun e w' => e = .returned (.tuple #[]) ∧ w = w' := by
  go_enter Tryz.func53, Tryz.ntmps53
  go_wp2_with (go_at_call 82; refine (stableL_none _ _).mono ?_; rintro e w' ⟨rfl, rfl⟩)
  go_end0
  exact ⟨rfl, rfl⟩
end
section
open Go.ChangeShapes Go.WideShapes Go.ChangeAt Go.RowKit
open SpanM
attribute [local go_sem ↓] Go.wp_at_zero Go.wp_at_succ
attribute [local go_sem] later_cell later_frozen
set_option maxRecDepth 100000
set_option linter.unusedVariables false
theorem span_b (a1 a2 : Int) (k : Sp) (hk : ky (a1, a2) = k) (w : World) : Calls Tryz.prog 26 #[.agg #[.int .i64 a1, .int .i64 a2]] w fun e w' => e = .returned (.agg #[.int .i64 k.1, .int .i64 k.2]) ∧ Below w.heap.size w w' := by
  subst hk
  refine (span_s a1 a2 _ _ rfl rfl w).mono ?_
  rintro e w' ⟨rfl, rfl⟩
  exact ⟨rfl, bl_alloc (bl_alloc (bl_refl w) _) _⟩
theorem touch_b (a b : Sp) (r : Bool) (h : touch a b = r) (w : World) : Calls Tryz.prog 57 #[.agg #[.int .i64 a.1, .int .i64 a.2], .agg #[.int .i64 b.1, .int .i64 b.2]] w fun e w' => e = .returned (.bool r) ∧ Below w.heap.size w w' := by subst h; exact touch_any a b w
theorem fld_sp0 (a b : Int) (w : World) : (Instr.field 56 (.agg #[.int .i64 a, .int .i64 b]) 0).run Tryz.prog w = .ok (.int .i64 a) w := by kernel_rfl
theorem fld_sp1 (a b : Int) (w : World) : (Instr.field 56 (.agg #[.int .i64 a, .int .i64 b]) 1).run Tryz.prog w = .ok (.int .i64 b) w := by kernel_rfl
attribute [local go_sem] fld_sp0 fld_sp1
/-- From the beginning of one to the end of either, the way that the one goes. -/
def covL (a b : Sp) : Sp := if a.2 < a.1 then (max (ky a).2 (ky b).2, (ky a).1) else ((ky a).1, max (ky a).2 (ky b).2)
set_option maxHeartbeats 4000000 in
theorem cover_s (a b : Sp) (w : World) : Calls Tryz.prog 58 #[.agg #[.int .i64 a.1, .int .i64 a.2], .agg #[.int .i64 b.1, .int .i64 b.2]] w fun e w' => e = .returned (.agg #[.int .i64 (covL a b).1, .int .i64 (covL a b).2]) ∧ Below w.heap.size w w' := by
  obtain ⟨a1, a2⟩ := a
  obtain ⟨b1, b2⟩ := b
  obtain ⟨⟨k1, k2⟩, hk⟩ : ∃ k, ky (a1, a2) = k := ⟨_, rfl⟩
  obtain ⟨⟨m1, m2⟩, hm⟩ : ∃ m, ky (b1, b2) = m := ⟨_, rfl⟩
  have hA : ∀ W, Calls Tryz.prog 26 #[.agg #[.int .i64 a1, .int .i64 a2]] W fun e w' => e = .returned (.agg #[.int .i64 k1, .int .i64 k2]) ∧ Below W.heap.size W w' := fun W => span_b a1 a2 (k1, k2) hk W
  have hB : ∀ W, Calls Tryz.prog 26 #[.agg #[.int .i64 b1, .int .i64 b2]] W fun e w' => e = .returned (.agg #[.int .i64 m1, .int .i64 m2]) ∧ Below W.heap.size W w' := fun W => span_b b1 b2 (m1, m2) hm W
  have HA := hide hA
  have HB := hide hB
  clear hA hB
  have hc : covL (a1, a2) (b1, b2) = if a2 < a1 then (max k2 m2, k1) else (k1, max k2 m2) := by unfold covL; rw [hk, hm]
  rw [hc]
  clear hk hm hc
  rcases Int.lt_trichotomy k2 m2 with hq | hq | hq
  · have e1 : max k2 m2 = m2 := by omega
    rw [e1]
    have o1 : k2 ≤ m2 := by omega
    have o2 : ¬ m2 < k2 := by omega
    have o3 : ¬ m2 ≤ k2 := by omega
    by_cases hd : a2 < a1
    · rw [if_pos hd]
      have gd : decide (a2 < a1) = true := decide_eq_true hd
      clear hd
      have hb0 : Below w.heap.size w (((w.alloc (.cells #[.int .i64 a1, .int .i64 a2] 33)).alloc (.cells #[.int .i64 b1, .int .i64 b2] 33)).alloc (.cells #[.int .i64 0, .int .i64 0] 33)) := bl_alloc (bl_alloc (bl_alloc (bl_refl w) _) _) _
      have h3 : (((w.alloc (.cells #[.int .i64 a1, .int .i64 a2] 33)).alloc (.cells #[.int .i64 b1, .int .i64 b2] 33)).alloc (.cells #[.int .i64 0, .int .i64 0] 33)).heap[w.heap.size + 1 + 1]? = some (.cells #[.int .i64 0, .int .i64 0] 33) := by
        have := heap_alloc_new ((w.alloc (.cells #[.int .i64 a1, .int .i64 a2] 33)).alloc (.cells #[.int .i64 b1, .int .i64 b2] 33)) (.cells #[.int .i64 0, .int .i64 0] 33)
        simpa using this
      go_enter Tryz.func58, Tryz.ntmps58
      go_wp2
      have c1 : (((w.alloc (.cells #[.int .i64 a1, .int .i64 a2] 33)).alloc (.cells #[.int .i64 b1, .int .i64 b2] 33)).alloc (.cells #[.int .i64 0, .int .i64 0] 33)).cell? ⟨w.heap.size, 0, none⟩ = some (.int .i64 a1) := by go_simp
      have c2 : (((w.alloc (.cells #[.int .i64 a1, .int .i64 a2] 33)).alloc (.cells #[.int .i64 b1, .int .i64 b2] 33)).alloc (.cells #[.int .i64 0, .int .i64 0] 33)).cell? ⟨w.heap.size, 1, none⟩ = some (.int .i64 a2) := by go_simp
      have c3 : (((w.alloc (.cells #[.int .i64 a1, .int .i64 a2] 33)).alloc (.cells #[.int .i64 b1, .int .i64 b2] 33)).alloc (.cells #[.int .i64 0, .int .i64 0] 33)).cell? ⟨w.heap.size + 1, 0, none⟩ = some (.int .i64 b1) := by go_simp
      have c4 : (((w.alloc (.cells #[.int .i64 a1, .int .i64 a2] 33)).alloc (.cells #[.int .i64 b1, .int .i64 b2] 33)).alloc (.cells #[.int .i64 0, .int .i64 0] 33)).cell? ⟨w.heap.size + 1, 1, none⟩ = some (.int .i64 b2) := by go_simp
      have n1 : w.heap.size < (((w.alloc (.cells #[.int .i64 a1, .int .i64 a2] 33)).alloc (.cells #[.int .i64 b1, .int .i64 b2] 33)).alloc (.cells #[.int .i64 0, .int .i64 0] 33)).heap.size := World.block_lt_of_cell? _ _ c1
      have n2 : w.heap.size + 1 < (((w.alloc (.cells #[.int .i64 a1, .int .i64 a2] 33)).alloc (.cells #[.int .i64 b1, .int .i64 b2] 33)).alloc (.cells #[.int .i64 0, .int .i64 0] 33)).heap.size := World.block_lt_of_cell? _ _ c3
      generalize (((w.alloc (.cells #[.int .i64 a1, .int .i64 a2] 33)).alloc (.cells #[.int .i64 b1, .int .i64 b2] 33)).alloc (.cells #[.int .i64 0, .int .i64 0] 33)) = W3 at *
      refine wp_region_later (by kernel_rfl) (by kernel_rfl) ?_
      repeat (go_big_quiet_step (first
        | (go_at_call_of 26 (Value.agg #[Value.int IntKind.i64 a1, Value.int IntKind.i64 a2]); exact later_call (HA.out _))
        | (go_at_call_of 26 (Value.agg #[Value.int IntKind.i64 b1, Value.int IntKind.i64 b2]); exact later_call (HB.out _))
        | exact rfl))
      refine wpQuiet_nil ?_
      rintro w9 ⟨⟨_, hb9⟩, rfl⟩
      have c1 := cell_later hb9 c1
      have c2 := cell_later hb9 c2
      have h9 : w9.heap[w.heap.size + 1 + 1]? = some (.cells #[.int .i64 0, .int .i64 0] 33) := (hb9.block _ (Array.getElem?_eq_some_iff.1 h3).1).trans h3
      have r1 : w9.cell? ⟨w.heap.size + 1 + 1, 0, none⟩ = some (.int .i64 0) := by rw [Lib.cell_of_heap h9]; rfl
      have r2 : w9.cell? ⟨w.heap.size + 1 + 1, 1, none⟩ = some (.int .i64 0) := by rw [Lib.cell_of_heap h9]; rfl
      have f1 : w9.frozen? ⟨w.heap.size + 1 + 1, 0, none⟩ = false := by simp [World.frozen?, h9]
      have f2 : w9.frozen? ⟨w.heap.size + 1 + 1, 1, none⟩ = false := by simp [World.frozen?, h9]
      have hbf := bl_set (bl_set (bl_trans hb0 hb9) (p := ⟨w.heap.size + 1 + 1, 0, none⟩) (by show w.heap.size ≤ w.heap.size + 1 + 1; omega) (.int .i64 m2)) (p := ⟨w.heap.size + 1 + 1, 1, none⟩) (by show w.heap.size ≤ w.heap.size + 1 + 1; omega) (.int .i64 k1)
      clear n1 n2 c3 c4 h3 hb0
      go_wp2
      refine bodyPost_ret (v := .agg #[.int .i64 m2, .int .i64 k1]) ?_ rfl ⟨rfl, hbf⟩
      rw [selres_cell1 rfl]
      go_simp
    · rw [if_neg hd]
      have gd : decide (a2 < a1) = false := decide_eq_false hd
      clear hd
      have hb0 : Below w.heap.size w (((w.alloc (.cells #[.int .i64 a1, .int .i64 a2] 33)).alloc (.cells #[.int .i64 b1, .int .i64 b2] 33)).alloc (.cells #[.int .i64 0, .int .i64 0] 33)) := bl_alloc (bl_alloc (bl_alloc (bl_refl w) _) _) _
      have h3 : (((w.alloc (.cells #[.int .i64 a1, .int .i64 a2] 33)).alloc (.cells #[.int .i64 b1, .int .i64 b2] 33)).alloc (.cells #[.int .i64 0, .int .i64 0] 33)).heap[w.heap.size + 1 + 1]? = some (.cells #[.int .i64 0, .int .i64 0] 33) := by
        have := heap_alloc_new ((w.alloc (.cells #[.int .i64 a1, .int .i64 a2] 33)).alloc (.cells #[.int .i64 b1, .int .i64 b2] 33)) (.cells #[.int .i64 0, .int .i64 0] 33)
        simpa using this
      go_enter Tryz.func58, Tryz.ntmps58
      go_wp2
      have c1 : (((w.alloc (.cells #[.int .i64 a1, .int .i64 a2] 33)).alloc (.cells #[.int .i64 b1, .int .i64 b2] 33)).alloc (.cells #[.int .i64 0, .int .i64 0] 33)).cell? ⟨w.heap.size, 0, none⟩ = some (.int .i64 a1) := by go_simp
      have c2 : (((w.alloc (.cells #[.int .i64 a1, .int .i64 a2] 33)).alloc (.cells #[.int .i64 b1, .int .i64 b2] 33)).alloc (.cells #[.int .i64 0, .int .i64 0] 33)).cell? ⟨w.heap.size, 1, none⟩ = some (.int .i64 a2) := by go_simp
      have c3 : (((w.alloc (.cells #[.int .i64 a1, .int .i64 a2] 33)).alloc (.cells #[.int .i64 b1, .int .i64 b2] 33)).alloc (.cells #[.int .i64 0, .int .i64 0] 33)).cell? ⟨w.heap.size + 1, 0, none⟩ = some (.int .i64 b1) := by go_simp
      have c4 : (((w.alloc (.cells #[.int .i64 a1, .int .i64 a2] 33)).alloc (.cells #[.int .i64 b1, .int .i64 b2] 33)).alloc (.cells #[.int .i64 0, .int .i64 0] 33)).cell? ⟨w.heap.size + 1, 1, none⟩ = some (.int .i64 b2) := by go_simp
      have n1 : w.heap.size < (((w.alloc (.cells #[.int .i64 a1, .int .i64 a2] 33)).alloc (.cells #[.int .i64 b1, .int .i64 b2] 33)).alloc (.cells #[.int .i64 0, .int .i64 0] 33)).heap.size := World.block_lt_of_cell? _ _ c1
      have n2 : w.heap.size + 1 < (((w.alloc (.cells #[.int .i64 a1, .int .i64 a2] 33)).alloc (.cells #[.int .i64 b1, .int .i64 b2] 33)).alloc (.cells #[.int .i64 0, .int .i64 0] 33)).heap.size := World.block_lt_of_cell? _ _ c3
      generalize (((w.alloc (.cells #[.int .i64 a1, .int .i64 a2] 33)).alloc (.cells #[.int .i64 b1, .int .i64 b2] 33)).alloc (.cells #[.int .i64 0, .int .i64 0] 33)) = W3 at *
      refine wp_region_later (by kernel_rfl) (by kernel_rfl) ?_
      repeat (go_big_quiet_step (first
        | (go_at_call_of 26 (Value.agg #[Value.int IntKind.i64 a1, Value.int IntKind.i64 a2]); exact later_call (HA.out _))
        | (go_at_call_of 26 (Value.agg #[Value.int IntKind.i64 b1, Value.int IntKind.i64 b2]); exact later_call (HB.out _))
        | exact rfl))
      refine wpQuiet_nil ?_
      rintro w9 ⟨⟨_, hb9⟩, rfl⟩
      have c1 := cell_later hb9 c1
      have c2 := cell_later hb9 c2
      have h9 : w9.heap[w.heap.size + 1 + 1]? = some (.cells #[.int .i64 0, .int .i64 0] 33) := (hb9.block _ (Array.getElem?_eq_some_iff.1 h3).1).trans h3
      have r1 : w9.cell? ⟨w.heap.size + 1 + 1, 0, none⟩ = some (.int .i64 0) := by rw [Lib.cell_of_heap h9]; rfl
      have r2 : w9.cell? ⟨w.heap.size + 1 + 1, 1, none⟩ = some (.int .i64 0) := by rw [Lib.cell_of_heap h9]; rfl
      have f1 : w9.frozen? ⟨w.heap.size + 1 + 1, 0, none⟩ = false := by simp [World.frozen?, h9]
      have f2 : w9.frozen? ⟨w.heap.size + 1 + 1, 1, none⟩ = false := by simp [World.frozen?, h9]
      have hbf := bl_set (bl_set (bl_trans hb0 hb9) (p := ⟨w.heap.size + 1 + 1, 0, none⟩) (by show w.heap.size ≤ w.heap.size + 1 + 1; omega) (.int .i64 k1)) (p := ⟨w.heap.size + 1 + 1, 1, none⟩) (by show w.heap.size ≤ w.heap.size + 1 + 1; omega) (.int .i64 m2)
      clear n1 n2 c3 c4 h3 hb0
      go_wp2
      refine bodyPost_ret (v := .agg #[.int .i64 k1, .int .i64 m2]) ?_ rfl ⟨rfl, hbf⟩
      rw [selres_cell1 rfl]
      go_simp
  · subst hq
    have e1 : max k2 k2 = k2 := by omega
    rw [e1]
    have o2 : ¬ k2 < k2 := by omega
    by_cases hd : a2 < a1
    · rw [if_pos hd]
      have gd : decide (a2 < a1) = true := decide_eq_true hd
      clear hd
      have hb0 : Below w.heap.size w (((w.alloc (.cells #[.int .i64 a1, .int .i64 a2] 33)).alloc (.cells #[.int .i64 b1, .int .i64 b2] 33)).alloc (.cells #[.int .i64 0, .int .i64 0] 33)) := bl_alloc (bl_alloc (bl_alloc (bl_refl w) _) _) _
      have h3 : (((w.alloc (.cells #[.int .i64 a1, .int .i64 a2] 33)).alloc (.cells #[.int .i64 b1, .int .i64 b2] 33)).alloc (.cells #[.int .i64 0, .int .i64 0] 33)).heap[w.heap.size + 1 + 1]? = some (.cells #[.int .i64 0, .int .i64 0] 33) := by
        have := heap_alloc_new ((w.alloc (.cells #[.int .i64 a1, .int .i64 a2] 33)).alloc (.cells #[.int .i64 b1, .int .i64 b2] 33)) (.cells #[.int .i64 0, .int .i64 0] 33)
        simpa using this
      go_enter Tryz.func58, Tryz.ntmps58
      go_wp2
      have c1 : (((w.alloc (.cells #[.int .i64 a1, .int .i64 a2] 33)).alloc (.cells #[.int .i64 b1, .int .i64 b2] 33)).alloc (.cells #[.int .i64 0, .int .i64 0] 33)).cell? ⟨w.heap.size, 0, none⟩ = some (.int .i64 a1) := by go_simp
      have c2 : (((w.alloc (.cells #[.int .i64 a1, .int .i64 a2] 33)).alloc (.cells #[.int .i64 b1, .int .i64 b2] 33)).alloc (.cells #[.int .i64 0, .int .i64 0] 33)).cell? ⟨w.heap.size, 1, none⟩ = some (.int .i64 a2) := by go_simp
      have c3 : (((w.alloc (.cells #[.int .i64 a1, .int .i64 a2] 33)).alloc (.cells #[.int .i64 b1, .int .i64 b2] 33)).alloc (.cells #[.int .i64 0, .int .i64 0] 33)).cell? ⟨w.heap.size + 1, 0, none⟩ = some (.int .i64 b1) := by go_simp
      have c4 : (((w.alloc (.cells #[.int .i64 a1, .int .i64 a2] 33)).alloc (.cells #[.int .i64 b1, .int .i64 b2] 33)).alloc (.cells #[.int .i64 0, .int .i64 0] 33)).cell? ⟨w.heap.size + 1, 1, none⟩ = some (.int .i64 b2) := by go_simp
      have n1 : w.heap.size < (((w.alloc (.cells #[.int .i64 a1, .int .i64 a2] 33)).alloc (.cells #[.int .i64 b1, .int .i64 b2] 33)).alloc (.cells #[.int .i64 0, .int .i64 0] 33)).heap.size := World.block_lt_of_cell? _ _ c1
      have n2 : w.heap.size + 1 < (((w.alloc (.cells #[.int .i64 a1, .int .i64 a2] 33)).alloc (.cells #[.int .i64 b1, .int .i64 b2] 33)).alloc (.cells #[.int .i64 0, .int .i64 0] 33)).heap.size := World.block_lt_of_cell? _ _ c3
      generalize (((w.alloc (.cells #[.int .i64 a1, .int .i64 a2] 33)).alloc (.cells #[.int .i64 b1, .int .i64 b2] 33)).alloc (.cells #[.int .i64 0, .int .i64 0] 33)) = W3 at *
      refine wp_region_later (by kernel_rfl) (by kernel_rfl) ?_
      repeat (go_big_quiet_step (first
        | (go_at_call_of 26 (Value.agg #[Value.int IntKind.i64 a1, Value.int IntKind.i64 a2]); exact later_call (HA.out _))
        | (go_at_call_of 26 (Value.agg #[Value.int IntKind.i64 b1, Value.int IntKind.i64 b2]); exact later_call (HB.out _))
        | exact rfl))
      refine wpQuiet_nil ?_
      rintro w9 ⟨⟨_, hb9⟩, rfl⟩
      have c1 := cell_later hb9 c1
      have c2 := cell_later hb9 c2
      have h9 : w9.heap[w.heap.size + 1 + 1]? = some (.cells #[.int .i64 0, .int .i64 0] 33) := (hb9.block _ (Array.getElem?_eq_some_iff.1 h3).1).trans h3
      have r1 : w9.cell? ⟨w.heap.size + 1 + 1, 0, none⟩ = some (.int .i64 0) := by rw [Lib.cell_of_heap h9]; rfl
      have r2 : w9.cell? ⟨w.heap.size + 1 + 1, 1, none⟩ = some (.int .i64 0) := by rw [Lib.cell_of_heap h9]; rfl
      have f1 : w9.frozen? ⟨w.heap.size + 1 + 1, 0, none⟩ = false := by simp [World.frozen?, h9]
      have f2 : w9.frozen? ⟨w.heap.size + 1 + 1, 1, none⟩ = false := by simp [World.frozen?, h9]
      have hbf := bl_set (bl_set (bl_trans hb0 hb9) (p := ⟨w.heap.size + 1 + 1, 0, none⟩) (by show w.heap.size ≤ w.heap.size + 1 + 1; omega) (.int .i64 k2)) (p := ⟨w.heap.size + 1 + 1, 1, none⟩) (by show w.heap.size ≤ w.heap.size + 1 + 1; omega) (.int .i64 k1)
      clear n1 n2 c3 c4 h3 hb0
      go_wp2
      refine bodyPost_ret (v := .agg #[.int .i64 k2, .int .i64 k1]) ?_ rfl ⟨rfl, hbf⟩
      rw [selres_cell1 rfl]
      go_simp
    · rw [if_neg hd]
      have gd : decide (a2 < a1) = false := decide_eq_false hd
      clear hd
      have hb0 : Below w.heap.size w (((w.alloc (.cells #[.int .i64 a1, .int .i64 a2] 33)).alloc (.cells #[.int .i64 b1, .int .i64 b2] 33)).alloc (.cells #[.int .i64 0, .int .i64 0] 33)) := bl_alloc (bl_alloc (bl_alloc (bl_refl w) _) _) _
      have h3 : (((w.alloc (.cells #[.int .i64 a1, .int .i64 a2] 33)).alloc (.cells #[.int .i64 b1, .int .i64 b2] 33)).alloc (.cells #[.int .i64 0, .int .i64 0] 33)).heap[w.heap.size + 1 + 1]? = some (.cells #[.int .i64 0, .int .i64 0] 33) := by
        have := heap_alloc_new ((w.alloc (.cells #[.int .i64 a1, .int .i64 a2] 33)).alloc (.cells #[.int .i64 b1, .int .i64 b2] 33)) (.cells #[.int .i64 0, .int .i64 0] 33)
        simpa using this
      go_enter Tryz.func58, Tryz.ntmps58
      go_wp2
      have c1 : (((w.alloc (.cells #[.int .i64 a1, .int .i64 a2] 33)).alloc (.cells #[.int .i64 b1, .int .i64 b2] 33)).alloc (.cells #[.int .i64 0, .int .i64 0] 33)).cell? ⟨w.heap.size, 0, none⟩ = some (.int .i64 a1) := by go_simp
      have c2 : (((w.alloc (.cells #[.int .i64 a1, .int .i64 a2] 33)).alloc (.cells #[.int .i64 b1, .int .i64 b2] 33)).alloc (.cells #[.int .i64 0, .int .i64 0] 33)).cell? ⟨w.heap.size, 1, none⟩ = some (.int .i64 a2) := by go_simp
      have c3 : (((w.alloc (.cells #[.int .i64 a1, .int .i64 a2] 33)).alloc (.cells #[.int .i64 b1, .int .i64 b2] 33)).alloc (.cells #[.int .i64 0, .int .i64 0] 33)).cell? ⟨w.heap.size + 1, 0, none⟩ = some (.int .i64 b1) := by go_simp
      have c4 : (((w.alloc (.cells #[.int .i64 a1, .int .i64 a2] 33)).alloc (.cells #[.int .i64 b1, .int .i64 b2] 33)).alloc (.cells #[.int .i64 0, .int .i64 0] 33)).cell? ⟨w.heap.size + 1, 1, none⟩ = some (.int .i64 b2) := by go_simp
      have n1 : w.heap.size < (((w.alloc (.cells #[.int .i64 a1, .int .i64 a2] 33)).alloc (.cells #[.int .i64 b1, .int .i64 b2] 33)).alloc (.cells #[.int .i64 0, .int .i64 0] 33)).heap.size := World.block_lt_of_cell? _ _ c1
      have n2 : w.heap.size + 1 < (((w.alloc (.cells #[.int .i64 a1, .int .i64 a2] 33)).alloc (.cells #[.int .i64 b1, .int .i64 b2] 33)).alloc (.cells #[.int .i64 0, .int .i64 0] 33)).heap.size := World.block_lt_of_cell? _ _ c3
      generalize (((w.alloc (.cells #[.int .i64 a1, .int .i64 a2] 33)).alloc (.cells #[.int .i64 b1, .int .i64 b2] 33)).alloc (.cells #[.int .i64 0, .int .i64 0] 33)) = W3 at *
      refine wp_region_later (by kernel_rfl) (by kernel_rfl) ?_
      repeat (go_big_quiet_step (first
        | (go_at_call_of 26 (Value.agg #[Value.int IntKind.i64 a1, Value.int IntKind.i64 a2]); exact later_call (HA.out _))
        | (go_at_call_of 26 (Value.agg #[Value.int IntKind.i64 b1, Value.int IntKind.i64 b2]); exact later_call (HB.out _))
        | exact rfl))
      refine wpQuiet_nil ?_
      rintro w9 ⟨⟨_, hb9⟩, rfl⟩
      have c1 := cell_later hb9 c1
      have c2 := cell_later hb9 c2
      have h9 : w9.heap[w.heap.size + 1 + 1]? = some (.cells #[.int .i64 0, .int .i64 0] 33) := (hb9.block _ (Array.getElem?_eq_some_iff.1 h3).1).trans h3
      have r1 : w9.cell? ⟨w.heap.size + 1 + 1, 0, none⟩ = some (.int .i64 0) := by rw [Lib.cell_of_heap h9]; rfl
      have r2 : w9.cell? ⟨w.heap.size + 1 + 1, 1, none⟩ = some (.int .i64 0) := by rw [Lib.cell_of_heap h9]; rfl
      have f1 : w9.frozen? ⟨w.heap.size + 1 + 1, 0, none⟩ = false := by simp [World.frozen?, h9]
      have f2 : w9.frozen? ⟨w.heap.size + 1 + 1, 1, none⟩ = false := by simp [World.frozen?, h9]
      have hbf := bl_set (bl_set (bl_trans hb0 hb9) (p := ⟨w.heap.size + 1 + 1, 0, none⟩) (by show w.heap.size ≤ w.heap.size + 1 + 1; omega) (.int .i64 k1)) (p := ⟨w.heap.size + 1 + 1, 1, none⟩) (by show w.heap.size ≤ w.heap.size + 1 + 1; omega) (.int .i64 k2)
      clear n1 n2 c3 c4 h3 hb0
      go_wp2
      refine bodyPost_ret (v := .agg #[.int .i64 k1, .int .i64 k2]) ?_ rfl ⟨rfl, hbf⟩
      rw [selres_cell1 rfl]
      go_simp
  · have e1 : max k2 m2 = k2 := by omega
    rw [e1]
    have o1 : m2 ≤ k2 := by omega
    have o2 : ¬ k2 < m2 := by omega
    have o3 : ¬ k2 ≤ m2 := by omega
    by_cases hd : a2 < a1
    · rw [if_pos hd]
      have gd : decide (a2 < a1) = true := decide_eq_true hd
      clear hd
      have hb0 : Below w.heap.size w (((w.alloc (.cells #[.int .i64 a1, .int .i64 a2] 33)).alloc (.cells #[.int .i64 b1, .int .i64 b2] 33)).alloc (.cells #[.int .i64 0, .int .i64 0] 33)) := bl_alloc (bl_alloc (bl_alloc (bl_refl w) _) _) _
      have h3 : (((w.alloc (.cells #[.int .i64 a1, .int .i64 a2] 33)).alloc (.cells #[.int .i64 b1, .int .i64 b2] 33)).alloc (.cells #[.int .i64 0, .int .i64 0] 33)).heap[w.heap.size + 1 + 1]? = some (.cells #[.int .i64 0, .int .i64 0] 33) := by
        have := heap_alloc_new ((w.alloc (.cells #[.int .i64 a1, .int .i64 a2] 33)).alloc (.cells #[.int .i64 b1, .int .i64 b2] 33)) (.cells #[.int .i64 0, .int .i64 0] 33)
        simpa using this
      go_enter Tryz.func58, Tryz.ntmps58
      go_wp2
      have c1 : (((w.alloc (.cells #[.int .i64 a1, .int .i64 a2] 33)).alloc (.cells #[.int .i64 b1, .int .i64 b2] 33)).alloc (.cells #[.int .i64 0, .int .i64 0] 33)).cell? ⟨w.heap.size, 0, none⟩ = some (.int .i64 a1) := by go_simp
      have c2 : (((w.alloc (.cells #[.int .i64 a1, .int .i64 a2] 33)).alloc (.cells #[.int .i64 b1, .int .i64 b2] 33)).alloc (.cells #[.int .i64 0, .int .i64 0] 33)).cell? ⟨w.heap.size, 1, none⟩ = some (.int .i64 a2) := by go_simp
      have c3 : (((w.alloc (.cells #[.int .i64 a1, .int .i64 a2] 33)).alloc (.cells #[.int .i64 b1, .int .i64 b2] 33)).alloc (.cells #[.int .i64 0, .int .i64 0] 33)).cell? ⟨w.heap.size + 1, 0, none⟩ = some (.int .i64 b1) := by go_simp
      have c4 : (((w.alloc (.cells #[.int .i64 a1, .int .i64 a2] 33)).alloc (.cells #[.int .i64 b1, .int .i64 b2] 33)).alloc (.cells #[.int .i64 0, .int .i64 0] 33)).cell? ⟨w.heap.size + 1, 1, none⟩ = some (.int .i64 b2) := by go_simp
      have n1 : w.heap.size < (((w.alloc (.cells #[.int .i64 a1, .int .i64 a2] 33)).alloc (.cells #[.int .i64 b1, .int .i64 b2] 33)).alloc (.cells #[.int .i64 0, .int .i64 0] 33)).heap.size := World.block_lt_of_cell? _ _ c1
      have n2 : w.heap.size + 1 < (((w.alloc (.cells #[.int .i64 a1, .int .i64 a2] 33)).alloc (.cells #[.int .i64 b1, .int .i64 b2] 33)).alloc (.cells #[.int .i64 0, .int .i64 0] 33)).heap.size := World.block_lt_of_cell? _ _ c3
      generalize (((w.alloc (.cells #[.int .i64 a1, .int .i64 a2] 33)).alloc (.cells #[.int .i64 b1, .int .i64 b2] 33)).alloc (.cells #[.int .i64 0, .int .i64 0] 33)) = W3 at *
      refine wp_region_later (by kernel_rfl) (by kernel_rfl) ?_
      repeat (go_big_quiet_step (first
        | (go_at_call_of 26 (Value.agg #[Value.int IntKind.i64 a1, Value.int IntKind.i64 a2]); exact later_call (HA.out _))
        | (go_at_call_of 26 (Value.agg #[Value.int IntKind.i64 b1, Value.int IntKind.i64 b2]); exact later_call (HB.out _))
        | exact rfl))
      refine wpQuiet_nil ?_
      rintro w9 ⟨⟨_, hb9⟩, rfl⟩
      have c1 := cell_later hb9 c1
      have c2 := cell_later hb9 c2
      have h9 : w9.heap[w.heap.size + 1 + 1]? = some (.cells #[.int .i64 0, .int .i64 0] 33) := (hb9.block _ (Array.getElem?_eq_some_iff.1 h3).1).trans h3
      have r1 : w9.cell? ⟨w.heap.size + 1 + 1, 0, none⟩ = some (.int .i64 0) := by rw [Lib.cell_of_heap h9]; rfl
      have r2 : w9.cell? ⟨w.heap.size + 1 + 1, 1, none⟩ = some (.int .i64 0) := by rw [Lib.cell_of_heap h9]; rfl
      have f1 : w9.frozen? ⟨w.heap.size + 1 + 1, 0, none⟩ = false := by simp [World.frozen?, h9]
      have f2 : w9.frozen? ⟨w.heap.size + 1 + 1, 1, none⟩ = false := by simp [World.frozen?, h9]
      have hbf := bl_set (bl_set (bl_trans hb0 hb9) (p := ⟨w.heap.size + 1 + 1, 0, none⟩) (by show w.heap.size ≤ w.heap.size + 1 + 1; omega) (.int .i64 k2)) (p := ⟨w.heap.size + 1 + 1, 1, none⟩) (by show w.heap.size ≤ w.heap.size + 1 + 1; omega) (.int .i64 k1)
      clear n1 n2 c3 c4 h3 hb0
      go_wp2
      refine bodyPost_ret (v := .agg #[.int .i64 k2, .int .i64 k1]) ?_ rfl ⟨rfl, hbf⟩
      rw [selres_cell1 rfl]
      go_simp
    · rw [if_neg hd]
      have gd : decide (a2 < a1) = false := decide_eq_false hd
      clear hd
      have hb0 : Below w.heap.size w (((w.alloc (.cells #[.int .i64 a1, .int .i64 a2] 33)).alloc (.cells #[.int .i64 b1, .int .i64 b2] 33)).alloc (.cells #[.int .i64 0, .int .i64 0] 33)) := bl_alloc (bl_alloc (bl_alloc (bl_refl w) _) _) _
      have h3 : (((w.alloc (.cells #[.int .i64 a1, .int .i64 a2] 33)).alloc (.cells #[.int .i64 b1, .int .i64 b2] 33)).alloc (.cells #[.int .i64 0, .int .i64 0] 33)).heap[w.heap.size + 1 + 1]? = some (.cells #[.int .i64 0, .int .i64 0] 33) := by
        have := heap_alloc_new ((w.alloc (.cells #[.int .i64 a1, .int .i64 a2] 33)).alloc (.cells #[.int .i64 b1, .int .i64 b2] 33)) (.cells #[.int .i64 0, .int .i64 0] 33)
        simpa using this
      go_enter Tryz.func58, Tryz.ntmps58
      go_wp2
      have c1 : (((w.alloc (.cells #[.int .i64 a1, .int .i64 a2] 33)).alloc (.cells #[.int .i64 b1, .int .i64 b2] 33)).alloc (.cells #[.int .i64 0, .int .i64 0] 33)).cell? ⟨w.heap.size, 0, none⟩ = some (.int .i64 a1) := by go_simp
      have c2 : (((w.alloc (.cells #[.int .i64 a1, .int .i64 a2] 33)).alloc (.cells #[.int .i64 b1, .int .i64 b2] 33)).alloc (.cells #[.int .i64 0, .int .i64 0] 33)).cell? ⟨w.heap.size, 1, none⟩ = some (.int .i64 a2) := by go_simp
      have c3 : (((w.alloc (.cells #[.int .i64 a1, .int .i64 a2] 33)).alloc (.cells #[.int .i64 b1, .int .i64 b2] 33)).alloc (.cells #[.int .i64 0, .int .i64 0] 33)).cell? ⟨w.heap.size + 1, 0, none⟩ = some (.int .i64 b1) := by go_simp
      have c4 : (((w.alloc (.cells #[.int .i64 a1, .int .i64 a2] 33)).alloc (.cells #[.int .i64 b1, .int .i64 b2] 33)).alloc (.cells #[.int .i64 0, .int .i64 0] 33)).cell? ⟨w.heap.size + 1, 1, none⟩ = some (.int .i64 b2) := by go_simp
      have n1 : w.heap.size < (((w.alloc (.cells #[.int .i64 a1, .int .i64 a2] 33)).alloc (.cells #[.int .i64 b1, .int .i64 b2] 33)).alloc (.cells #[.int .i64 0, .int .i64 0] 33)).heap.size := World.block_lt_of_cell? _ _ c1
      have n2 : w.heap.size + 1 < (((w.alloc (.cells #[.int .i64 a1, .int .i64 a2] 33)).alloc (.cells #[.int .i64 b1, .int .i64 b2] 33)).alloc (.cells #[.int .i64 0, .int .i64 0] 33)).heap.size := World.block_lt_of_cell? _ _ c3
      generalize (((w.alloc (.cells #[.int .i64 a1, .int .i64 a2] 33)).alloc (.cells #[.int .i64 b1, .int .i64 b2] 33)).alloc (.cells #[.int .i64 0, .int .i64 0] 33)) = W3 at *
      refine wp_region_later (by kernel_rfl) (by kernel_rfl) ?_
      repeat (go_big_quiet_step (first
        | (go_at_call_of 26 (Value.agg #[Value.int IntKind.i64 a1, Value.int IntKind.i64 a2]); exact later_call (HA.out _))
        | (go_at_call_of 26 (Value.agg #[Value.int IntKind.i64 b1, Value.int IntKind.i64 b2]); exact later_call (HB.out _))
        | exact rfl))
      refine wpQuiet_nil ?_
      rintro w9 ⟨⟨_, hb9⟩, rfl⟩
      have c1 := cell_later hb9 c1
      have c2 := cell_later hb9 c2
      have h9 : w9.heap[w.heap.size + 1 + 1]? = some (.cells #[.int .i64 0, .int .i64 0] 33) := (hb9.block _ (Array.getElem?_eq_some_iff.1 h3).1).trans h3
      have r1 : w9.cell? ⟨w.heap.size + 1 + 1, 0, none⟩ = some (.int .i64 0) := by rw [Lib.cell_of_heap h9]; rfl
      have r2 : w9.cell? ⟨w.heap.size + 1 + 1, 1, none⟩ = some (.int .i64 0) := by rw [Lib.cell_of_heap h9]; rfl
      have f1 : w9.frozen? ⟨w.heap.size + 1 + 1, 0, none⟩ = false := by simp [World.frozen?, h9]
      have f2 : w9.frozen? ⟨w.heap.size + 1 + 1, 1, none⟩ = false := by simp [World.frozen?, h9]
      have hbf := bl_set (bl_set (bl_trans hb0 hb9) (p := ⟨w.heap.size + 1 + 1, 0, none⟩) (by show w.heap.size ≤ w.heap.size + 1 + 1; omega) (.int .i64 k1)) (p := ⟨w.heap.size + 1 + 1, 1, none⟩) (by show w.heap.size ≤ w.heap.size + 1 + 1; omega) (.int .i64 k2)
      clear n1 n2 c3 c4 h3 hb0
      go_wp2
      refine bodyPost_ret (v := .agg #[.int .i64 k1, .int .i64 k2]) ?_ rfl ⟨rfl, hbf⟩
      rw [selres_cell1 rfl]
      go_simp
end
section
open Go.ChangeShapes Go.WideShapes Go.ChangeAt Go.RowKit
open SpanM SelM
attribute [local go_sem ↓] Go.wp_at_zero Go.wp_at_succ
attribute [local go_sem] later_cell later_frozen
set_option maxRecDepth 100000
set_option linter.unusedVariables false
/-- The library's stable sort puts up to K selections in order. -/
def StabOK (K : Nat) : Prop := ∀ (g c base : Nat) (l : List Sp) (w : World), w.ownsRow base 33 2 (.slice (some ⟨g, 0, none⟩) l.length c) l.length (flat l) → l.length ≤ K →
  Calls Tryz.prog 53 #[.slice (some ⟨g, 0, none⟩) l.length c, .func (.func 54) #[] #[]] w fun e w' =>
    e = .returned (.tuple #[]) ∧ w.grownBy w' (some g) ∧ w'.ownsRow base 33 2 (.slice (some ⟨g, 0, none⟩) l.length c) l.length (flat (sortL l))
theorem stab20 : StabOK 20 := fun g c base l w h hl => sstableL_any g c base l w h hl
def stepL (acc : List Sp) (s : Sp) : List Sp := match acc.getLast? with
  | none => [s]
  | some t => if touch (ky t) (ky s) = true then acc.dropLast ++ [covL t s] else acc ++ [s]
def mrgF (l : List Sp) : List Sp := l.foldl stepL []
theorem mrg_snoc (l : List Sp) (k : Nat) (h : k < l.length) : mrgF (l.take (k + 1)) = stepL (mrgF (l.take k)) l[k] := by
  unfold mrgF; rw [List.take_succ_eq_append_getElem h, List.foldl_append]; rfl
theorem stL_nil (s : Sp) : stepL [] s = [] ++ [s] := rfl
theorem stL_on (a0 : List Sp) (t s : Sp) (h : touch (ky t) (ky s) = true) : stepL (a0 ++ [t]) s = a0 ++ [covL t s] := by unfold stepL; simp [h]
theorem stL_new (a0 : List Sp) (t s : Sp) (h : touch (ky t) (ky s) = false) : stepL (a0 ++ [t]) s = a0 ++ [t] ++ [s] := by unfold stepL; simp [h]
theorem stLL_len (acc : List Sp) (s : Sp) : (stepL acc s).length ≤ acc.length + 1 := by
  rcases List.eq_nil_or_concat acc with rfl | ⟨a0, t, rfl⟩
  · simp [stepL]
  · rw [List.concat_eq_append]
    rcases h : touch (ky t) (ky s) with _ | _
    · rw [stL_new a0 t s h]; simp
    · rw [stL_on a0 t s h]; simp
theorem mrg_le (l : List Sp) (k : Nat) : (mrgF (l.take k)).length ≤ k := by
  induction k with
  | zero => simp [mrgF]
  | succ k ih =>
    by_cases h : k < l.length
    · rw [mrg_snoc l k h]
      have := stLL_len (mrgF (l.take k)) l[k]
      omega
    · have e : l.take (k + 1) = l.take k := by rw [List.take_of_length_le (by omega), List.take_of_length_le (by omega)]
      rw [e]; omega
theorem lstep (M S A : List Sp) (i k : Nat) (x : Sp) (hi : i ≤ k) (hM : M.length = S.length) (hk : k < S.length) (hd : M.drop k = S.drop k) (ht : M.take i = A) :
    (M.set i x).take (i + 1) = A ++ [x] ∧ (M.set i x).drop (k + 1) = S.drop (k + 1) ∧ (M.set i x).length = S.length := by
  refine ⟨?_, ?_, by simp [hM]⟩
  · rw [List.take_succ_eq_append_getElem (by simp; omega), List.getElem_set_self, List.take_set_of_le (Nat.le_refl i), ht]
  · rw [List.drop_set_of_lt (by omega), ← List.drop_drop, hd, List.drop_drop]
theorem lget (M S : List Sp) (k : Nat) (hM : M.length = S.length) (hk : k < S.length) (hd : M.drop k = S.drop k) : M[k]'(by omega) = S[k] := by
  have h1 := List.drop_eq_getElem_cons (l := M) (i := k) (by omega)
  have h2 := List.drop_eq_getElem_cons hk
  rw [h1, h2] at hd
  exact (List.cons.inj hd).1
theorem flat_take' (l : List Sp) (k : Nat) : (flat l).take (k * 2) = flat (l.take k) := by
  induction l generalizing k with
  | nil => simp [flat]
  | cons a r ih =>
    cases k with
    | zero => simp [flat]
    | succ k =>
      have e : ∀ (b : Sp) (q : List Sp), flat (b :: q) = .int .i64 b.1 :: .int .i64 b.2 :: flat q := fun _ _ => rfl
      rw [show (k + 1) * 2 = k * 2 + 1 + 1 by omega, e, List.take_succ_cons, List.take_succ_cons, ih k, List.take_succ_cons, e]
def LInv (S : List Sp) (w0 : World) (g c : Nat) (v i : Value) (wr : World) : Prop :=
  ∃ (k n : Nat) (acc M : List Sp), i = .int .i64 k ∧ k ≤ S.length ∧ Hid (mrgF (S.take k) = acc) ∧ n ≤ k ∧ Hid (acc.length = n) ∧ v = .slice (some ⟨g, 0, none⟩) n c ∧ Hid (M.length = S.length) ∧ Hid (M.take n = acc) ∧ Hid (M.drop k = S.drop k) ∧
    wr.ownsRow w0.heap.size 33 2 (.slice (some ⟨g, 0, none⟩) S.length c) S.length (flat M) ∧ Below w0.heap.size w0 wr
def MrgPostL (w0 : World) (U : List Sp) (e : Ending) (w' : World) : Prop := ∃ v', e = .returned v' ∧ Below w0.heap.size w0 w' ∧ w'.ownsRow w0.heap.size 33 2 v' U.length (flat U)
set_option maxHeartbeats 8000000 in
theorem mergeL_any {K : Nat} (hst : StabOK K) (w0 : World) (g c : Nat) (l U : List Sp) (w : World) (hb0 : Below w0.heap.size w0 w) (h : w.ownsRow w0.heap.size 33 2 (.slice (some ⟨g, 0, none⟩) l.length c) l.length (flat l)) (hl : l.length ≤ K) (hU : mrgF (sortL l) = U) :
    Calls Tryz.prog 27 #[.slice (some ⟨g, 0, none⟩) l.length c] w (MrgPostL w0 U) := by
  obtain ⟨i0, hi0, hz0', hz1, hz2⟩ := info_parts info_sl
  rcases own_form h with ⟨h1, _⟩ | ⟨g', c', h1, h2, h3, h4, h5, _⟩
  · cases h1
  cases h1
  have HO := hide h
  have HU2 := hide hU
  clear h hU
  go_enter Tryz.func27, Tryz.ntmps27
  go_wp2_with fail
  refine (hst g c w0.heap.size l _ HO.out hl).mono ?_
  clear hst
  rintro e w2 ⟨rfl, hg2, ho2⟩
  have hb2 : Below w0.heap.size w0 w2 := bl_grown hb0 hg2 (fun k hk => by cases hk; exact h2)
  have hS := sortL_len l
  obtain ⟨S, hSS⟩ : ∃ S, sortL l = S := ⟨_, rfl⟩
  rw [hSS] at hS ho2
  have hU3 := HU2.out
  rw [hSS] at hU3
  have HU3 := hide hU3
  have hlS : l.length = S.length := hS.symm
  rw [hlS] at h4 hl ⊢
  rw [hlS] at ho2
  clear HU2 hU3 HO
  unfold maxLen at h5
  clear hSS hS hlS hg2 h3 hb0
  go_wp2
  go_loopw [3, 13] (fun v i wr => LInv S w0 g c v i wr) (fun _ i _ => S.length - (intOf i).toNat)
  case atStart => exact ⟨0, 0, [], S, rfl, Nat.zero_le _, hide rfl, Nat.le_refl _, hide rfl, rfl, hide rfl, hide rfl, hide rfl, ho2, hb2⟩
  case round =>
    clear ho2 hb2
    obtain ⟨k, n, acc, M, rfl, hk, HU, hak, HAL, rfl, HML, HMT, HMD, hv, hbl⟩ := hrel
    by_cases hlt : k < S.length
    · have hget := lget M S k HML.out hlt HMD.out
      have hus := mrg_snoc S k hlt
      rw [HU.out] at hus
      obtain ⟨s, hs⟩ : ∃ s, S[k] = s := ⟨_, rfl⟩
      rw [hs] at hus hget
      have hMk : k < M.length := by rw [HML.out]; exact hlt
      have hfa := flat_at M k hMk
      rw [hget] at hfa
      have x1 : wr.cell? ⟨g, k * 2, none⟩ = some (.int .i64 s.1) := by rw [World.ownsRow.cellAt hv (k * 2) (by omega)]; exact hfa.1
      have x2 : wr.cell? ⟨g, k * 2 + 1, none⟩ = some (.int .i64 s.2) := by rw [World.ownsRow.cellAt hv (k * 2 + 1) (by omega)]; exact hfa.2
      have fin : ∀ (W : World) (i : Nat) (A : List Sp) (x : Sp), i ≤ k → M.take i = A → stepL acc s = A ++ [x] → W.ownsRow w0.heap.size 33 2 (.slice (some ⟨g, 0, none⟩) S.length c) S.length (flat (M.set i x)) → Below w0.heap.size w0 W → LInv S w0 g c (.slice (some ⟨g, 0, none⟩) (i + 1) c) (.int .i64 ((k : Int) + 1)) W := by
        intro W i A x hi hA hst ho hb
        have h1 := lstep M S A i k x hi HML.out hlt HMD.out hA
        have hAl : A.length = i := by rw [← hA, List.length_take, HML.out]; omega
        exact ⟨k + 1, i + 1, A ++ [x], M.set i x, by go_num, by omega, hide (by rw [hus, hst]), by omega, hide (by simp [hAl]), rfl, hide h1.2.2, hide h1.1, hide h1.2.1, ho, hb⟩
      have FIN := hide fin
      clear fin hus hs hfa hget hMk HMD HU
      have hbw : w0.heap.size ≤ wr.heap.size := hbl.size
      have hgl : g < wr.heap.size := by
        rcases own_form hv with ⟨h0, _⟩ | ⟨g', c', h0, _, h1, _⟩
        · cases h0
        · cases h0; exact h1
      have hML := HML.out
      rcases List.eq_nil_or_concat acc with rfl | ⟨a0, t, rfl⟩
      · obtain rfl : n = 0 := by have := HAL.out; simpa using this.symm
        have hd : decide ((0 : Int) ≤ -1) = false := by decide
        clear HAL
        have HV2 := hide (hv.alloc (.cells #[.int .i64 s.1, .int .i64 s.2] 33))
        have hbl2 := bl_alloc hbl (.cells #[.int .i64 s.1, .int .i64 s.2] 33)
        have HML2 := hide hML
        have hset := flat_set2 M 0 (by omega) s
        rw [Nat.zero_mul, Nat.zero_add] at hset
        have HSET := hide hset
        clear hv hML HMT hset
        go_wp2
        go_quiet (fail)
        go_wp2_with (at_builtin; (refine wpList_inplace ((wr.alloc (.cells #[.int .i64 s.1, .int .i64 s.2] 33)).drewN nq) rfl _ _ 22 rfl w0.heap.size 33 i0 Tryz.underlying22 hi0 hz1 g S.length c 0 (flat M) rfl HV2.out (by omega) h4 (.int .i64 s.1) (.int .i64 s.2) rfl rfl (by show Value.slice (some ⟨wr.heap.size + 1, 0, none⟩) 1 1 = _; simp) ?_); intro w4 hv4 hg4)
        have hbl4 : Below w0.heap.size w0 w4 := bl_grown (bl_drewN hbl2 nq) hg4 (fun q hq => by cases hq; exact h2)
        refine ⟨?_, by first | (simp [intOf]; done) | (simp [intOf]; omega)⟩
        refine FIN.out _ 0 [] s (by omega) rfl (stL_nil s) ?_ hbl4
        rw [← HSET.out]; exact hv4
      · rw [List.concat_eq_append] at *
        have hlen : (a0 ++ [t]).length = a0.length + 1 := by simp
        obtain rfl : n = a0.length + 1 := by have := HAL.out; rw [hlen] at this; exact this.symm
        have hMT := HMT.out
        clear HAL
        have hMm : M[a0.length]'(by omega) = t := by
          have h0 : (M.take (a0.length + 1))[a0.length]'(by simp; omega) = M[a0.length]'(by omega) := List.getElem_take
          rw [← h0]
          simp only [hMT]
          simp
        have hM0 : M.take a0.length = a0 := by
          have h0 := congrArg (List.take a0.length) hMT
          rw [List.take_take, Nat.min_eq_left (by omega)] at h0
          rw [h0]; simp
        have hfm := flat_at M a0.length (by omega)
        rw [hMm] at hfm
        have hd : decide ((0 : Int) ≤ (a0.length : Int)) = true := by simp
        have gln : decide (a0.length < a0.length + 1) = true := by simp
        have hv2 := hv.alloc (.cells #[.int .i64 s.1, .int .i64 s.2] 33)
        have hbl2 := bl_alloc hbl (.cells #[.int .i64 s.1, .int .i64 s.2] 33)
        have d1 : (wr.alloc (.cells #[.int .i64 s.1, .int .i64 s.2] 33)).cell? ⟨wr.heap.size, 0, none⟩ = some (.int .i64 s.1) := by go_simp
        have d2 : (wr.alloc (.cells #[.int .i64 s.1, .int .i64 s.2] 33)).cell? ⟨wr.heap.size, 1, none⟩ = some (.int .i64 s.2) := by go_simp
        have y1 : (wr.alloc (.cells #[.int .i64 s.1, .int .i64 s.2] 33)).cell? ⟨g, a0.length * 2, none⟩ = some (.int .i64 t.1) := by rw [World.ownsRow.cellAt hv2 (a0.length * 2) (by omega)]; exact hfm.1
        have y2 : (wr.alloc (.cells #[.int .i64 s.1, .int .i64 s.2] 33)).cell? ⟨g, a0.length * 2 + 1, none⟩ = some (.int .i64 t.2) := by rw [World.ownsRow.cellAt hv2 (a0.length * 2 + 1) (by omega)]; exact hfm.2
        have n1 := World.block_lt_of_cell? _ _ d1
        have n2 := World.block_lt_of_cell? _ _ y1
        obtain ⟨kt, hkt⟩ : ∃ kt, ky (t.1, t.2) = kt := ⟨_, rfl⟩
        obtain ⟨ks, hks⟩ : ∃ ks, ky (s.1, s.2) = ks := ⟨_, rfl⟩
        have HA := hide (fun W => span_b t.1 t.2 kt hkt W)
        have HB := hide (fun W => span_b s.1 s.2 ks hks W)
        have hset2 := flat_set2 M a0.length (by omega) (covL t s)
        have hset3 := fun h9 => flat_set2 M (a0.length + 1) h9 s
        have HM := hide (And.intro hM0 hMT)
        have HS2 := hide hset2
        have HS3 := hide hset3
        have HLEN := hide hlen
        have HML2 := hide hML
        have hMb : a0.length + 1 ≤ S.length := by omega
        clear hset2 hset3 hv hfm hMm hM0 hMT HMT hlen
        rcases hr : touch kt ks with _ | _
        · have HT := hide (fun W => touch_b kt ks false hr W)
          have hrr : touch (ky t) (ky s) = false := by
            have e1 : ky t = kt := hkt
            have e2 : ky s = ks := hks
            rw [e1, e2]; exact hr
          have HST := hide (stL_new a0 t s hrr)
          clear hr hrr hkt hks hML
          go_wp2
          generalize (wr.alloc (.cells #[.int .i64 s.1, .int .i64 s.2] 33)) = W1 at *
          refine wp_region_later (by kernel_rfl) (by kernel_rfl) ?_
          repeat (go_big_quiet_step (first
            | (go_at_call_of 26 (Value.agg #[Value.int IntKind.i64 t.1, Value.int IntKind.i64 t.2]); exact later_call (HA.out _))
            | (go_at_call_of 26 (Value.agg #[Value.int IntKind.i64 s.1, Value.int IntKind.i64 s.2]); exact later_call (HB.out _))
            | (go_at_call 57; exact later_call (HT.out _))
            | exact rfl))
          refine wpQuiet_nil ?_
          rintro w9 ⟨⟨_, hb9⟩, rfl⟩
          have d1 := cell_later hb9 d1
          have d2 := cell_later hb9 d2
          have y1 := cell_later hb9 y1
          have y2 := cell_later hb9 y2
          have hv9 := own_below hv2 hb9
          have hbl9 := bl_trans hbl2 hb9
          clear hv2 hbl2 hb9 n1 n2
          have HV9 := hide hv9
          have hnS : a0.length + 1 < S.length := by omega
          clear hv9 y1 y2
          go_wp2_with (at_builtin; (refine wpList_inplace w9 rfl _ _ 22 rfl w0.heap.size 33 i0 Tryz.underlying22 hi0 hz1 g S.length c (a0.length + 1) (flat M) rfl HV9.out hnS h4 (.int .i64 s.1) (.int .i64 s.2) rfl rfl rfl ?_); intro w4 hv4 hg4)
          have hbl4 : Below w0.heap.size w0 w4 := bl_grown hbl9 hg4 (fun q hq => by cases hq; exact h2)
          refine ⟨?_, by first | (simp [intOf]; done) | (simp [intOf]; omega)⟩
          refine FIN.out _ (a0.length + 1) (a0 ++ [t]) s (by omega) HM.out.2 HST.out ?_ hbl4
          rw [← HS3.out (by have := HML2.out; omega)]; exact hv4
        · have HT := hide (fun W => touch_b kt ks true hr W)
          have hrr : touch (ky t) (ky s) = true := by
            have e1 : ky t = kt := hkt
            have e2 : ky s = ks := hks
            rw [e1, e2]; exact hr
          have HST := hide (stL_on a0 t s hrr)
          have HC := hide (fun W => cover_s t s W)
          clear hr hrr hkt hks hML
          go_wp2
          generalize (wr.alloc (.cells #[.int .i64 s.1, .int .i64 s.2] 33)) = W1 at *
          refine wp_region_later (by kernel_rfl) (by kernel_rfl) ?_
          repeat (go_big_quiet_step (first
            | (go_at_call_of 26 (Value.agg #[Value.int IntKind.i64 t.1, Value.int IntKind.i64 t.2]); exact later_call (HA.out _))
            | (go_at_call_of 26 (Value.agg #[Value.int IntKind.i64 s.1, Value.int IntKind.i64 s.2]); exact later_call (HB.out _))
            | (go_at_call 57; exact later_call (HT.out _))
            | exact rfl))
          refine wpQuiet_nil ?_
          rintro w9 ⟨⟨_, hb9⟩, rfl⟩
          have d1 := cell_later hb9 d1
          have d2 := cell_later hb9 d2
          have y1 := cell_later hb9 y1
          have y2 := cell_later hb9 y2
          have hv9 := own_below hv2 hb9
          have hbl9 := bl_trans hbl2 hb9
          clear hv2 hbl2 hb9 n1 n2
          have hlt2 : a0.length * 2 + 1 < S.length * 2 := by omega
          have HV9 := hide hv9
          have HB9 := hide hbl9
          clear hv9 hbl9
          generalize covL t s = cv at *
          go_wp2
          go_region_with (go_at_call 58; (with_reducible refine (HC.out _).mono ?_); rintro e w10 ⟨rfl, hb10⟩; have hbz : Below w9.heap.size w9 w10 := bl_trans (by repeat (first | exact bl_refl _ | refine bl_drew ?_)) hb10; have y1 := cell_later hbz y1; have y2 := cell_later hbz y2; have yf1 := World.ownsRow.frozenAt (own_below HV9.out hbz) (a0.length * 2); have yf2 := World.ownsRow.frozenAt (own_below HV9.out hbz) (a0.length * 2 + 1); clear hb10)
          all_goals
            go_wp2
            have ho10 := own_below HV9.out hbz
            have hs1 := (World.ownsRow.stored ho10 (a0.length * 2) (.int .i64 cv.1)).1
            have hs2 := (World.ownsRow.stored hs1 (a0.length * 2 + 1) (.int .i64 cv.2)).1
            rw [HS2.out] at hs2
            have hbs := bl_set (bl_set (bl_trans HB9.out hbz) (p := ⟨g, a0.length * 2, none⟩) h2 (.int .i64 cv.1)) (p := ⟨g, a0.length * 2 + 1, none⟩) h2 (.int .i64 cv.2)
            refine ⟨?_, by first | (simp [intOf]; done) | (simp [intOf]; omega)⟩
            first
              | exact FIN.out _ a0.length a0 _ (by omega) HM.out.1 HST.out hs2 hbs
              | exact FIN.out _ a0.length a0 _ (by omega) HM.out.1 HST.out (World.ownsRow.drew hs2) (bl_drew hbs)
    · obtain rfl : k = S.length := by omega
      have hU4 := HU.out
      rw [List.take_length, HU3.out] at hU4
      subst hU4
      have hUl := mrg_le S S.length
      rw [List.take_length, HU3.out] at hUl
      obtain rfl : n = U.length := HAL.out.symm
      have htk : (flat M).take (U.length * 2) = flat U := by
        have h0 := HMT.out
        rw [flat_take', h0]
      have HO := hide (own_front hv hUl htk)
      clear hv HU HMT HMD HML hlt htk
      go_wp2
      go_ret
      exact ⟨_, rfl, hbl, HO.out⟩
end
section
open Go.ChangeShapes Go.WideShapes Go.ChangeAt Go.RowKit
open SpanM SelM
attribute [local go_sem ↓] Go.wp_at_zero Go.wp_at_succ
set_option maxRecDepth 100000
set_option linter.unusedVariables false
def nrE (n : Int) (l : List Sp) : Int := if l.length = 0 then 2 else if 64 < l.length then 7 else if (∀ s ∈ l, mayB (ky s) n = true) then 0 else 3
def nrL (n : Int) (l : List Sp) : List Sp := if nrE n l = 0 then mrgF (sortL l) else []
theorem nr_zero (n : Int) (l : List Sp) (h : l.length = 0) : nrE n l = 2 ∧ nrL n l = [] := by
  have e : nrE n l = 2 := by unfold nrE; rw [if_pos h]
  exact ⟨e, by unfold nrL; rw [if_neg (by rw [e]; decide)]⟩
theorem nr_full (n : Int) (l : List Sp) (h : 64 < l.length) : nrE n l = 7 ∧ nrL n l = [] := by
  have e : nrE n l = 7 := by unfold nrE; rw [if_neg (by omega), if_pos h]
  exact ⟨e, by unfold nrL; rw [if_neg (by rw [e]; decide)]⟩
theorem nr_bad (n : Int) (l : List Sp) (h0 : l.length ≠ 0) (h : ¬ 64 < l.length) (k : Nat) (hk : k < l.length) (hb : mayB (ky l[k]) n = false) : nrE n l = 3 ∧ nrL n l = [] := by
  have e : nrE n l = 3 := by
    unfold nrE
    rw [if_neg h0, if_neg h, if_neg]
    intro hc
    rw [hc _ (List.getElem_mem hk)] at hb
    cases hb
  exact ⟨e, by unfold nrL; rw [if_neg (by rw [e]; decide)]⟩
theorem nr_good (n : Int) (l : List Sp) (h0 : l.length ≠ 0) (h : ¬ 64 < l.length) (ha : ∀ k (hk : k < l.length), mayB (ky l[k]) n = true) : nrE n l = 0 ∧ nrL n l = mrgF (sortL l) := by
  have e : nrE n l = 0 := by
    unfold nrE
    rw [if_neg h0, if_neg h, if_pos]
    intro s hs
    obtain ⟨k, hk, rfl⟩ := List.getElem_of_mem hs
    exact ha k hk
  exact ⟨e, by unfold nrL; rw [if_pos e]⟩
def NormPost (w : World) (E : Int) (U : List Sp) (e : Ending) (w' : World) : Prop := ∃ v', e = .returned (.tuple #[v', .int .i64 E]) ∧ Below w.heap.size w w' ∧ w'.ownsRow w.heap.size 33 2 v' U.length (flat U)
theorem post_nil {w w' : World} {E : Int} (hb : Below w.heap.size w w') : NormPost w E [] (.returned (.tuple #[.slice none 0 0, .int .i64 E])) w' := ⟨_, rfl, hb, ⟨rfl, .inl ⟨rfl, rfl⟩⟩⟩
set_option maxHeartbeats 8000000 in
theorem norm_any {K : Nat} (hst : StabOK K) (v : Value) (l : List Sp) (n : Int) (w : World) (h : SpAt w v l) (hl : l.length ≤ K ∨ 64 < l.length) :
    Calls Tryz.prog 15 #[.int .i64 n, v] w (NormPost w (nrE n l) (nrL n l)) := by
  obtain ⟨vA, vc, rfl⟩ := spat_len h
  by_cases h0 : l.length = 0
  · obtain ⟨e1, e2⟩ := nr_zero n l h0
    rw [e1, e2, h0]
    clear h hl e1 e2
    go_enter Tryz.func15, Tryz.ntmps15
    go_wp2
    go_ret2
    exact post_nil (bl_refl w)
  · by_cases h64 : 64 < l.length
    · obtain ⟨e1, e2⟩ := nr_full n l h64
      rw [e1, e2]
      have g0 : ((l.length : Int) == 0) = false := beq_eq_false_iff_ne.2 (by omega)
      have g1 : decide ((64 : Int) < (l.length : Int)) = true := decide_eq_true (by omega)
      have g2 : decide (64 < l.length) = true := decide_eq_true h64
      clear h hl e1 e2 h0 h64
      generalize l.length = N at *
      go_enter Tryz.func15, Tryz.ntmps15
      go_wp2
      go_ret2
      exact post_nil (bl_refl w)
    · have HK := hide (show l.length ≤ K by omega)
      have hl64 : l.length ≤ 64 := by omega
      have HST := hide hst
      clear hst
      have g0 : ((l.length : Int) == 0) = false := beq_eq_false_iff_ne.2 (by omega)
      have g1 : decide ((64 : Int) < (l.length : Int)) = false := decide_eq_false (by omega)
      have g2 : decide (64 < l.length) = false := decide_eq_false h64
      obtain ⟨x, o, c, hv, hc1, hm1, hlb1, _⟩ := spat_some h (by omega)
      injection hv with hv _ hvc
      subst hv hvc
      have H := hide h
      have H0 := hide h0
      have H64 := hide h64
      clear h h0 h64 hl
      go_enter Tryz.func15, Tryz.ntmps15
      go_wp2
      clear g0 g1 g2
      go_loopw [16] (fun i wr => ∃ k : Nat, i = .int .i64 k ∧ k ≤ l.length ∧ Hid (∀ j (hj : j < l.length), j < k → mayB (ky l[j]) n = true) ∧ Hid (Below w.heap.size w wr)) (fun i _ => l.length - (intOf i).toNat)
      case atStart => exact ⟨0, rfl, Nat.zero_le _, hide (fun j _ h => by omega), hide (bl_refl w)⟩
      case round =>
        obtain ⟨k, rfl, hk, HA, HB⟩ := hrel
        by_cases hlt : k < l.length
        · obtain ⟨x', o', c', hv', _, _, _, hcell⟩ := spat_some (spat_below H.out HB.out) (by omega)
          injection hv' with hv' _ hvc'
          injection hv' with hv'
          injection hv' with hvx hvo _
          subst hvx hvo hvc'
          obtain ⟨y1, y2⟩ := hcell k hlt
          clear hcell
          obtain ⟨r, hr⟩ : ∃ r, mayB (ky l[k]) n = r := ⟨_, rfl⟩
          have HR := hide hr
          obtain ⟨s, hs⟩ : ∃ s, l[k] = s := ⟨_, rfl⟩
          rw [hs] at y1 y2 hr
          obtain ⟨ks, hks⟩ : ∃ ks, ky (s.1, s.2) = ks := ⟨_, rfl⟩
          have hr2 : mayB ks n = r := by rw [← hks]; exact hr
          have HS := hide (fun W => span_b s.1 s.2 ks hks W)
          have HM := hide (fun W => mayS ks n r W hr2)
          have hb1 := bl_alloc HB.out (.cells #[.int .i64 s.1, .int .i64 s.2] 33)
          have gl : decide (k < l.length) = true := decide_eq_true hlt
          clear hr hs hks hr2
          go_wp2_with fail
          refine (HS.out _).mono ?_
          rintro e w2 ⟨rfl, hb2⟩
          go_wp2_with fail
          refine (HM.out _).mono ?_
          rintro e w3 ⟨rfl, hb3⟩
          have HB3 := hide (bl_trans (bl_trans hb1 hb2) hb3)
          clear hb1 hb2 hb3 y1 y2
          cases r
          · obtain ⟨e1, e2⟩ := nr_bad n l H0.out H64.out k hlt HR.out
            have HE1 := hide e1
            have HE2 := hide e2
            clear e1 e2
            go_wp2
            go_ret2
            rw [HE1.out, HE2.out]
            exact post_nil HB3.out
          · have HA2 := hide (show ∀ j (hj : j < l.length), j < k + 1 → mayB (ky l[j]) n = true from fun j hj h => by
              rcases Nat.eq_or_lt_of_le (Nat.le_of_lt_succ h) with h1 | h1
              · subst h1; exact HR.out
              · exact HA.out j hj h1)
            clear HR HA
            go_wp2
            refine ⟨?_, by first | (simp [intOf]; done) | (simp [intOf]; omega)⟩
            first
              | exact ⟨k + 1, by go_num, by omega, HA2, HB3⟩
              | ((repeat apply Exists.intro); exact ⟨⟨k + 1, by go_num, by omega, HA2, HB3⟩, rfl⟩)
        · obtain rfl : k = l.length := by omega
          obtain ⟨e1, e2⟩ := nr_good n l H0.out H64.out (fun j hj => HA.out j hj hj)
          have HE1 := hide e1
          have HE2 := hide e2
          have gl : decide (l.length < l.length) = false := by simp
          have H2 := hide (spat_below H.out HB.out)
          clear e1 e2 HA
          go_wp2_with fail
          refine (cloneL_any _ l _ H2.out (by omega)).mono ?_
          rintro e w3 ⟨v3, rfl, hb4, ho3⟩
          have ho4 := own_base ho3 HB.out.size
          have hb5 := bl_trans HB.out hb4
          have hl0 := H0.out
          clear hb4 ho3
          rcases own_form ho4 with ⟨rfl, q1, q2⟩ | ⟨g, c3, rfl, q1, q2, q3, q4, q5⟩
          · omega
          · have HO4 := hide ho4
            clear ho4 q5
            go_wp2_with fail
            refine (mergeL_any HST.out w g c3 l _ _ hb5 HO4.out HK.out rfl).mono ?_
            rintro e w4 ⟨v4, rfl, hb6, ho5⟩
            have HO5 := hide ho5
            clear ho5
            go_wp2
            go_ret2
            rw [HE1.out, HE2.out]
            exact ⟨_, rfl, hb6, HO5.out⟩
end
section
open SpanM SelM
/-- Which way a selection that is not empty goes: back. -/
def Way (back : Bool) (s : Sp) : Prop := if back = true then s.2 < s.1 else s.1 < s.2
theorem cov_way (back : Bool) (a b : Sp) (ha : Way back a) : Way back (covL a b) := by
  obtain ⟨a1, a2⟩ := a
  obtain ⟨b1, b2⟩ := b
  unfold Way covL ky at *
  cases back
  · simp only [Bool.false_eq_true, if_false] at *
    rw [if_neg (by omega)]
    simp only
    omega
  · simp only [if_true] at *
    rw [if_pos (by omega)]
    simp only
    omega
theorem step_way (back : Bool) (acc : List Sp) (s : Sp) (h : ∀ x ∈ acc, Way back x) (hs : Way back s) : ∀ x ∈ stepL acc s, Way back x := by
  rcases List.eq_nil_or_concat acc with rfl | ⟨a, t, rfl⟩
  · intro x hx
    rw [stL_nil] at hx
    obtain rfl : x = s := by simpa using hx
    exact hs
  · rw [List.concat_eq_append] at *
    intro x hx
    cases ht : touch (ky t) (ky s)
    · rw [stL_new a t s ht] at hx
      rcases List.mem_append.1 hx with hx | hx
      · exact h x hx
      · obtain rfl : x = s := by simpa using hx
        exact hs
    · rw [stL_on a t s ht] at hx
      rcases List.mem_append.1 hx with hx | hx
      · exact h x (List.mem_append_left _ hx)
      · obtain rfl : x = covL t s := by simpa using hx
        exact cov_way back t s (h t (by simp))
theorem mrg_way (back : Bool) (l : List Sp) (h : ∀ x ∈ l, Way back x) : ∀ x ∈ mrgF l, Way back x := by
  have key : ∀ (l acc : List Sp), (∀ x ∈ acc, Way back x) → (∀ x ∈ l, Way back x) → ∀ x ∈ l.foldl stepL acc, Way back x := by
    intro l
    induction l with
    | nil => intro acc ha _; exact ha
    | cons s r ih => intro acc ha hl; exact ih _ (step_way back acc s ha (hl s (by simp))) (fun x hx => hl x (List.mem_cons_of_mem _ hx))
  exact key l [] (by simp) h
theorem norm_way (back : Bool) (l : List Sp) (h : ∀ x ∈ l, Way back x) : ∀ x ∈ mrgF (sortL l), Way back x :=
  mrg_way back _ (fun x hx => h x ((sortL_perm l).mem_iff.1 hx))
/-- Moved along. -/
def alongS (k : Int) (s : Sp) : Sp := (s.1 + k, s.2 + k)
theorem ky_along (k : Int) (s : Sp) : ky (alongS k s) = alongS k (ky s) := by
  obtain ⟨a, b⟩ := s
  unfold ky alongS
  simp only [Prod.mk.injEq]
  constructor <;> omega
theorem cov_along (k : Int) (a b : Sp) : covL (alongS k a) (alongS k b) = alongS k (covL a b) := by
  obtain ⟨a1, a2⟩ := a
  obtain ⟨b1, b2⟩ := b
  unfold covL
  rw [ky_along, ky_along]
  unfold alongS ky
  by_cases h : a2 < a1
  · rw [if_pos (show ((a1 + k, a2 + k) : Sp).2 < ((a1 + k, a2 + k) : Sp).1 by show a2 + k < a1 + k; omega), if_pos (show ((a1, a2) : Sp).2 < ((a1, a2) : Sp).1 from h)]
    refine Prod.ext ?_ ?_ <;> dsimp only <;> omega
  · rw [if_neg (show ¬ ((a1 + k, a2 + k) : Sp).2 < ((a1 + k, a2 + k) : Sp).1 by show ¬ a2 + k < a1 + k; omega), if_neg (show ¬ ((a1, a2) : Sp).2 < ((a1, a2) : Sp).1 from h)]
    refine Prod.ext ?_ ?_ <;> dsimp only <;> omega
end
section
open SpanM SelM
/-- Selections apart, in order. -/
def AptL (l : List Sp) : Prop := l.Pairwise fun a b => (ky a).2 < (ky b).1
/-- One of them has a place between its ends. -/
def InL (l : List Sp) (x : Int) : Prop := ∃ s ∈ l, (ky s).1 ≤ x ∧ x ≤ (ky s).2
theorem ky_le (s : Sp) : (ky s).1 ≤ (ky s).2 := by unfold ky; simp only; omega
theorem ky_cov (t s : Sp) : ky (covL t s) = ((ky t).1, max (ky t).2 (ky s).2) := by
  have h0 := ky_le t
  unfold covL
  generalize ky s = m at *
  generalize ky t = k at *
  split
  · show (min (max k.2 m.2) k.1, max (max k.2 m.2) k.1) = _
    refine Prod.ext ?_ ?_ <;> dsimp only <;> omega
  · show (min k.1 (max k.2 m.2), max k.1 (max k.2 m.2)) = _
    refine Prod.ext ?_ ?_ <;> dsimp only <;> omega
theorem touch_of (t s : Sp) (h : (ky t).1 ≤ (ky s).1) : touch (ky t) (ky s) = decide ((ky s).1 ≤ (ky t).2) := by
  have h1 := ky_le t
  have h2 := ky_le s
  unfold touch
  generalize ky t = k at *
  generalize ky s = m at *
  exact decide_eq_decide.2 (by omega)
theorem le_fst {a b : Sp} (h : SpanM.le a b) : a.1 ≤ b.1 := by unfold SpanM.le at h; omega
theorem mrg_inv (l acc : List Sp) (ha : AptL acc) (hs : l.Pairwise fun a b => (ky a).1 ≤ (ky b).1) (hb : ∀ t ∈ acc, ∀ s ∈ l, (ky t).1 ≤ (ky s).1) :
    AptL (l.foldl stepL acc) ∧ ∀ x, InL (l.foldl stepL acc) x ↔ InL (acc ++ l) x := by
  induction l generalizing acc with
  | nil => exact ⟨ha, fun x => by simp⟩
  | cons s r ih =>
    rw [List.foldl_cons]
    have hs1 := List.pairwise_cons.1 hs
    rcases List.eq_nil_or_concat acc with rfl | ⟨a, t, rfl⟩
    · rw [stL_nil]
      obtain ⟨h1, h2⟩ := ih ([] ++ [s]) (by unfold AptL; simp) hs1.2 (by intro p hp q hq; rw [show p = s by simpa using hp]; exact hs1.1 q hq)
      exact ⟨h1, fun x => by rw [h2]; simp⟩
    · rw [List.concat_eq_append] at *
      have hbt := hb t (by simp) s (by simp)
      have hto := touch_of t s hbt
      have ha' := List.pairwise_append.1 ha
      cases hd : touch (ky t) (ky s)
      · rw [stL_new a t s hd]
        rw [hd] at hto
        have hlt : (ky t).2 < (ky s).1 := by have := of_decide_eq_false hto.symm; omega
        obtain ⟨h1, h2⟩ := ih (a ++ [t] ++ [s]) (by
          refine List.pairwise_append.2 ⟨ha, List.pairwise_singleton _ _, ?_⟩
          intro p hp q hq
          obtain rfl : q = s := by simpa using hq
          rcases List.mem_append.1 hp with hp | hp
          · have := ha'.2.2 p hp t (by simp)
            have := ky_le t
            omega
          · obtain rfl : p = t := by simpa using hp
            exact hlt) hs1.2 (by
          intro p hp q hq
          rcases List.mem_append.1 hp with hp | hp
          · exact hb p hp q (List.mem_cons_of_mem _ hq)
          · obtain rfl : p = s := by simpa using hp
            exact hs1.1 q hq)
        exact ⟨h1, fun x => by rw [h2]; simp⟩
      · rw [stL_on a t s hd]
        rw [hd] at hto
        have hle : (ky s).1 ≤ (ky t).2 := of_decide_eq_true hto.symm
        have hkc := ky_cov t s
        obtain ⟨h1, h2⟩ := ih (a ++ [covL t s]) (by
          refine List.pairwise_append.2 ⟨ha'.1, List.pairwise_singleton _ _, ?_⟩
          intro p hp q hq
          obtain rfl : q = covL t s := by simpa using hq
          rw [hkc]
          exact ha'.2.2 p hp t (by simp)) hs1.2 (by
          intro p hp q hq
          rcases List.mem_append.1 hp with hp | hp
          · exact hb p (List.mem_append_left _ hp) q (List.mem_cons_of_mem _ hq)
          · obtain rfl : p = covL t s := by simpa using hp
            rw [hkc]
            exact hb t (by simp) q (List.mem_cons_of_mem _ hq))
        refine ⟨h1, fun x => ?_⟩
        rw [h2]
        constructor
        · rintro ⟨p, hp, hx⟩
          rcases List.mem_append.1 hp with hp | hp
          · rcases List.mem_append.1 hp with hp | hp
            · exact ⟨p, by simp [hp], hx⟩
            · obtain rfl : p = covL t s := by simpa using hp
              rw [hkc] at hx
              simp only at hx
              by_cases hq : x ≤ (ky t).2
              · exact ⟨t, by simp, hx.1, hq⟩
              · exact ⟨s, by simp, by omega, by omega⟩
          · exact ⟨p, by simp [hp], hx⟩
        · rintro ⟨p, hp, hx⟩
          have hcc : ((ky (covL t s)).1 ≤ x ∧ x ≤ (ky (covL t s)).2) → InL (a ++ [covL t s] ++ r) x := fun h => ⟨covL t s, by simp, h⟩
          rw [hkc] at hcc
          simp only at hcc
          rcases List.mem_append.1 hp with hp | hp
          · rcases List.mem_append.1 hp with hp | hp
            · exact ⟨p, by simp [hp], hx⟩
            · obtain rfl : p = t := by simpa using hp
              exact hcc ⟨hx.1, by omega⟩
          · rcases List.mem_cons.1 hp with rfl | hp
            · exact hcc ⟨by omega, by omega⟩
            · exact ⟨p, by simp [hp], hx⟩
theorem norm_inv (l : List Sp) : AptL (mrgF (sortL l)) ∧ ∀ x, InL (mrgF (sortL l)) x ↔ InL l x := by
  have h := sortL_sorted l
  obtain ⟨h1, h2⟩ := mrg_inv (sortL l) [] List.Pairwise.nil (h.imp fun h => le_fst h) (by simp)
  refine ⟨h1, fun x => (h2 x).trans ?_⟩
  have hp := sortL_perm l
  rw [List.nil_append]
  constructor
  · rintro ⟨s, hs, hx⟩; exact ⟨s, hp.mem_iff.1 hs, hx⟩
  · rintro ⟨s, hs, hx⟩; exact ⟨s, hp.mem_iff.2 hs, hx⟩
theorem norm_apt (l : List Sp) : AptL (mrgF (sortL l)) := (norm_inv l).1
theorem norm_in (l : List Sp) (x : Int) : InL (mrgF (sortL l)) x ↔ InL l x := (norm_inv l).2 x
theorem mrg_self (l acc : List Sp) (h : AptL (acc ++ l)) : l.foldl stepL acc = acc ++ l := by
  induction l generalizing acc with
  | nil => simp
  | cons s r ih =>
    rw [List.foldl_cons]
    have e : stepL acc s = acc ++ [s] := by
      rcases List.eq_nil_or_concat acc with rfl | ⟨a, t, rfl⟩
      · rfl
      · rw [List.concat_eq_append] at *
        refine stL_new a t s ?_
        have := (List.pairwise_append.1 h).2.2 t (by simp) s (by simp)
        unfold touch
        exact decide_eq_false (by omega)
    rw [e, ih (acc ++ [s]) (by simpa using h)]
    simp
/-- In order and apart already: they stay. -/
theorem norm_self (l : List Sp) (h : AptL l) : mrgF (sortL l) = l := by
  rw [sortL_self l (h.imp (S := fun a b => SpanM.le (kyS a) (kyS b)) (fun {a b} h => by
    have h1 : (kyS a).1 ≤ (kyS a).2 := ky_le a
    have h2 : (kyS a).2 < (kyS b).1 := h
    unfold SpanM.le
    omega))]
  exact mrg_self l [] (by simpa using h)
/-- All ends within bounds: they stay so. -/
def Wi (lo hi : Int) (s : Sp) : Prop := lo ≤ (ky s).1 ∧ (ky s).2 ≤ hi
theorem step_all (P : Sp → Prop) (hc : ∀ t s, P t → P s → touch (ky t) (ky s) = true → P (covL t s)) (acc : List Sp) (s : Sp) (h : ∀ x ∈ acc, P x) (hs : P s) : ∀ x ∈ stepL acc s, P x := by
  rcases List.eq_nil_or_concat acc with rfl | ⟨a, t, rfl⟩
  · intro x hx
    rw [stL_nil] at hx
    obtain rfl : x = s := by simpa using hx
    exact hs
  · rw [List.concat_eq_append] at *
    intro x hx
    cases ht : touch (ky t) (ky s)
    · rw [stL_new a t s ht] at hx
      rcases List.mem_append.1 hx with hx | hx
      · exact h x hx
      · obtain rfl : x = s := by simpa using hx
        exact hs
    · rw [stL_on a t s ht] at hx
      rcases List.mem_append.1 hx with hx | hx
      · exact h x (List.mem_append_left _ hx)
      · obtain rfl : x = covL t s := by simpa using hx
        exact hc t s (h t (by simp)) hs ht
theorem mrg_all (P : Sp → Prop) (hc : ∀ t s, P t → P s → touch (ky t) (ky s) = true → P (covL t s)) (l : List Sp) (h : ∀ x ∈ l, P x) : ∀ x ∈ mrgF (sortL l), P x := by
  have key : ∀ (l acc : List Sp), (∀ x ∈ acc, P x) → (∀ x ∈ l, P x) → ∀ x ∈ l.foldl stepL acc, P x := by
    intro l
    induction l with
    | nil => intro acc ha _; exact ha
    | cons s r ih => intro acc ha hl; exact ih _ (step_all P hc acc s ha (hl s (by simp))) (fun x hx => hl x (List.mem_cons_of_mem _ hx))
  exact key _ [] (by simp) (fun x hx => h x ((sortL_perm l).mem_iff.1 hx))
theorem norm_wi (lo hi : Int) (l : List Sp) (h : ∀ x ∈ l, Wi lo hi x) : ∀ x ∈ mrgF (sortL l), Wi lo hi x := by
  refine mrg_all _ ?_ l h
  intro t s h1 h2 _
  unfold Wi at *
  rw [ky_cov]
  dsimp only
  omega
/-- Carets stay carets. -/
theorem norm_car (l : List Sp) (h : ∀ x ∈ l, x.1 = x.2) : ∀ x ∈ mrgF (sortL l), x.1 = x.2 := by
  refine mrg_all _ ?_ l h
  rintro ⟨t1, t2⟩ ⟨s1, s2⟩ h1 h2 h3
  dsimp only at h1 h2
  subst h1 h2
  unfold touch ky at h3
  dsimp only at h3
  have h4 := of_decide_eq_true h3
  unfold covL ky
  dsimp only
  rw [if_neg (by omega)]
  dsimp only
  omega
theorem step_pos (acc : List Sp) (s : Sp) : 0 < (stepL acc s).length := by
  rcases List.eq_nil_or_concat acc with rfl | ⟨a, t, rfl⟩
  · simp [stepL]
  · rw [List.concat_eq_append]
    cases h : touch (ky t) (ky s)
    · rw [stL_new a t s h]; simp
    · rw [stL_on a t s h]; simp
theorem step_len (acc : List Sp) (s : Sp) : (stepL acc s).length ≤ acc.length + 1 := by
  rcases List.eq_nil_or_concat acc with rfl | ⟨a0, t, rfl⟩
  · simp [stepL]
  · rw [List.concat_eq_append]
    rcases h : touch (ky t) (ky s) with _ | _
    · rw [stL_new a0 t s h]; simp
    · rw [stL_on a0 t s h]; simp
theorem norm_len (l : List Sp) : (mrgF (sortL l)).length ≤ l.length := by
  have key : ∀ (l acc : List Sp), (l.foldl stepL acc).length ≤ acc.length + l.length := by
    intro l
    induction l with
    | nil => intro acc; simp
    | cons s r ih => intro acc; rw [List.foldl_cons]; have := ih (stepL acc s); have := step_len acc s; simp only [List.length_cons]; omega
  have := key (sortL l) []
  rw [sortL_len] at this
  exact Nat.le_trans this (by simp)
theorem norm_pos (l : List Sp) (h : 0 < l.length) : 0 < (mrgF (sortL l)).length := by
  have key : ∀ (l acc : List Sp), 0 < acc.length ∨ 0 < l.length → 0 < (l.foldl stepL acc).length := by
    intro l
    induction l with
    | nil => intro acc h; rcases h with h | h; exact h; simp at h
    | cons s r ih => intro acc _; rw [List.foldl_cons]; exact ih _ (.inl (step_pos acc s))
  exact key _ [] (.inr (by rw [sortL_len]; exact h))
-- moved along
theorem kyS_along (k : Int) (s : Sp) : kyS (alongS k s) = alongS k (kyS s) := ky_along k s
theorem less_along (k : Int) (a b : Sp) : lessL (alongS k a) (alongS k b) = lessL a b := by
  unfold lessL
  rw [kyS_along, kyS_along]
  unfold SpanM.less alongS
  rw [decide_eq_decide.2 (show (kyS a).1 + k < (kyS b).1 + k ↔ (kyS a).1 < (kyS b).1 by omega), decide_eq_decide.2 (show (kyS a).1 + k = (kyS b).1 + k ↔ (kyS a).1 = (kyS b).1 by omega), decide_eq_decide.2 (show (kyS a).2 + k < (kyS b).2 + k ↔ (kyS a).2 < (kyS b).2 by omega)]
theorem posB_along (k : Int) (s : Sp) (O : List Sp) (n : Nat) (hn : n ≤ O.length) : posB (alongS k s) (O.map (alongS k)) n = posB s O n := by
  induction n with
  | zero => rfl
  | succ n ih =>
    unfold posB
    rw [getElem!_pos (O.map (alongS k)) n (by simpa using (by omega)), getElem!_pos O n (by omega), List.getElem_map, less_along, ih (by omega)]
theorem insB_along (k : Int) (s : Sp) (O : List Sp) : insB (alongS k s) (O.map (alongS k)) = (insB s O).map (alongS k) := by
  unfold insB
  rw [List.length_map, posB_along k s O O.length (Nat.le_refl _)]
  simp
theorem sortL_along (k : Int) (l : List Sp) : sortL (l.map (alongS k)) = (sortL l).map (alongS k) := by
  have key : ∀ (l O : List Sp), (l.map (alongS k)).foldl (fun O s => insB s O) (O.map (alongS k)) = (l.foldl (fun O s => insB s O) O).map (alongS k) := by
    intro l
    induction l with
    | nil => intro O; rfl
    | cons s r ih => intro O; rw [List.map_cons, List.foldl_cons, List.foldl_cons, insB_along, ih]
  exact key l []
theorem touch_along (k : Int) (a b : Sp) : touch (alongS k a) (alongS k b) = touch a b := by
  unfold touch alongS
  exact decide_eq_decide.2 (by dsimp only; omega)
theorem step_along (k : Int) (acc : List Sp) (s : Sp) : stepL (acc.map (alongS k)) (alongS k s) = (stepL acc s).map (alongS k) := by
  rcases List.eq_nil_or_concat acc with rfl | ⟨a, t, rfl⟩
  · rfl
  · rw [List.concat_eq_append, List.map_append]
    show stepL (a.map (alongS k) ++ [alongS k t]) (alongS k s) = _
    have ht : touch (ky (alongS k t)) (ky (alongS k s)) = touch (ky t) (ky s) := by rw [ky_along, ky_along, touch_along]
    cases h : touch (ky t) (ky s)
    · rw [h] at ht
      rw [stL_new a t s h, stL_new _ _ _ ht]; simp
    · rw [h] at ht
      rw [stL_on a t s h, stL_on _ _ _ ht, cov_along]; simp
theorem mrg_along (k : Int) (l : List Sp) : mrgF (l.map (alongS k)) = (mrgF l).map (alongS k) := by
  have key : ∀ (l O : List Sp), (l.map (alongS k)).foldl stepL (O.map (alongS k)) = (l.foldl stepL O).map (alongS k) := by
    intro l
    induction l with
    | nil => intro O; rfl
    | cons s r ih => intro O; rw [List.map_cons, List.foldl_cons, List.foldl_cons, step_along, ih]
  exact key l []
theorem norm_along (k : Int) (l : List Sp) : mrgF (sortL (l.map (alongS k))) = (mrgF (sortL l)).map (alongS k) := by rw [sortL_along, mrg_along]
end
end Go.Proofs.YtjcmbnmejkhcjaaGreat
