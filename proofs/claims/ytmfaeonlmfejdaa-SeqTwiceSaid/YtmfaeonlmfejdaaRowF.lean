/- Contract of rxset.Union: rows put together, in a slice of the call's own. No condition but short texts and slices. -/
import Derived.Test.YtmfaeonlmfejdaaRowE
import Derived.ArgAppend
import Derived.RegionTactic
namespace Go.Proofs.Ytmfaeonlmfejdaa
open Go.ChangeShapes Go.WideShapes Go.ChangeAt Go.RowKit
open SetM
attribute [local go_sem ↓] Go.wp_at_zero Go.wp_at_succ
attribute [local go_sem] later_cell later_frozen lt_bl le_bl
theorem flatR_set (l : List Rw) (i : Nat) (h : i < l.length) (s : Rw) : ((flatR l).set (i * 2) (.string s.1)).set (i * 2 + 1) (.string s.2) = flatR (l.set i s) := by
  induction l generalizing i with
  | nil => simp at h
  | cons a r ih =>
    cases i with
    | zero => rfl
    | succ i =>
      have e : ∀ (b : Rw) (q : List Rw), flatR (b :: q) = .string b.1 :: .string b.2 :: flatR q := fun _ _ => rfl
      have h1 : (i + 1) * 2 = i * 2 + 1 + 1 := by omega
      rw [e, h1, List.set_cons_succ, List.set_cons_succ, List.set_cons_succ, List.set_cons_succ, ih i (by simpa using h), List.set_cons_succ, e]
theorem max_str (ats : Array TypeId) (ty : TypeId) (x y : ByteArray) (w : World) : (Builtin.max_ ats ty #[.string x, .string y]).run Try.prog w = .ok (.string (mx x y)) w := by
  have h : mx x y = if (!bl x y) = true then x else y := by
    unfold mx; cases bl x y <;> rfl
  rw [h]
  simp [Builtin.max_, Builtin.max2, Op.stringOp, asBool, bl]
attribute [local go_sem] max_str
section
variable {P : Program}
/-- append(own[:k], one element of two cells), where there is room: in place. -/
theorem wpList_inplace {ops : Array Oper} {rest : List Oper} {o : Oper} {a : Act} {Q : Exit → Act → World → Prop} (w0 : World) (hgd : o.guard = none) (s x : Operand) (t : TypeId)
    (ho : o.op = .call { callee := .builtin .append, args := #[s, x], argTypes := #[t, t] })
    (base : Nat) (e : TypeId) (i : TypeInfo) (ht : P.underlying t = some (.slice e)) (hi : P.info? e = some i) (hsize : i.size = 2)
    (g n c k : Nat) (xs : List Value) (hs : a.eval s = .slice (some ⟨g, 0, none⟩) k c) (hown : w0.ownsRow base e 2 (.slice (some ⟨g, 0, none⟩) n c) n xs) (hk : k < n) (hnc : n ≤ c)
    (u1 u2 : Value) (h1 : u1.oneCell' = true) (h2 : u2.oneCell' = true) (hx : a.eval x = .slice (some ⟨w0.heap.size, 0, none⟩) 1 1)
    (h : ∀ w', w'.ownsRow base e 2 (.slice (some ⟨g, 0, none⟩) n c) n ((xs.set (k * 2) u1).set (k * 2 + 1) u2) → w0.grownBy w' (some g) → wpList P ops Q rest (a.put o.dst (.slice (some ⟨g, 0, none⟩) (k + 1) c)) w') :
    wpList P ops Q (o :: rest) a (w0.alloc (.cells #[u1, u2] e)) := by
  have hown2 := hown.alloc (.cells #[u1, u2] e)
  have hc : ∀ j, j < n * 2 → ((w0.alloc (.cells #[u1, u2] e)).cell? ⟨g, j, none⟩).isSome = true := fun j hj => by
    rw [World.ownsRow.cellAt hown2 j hj]
    have : j < xs.length := by rw [hown2.1]; exact hj
    simp [this]
  have hr := run_append_room_cells (P := P) (w0.alloc (.cells #[u1, u2] e)) t o.type e i ht hi g 0 k c ⟨w0.heap.size, 0, none⟩ 1 1 [u1, u2] (by rw [hsize]; rfl)
    (fun j u hu => cells_lit w0 #[u1, u2] e j u hu) (by simp [h1, h2]) (by omega)
    (fun j hj => by rw [hsize]; exact hc _ (by simp at hj; omega)) (fun j hj => World.ownsRow.frozenAt hown2 _)
  rw [hsize, Nat.zero_add] at hr
  have s1 := World.ownsRow.stored hown2 (k * 2) u1
  have s2 := World.ownsRow.stored s1.1 (k * 2 + 1) u2
  refine wpList_plain hgd fun K hK => ?_
  unfold Oper.wp execOp
  simp only [ho, resolve, invoke, builtin, Sem.run_bind, Sem.run_pure, Result.andThen_ok, List.map_toArray, List.map_cons, List.map_nil, hs, hx, hr]
  refine hK _ _ (h _ s2.1 ?_)
  have g1 := s1.2
  have g2 := s2.2
  exact ⟨g2.os.trans g1.os, g2.tape.trans g1.tape, g2.output.trans g1.output, Nat.le_trans (by simp) (Nat.le_trans g1.size g2.size), fun q hq hne =>
    ((g2.block q (Nat.lt_of_lt_of_le (by simp; omega) g1.size) hne).trans (g1.block q (by simp; omega) hne)).trans (Below.heap_alloc w0 _ q hq)⟩
end
theorem kstep (M S A : List Rw) (i k : Nat) (x : Rw) (hi : i ≤ k) (hM : M.length = S.length) (hk : k < S.length) (hd : M.drop k = S.drop k) (ht : M.take i = A) :
    (M.set i x).take (i + 1) = A ++ [x] ∧ (M.set i x).drop (k + 1) = S.drop (k + 1) ∧ (M.set i x).length = S.length := by
  refine ⟨?_, ?_, by simp [hM]⟩
  · rw [List.take_succ_eq_append_getElem (by simp; omega), List.getElem_set_self, List.take_set_of_le (Nat.le_refl i), ht]
  · rw [List.drop_set_of_lt (by omega), ← List.drop_drop, hd, List.drop_drop]
theorem kget (M S : List Rw) (k : Nat) (hM : M.length = S.length) (hk : k < S.length) (hd : M.drop k = S.drop k) : M[k]'(by omega) = S[k] := by
  have h1 := List.drop_eq_getElem_cons (l := M) (i := k) (by omega)
  have h2 := List.drop_eq_getElem_cons hk
  rw [h1, h2] at hd
  exact (List.cons.inj hd).1
theorem flatR_take (l : List Rw) (k : Nat) : (flatR l).take (k * 2) = flatR (l.take k) := by
  induction l generalizing k with
  | nil => simp [flatR]
  | cons a r ih =>
    cases k with
    | zero => simp [flatR]
    | succ k =>
      have e : ∀ (b : Rw) (q : List Rw), flatR (b :: q) = .string b.1 :: .string b.2 :: flatR q := fun _ _ => rfl
      rw [show (k + 1) * 2 = k * 2 + 1 + 1 by omega, e, List.take_succ_cons, List.take_succ_cons, ih k, List.take_succ_cons, e]
/-- The front of an own slice is one. -/
theorem own_front {w : World} {base : Nat} {e : TypeId} {size g n c m : Nat} {xs ys : List Value} (h : w.ownsRow base e size (.slice (some ⟨g, 0, none⟩) n c) n xs) (hm : m ≤ n) (hy : xs.take (m * size) = ys) :
    w.ownsRow base e size (.slice (some ⟨g, 0, none⟩) m c) m ys := by
  rcases h.2 with ⟨h0, _⟩ | ⟨g', c', cur, hv, hb, hh, h1, h2, h3, h4⟩
  · cases h0
  cases hv
  have hms : m * size ≤ n * size := Nat.mul_le_mul_right _ hm
  refine ⟨by rw [← hy, List.length_take, h.1]; omega, .inr ⟨g, c, cur, rfl, hb, hh, by omega, h2, h3, ?_⟩⟩
  rw [← hy, ← h4, List.take_take, Nat.min_eq_left hms]
def okU (l : List Rw) : List Rw := l.filter rowB
theorem okU_next (l : List Rw) (j : Nat) (h : j < l.length) : okU (l.take (j + 1)) = okU (l.take j) ++ (if rowB l[j] = true then [l[j]] else []) := by
  unfold okU
  rw [List.take_succ_eq_append_getElem h, List.filter_append]
  by_cases hb : rowB l[j] = true <;> simp [hb]
theorem okU_le (l : List Rw) (j : Nat) : (okU (l.take j)).length ≤ j := by
  have h1 := List.length_filter_le rowB (l.take j)
  have h2 : (l.take j).length ≤ j := by simp; omega
  unfold okU; omega
def FInvU (l : List Rw) (w : World) (v i : Value) (wr : World) : Prop :=
  ∃ j : Nat, i = .int .i64 j ∧ j ≤ l.length ∧ wr.ownsRow w.heap.size 43 2 v (okU (l.take j)).length (flatR (okU (l.take j))) ∧ Below w.heap.size w wr
def KInv (S : List Rw) (w : World) (g c : Nat) (v i : Value) (wr : World) : Prop :=
  ∃ (k n : Nat) (acc M : List Rw), i = .int .i64 k ∧ k ≤ S.length ∧ Hid (uniF (S.take k) = acc) ∧ n ≤ k ∧ Hid (acc.length = n) ∧ v = .slice (some ⟨g, 0, none⟩) n c ∧ Hid (M.length = S.length) ∧ Hid (M.take n = acc) ∧ Hid (M.drop k = S.drop k) ∧
    wr.ownsRow w.heap.size 43 2 (.slice (some ⟨g, 0, none⟩) S.length c) S.length (flatR M) ∧ Below w.heap.size w wr
end Go.Proofs.Ytmfaeonlmfejdaa
