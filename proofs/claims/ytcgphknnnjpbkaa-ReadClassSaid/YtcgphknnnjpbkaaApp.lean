/- append onto a row of the call's own, the source nil, empty or not. No condition. -/
import Derived.Test.YtcgphknnnjpbkaaOwn
import Derived.Maps.AppendAt
import Derived.Deep.AppendLies
import Derived.RegionTactic
namespace Go.Proofs.Ytcgphknnnjpbkaa
set_option maxRecDepth 100000
open Go.ChangeShapes Go.WideShapes Go.ChangeAt Go.RowKit
/-- The slice value of address A and m elements holds these cells; an empty one may lie anywhere. -/
def Src (w : World) (size : Nat) (A : Option Addr) (m : Nat) (news : List Value) : Prop :=
  news.length = m * size ∧ (m = 0 ∨ ∃ ad, A = some ad ∧ ∀ j u, news[j]? = some u → w.cell? (ad.add j) = some u)
theorem src_below {w w' : World} {size : Nat} {A : Option Addr} {m : Nat} {news : List Value} (h : Src w size A m news) (hb : Below w.heap.size w w') : Src w' size A m news :=
  ⟨h.1, h.2.imp id fun ⟨ad, ha, hc⟩ => ⟨ad, ha, fun j u hu => cell_later hb (hc j u hu)⟩⟩
theorem src_grown {w w' : World} {size : Nat} {A : Option Addr} {m : Nat} {news : List Value} {row : Option Nat} (h : Src w size A m news) (hg : w.grownBy w' row) (hne : ∀ ad, A = some ad → row ≠ some ad.block) : Src w' size A m news := by
  refine ⟨h.1, h.2.imp id ?_⟩
  rintro ⟨ad, rfl, hc⟩
  refine ⟨ad, rfl, fun j u hu => ?_⟩
  have h1 := hc j u hu
  have hlt := World.block_lt_of_cell? w _ h1
  have hb : (ad.add j).block = ad.block := by unfold Addr.add; split <;> rfl
  have h2 := hg.block (ad.add j).block hlt (by rw [hb]; exact fun e => hne ad rfl e.symm)
  obtain ⟨b, off, spot⟩ := ad
  rw [hg.cell_far _ hlt (by rw [hb]; exact fun e => hne _ rfl e.symm)]
  exact h1
theorem own_src {w : World} {base : Nat} {e : TypeId} {size n c : Nat} {A : Option Addr} {xs : List Value} (h : w.ownsRow base e size (.slice A n c) n xs) : Src w size A n xs := by
  refine ⟨h.1, ?_⟩
  rcases own_form h with ⟨hv, h1, _⟩ | ⟨g, c', hv, _, _, _, _, hc⟩
  · exact .inl h1
  · injection hv with hv _ _
    subst hv
    refine .inr ⟨_, rfl, fun j u hu => ?_⟩
    have : (⟨g, 0, none⟩ : Addr).add j = ⟨g, j, none⟩ := by
      rcases Nat.eq_zero_or_pos j with h0 | h0
      · subst h0; simp [Addr.add]
      · simp [Addr.add, show j ≠ 0 by omega]
    rw [this]
    exact hc j u hu
theorem own_front' {w : World} {base : Nat} {e : TypeId} {size n c k : Nat} {A : Option Addr} {xs : List Value} (h : w.ownsRow base e size (.slice A n c) n xs) (hk : k ≤ n) : Src w size A k (xs.take (k * size)) := by
  have h0 := own_src h
  have hms : k * size ≤ n * size := Nat.mul_le_mul_right _ hk
  refine ⟨by rw [List.length_take, h0.1]; omega, ?_⟩
  rcases h0.2 with hn | ⟨ad, ha, hc⟩
  · exact .inl (by omega)
  · refine .inr ⟨ad, ha, fun j u hu => hc j u ?_⟩
    rw [List.getElem?_take] at hu
    split at hu
    · exact hu
    · cases hu
theorem own_from {w : World} {base : Nat} {e : TypeId} {size n c k : Nat} {A : Option Addr} {xs : List Value} (h : w.ownsRow base e size (.slice A n c) n xs) (hk : k ≤ n) : Src w size (if c = k then A else A.map (·.add (k * size))) (n - k) (xs.drop (k * size)) := by
  have h0 := own_src h
  refine ⟨by rw [List.length_drop, h0.1, Nat.sub_mul], ?_⟩
  rcases own_form h with ⟨_, h1, _⟩ | ⟨g, c', hv, _, _, hnc, _, hc⟩
  · exact .inl (by omega)
  · injection hv with hv _ hcc
    subst hv hcc
    by_cases hck : c = k
    · exact .inl (by omega)
    · rw [if_neg hck]
      refine .inr ⟨_, rfl, fun j u hu => ?_⟩
      rw [List.getElem?_drop] at hu
      have h3 := hc _ _ hu
      have e1 : ((⟨g, 0, none⟩ : Addr).add (k * size)).add j = ⟨g, k * size + j, none⟩ := by
        have ea : ∀ x y : Nat, (⟨g, x, none⟩ : Addr).add y = ⟨g, x + y, none⟩ := fun x y => by
          rcases Nat.eq_zero_or_pos y with h0 | h0
          · subst h0; simp [Addr.add]
          · simp [Addr.add, show y ≠ 0 by omega]
        rw [ea, ea, Nat.zero_add]
      rw [e1]; exact h3
theorem own_at {w : World} {base B : Nat} {e : TypeId} {size : Nat} (h : w.heap[B]? = some (.cells #[] e)) (hb : base ≤ B) : w.ownsRow base e size (.slice (some ⟨B, 0, none⟩) 0 0) 0 [] :=
  ⟨by simp, .inr ⟨B, 0, #[], rfl, hb, h, Nat.le_refl _, Nat.zero_le _, by simp, by simp⟩⟩
theorem heap_new {w : World} {o : Obj} {B : Nat} (h : B = w.heap.size) : (w.alloc o).heap[B]? = some o := by subst h; exact heap_alloc_new w o
theorem heap_old {w : World} {o x : Obj} {B : Nat} (h : w.heap[B]? = some x) : (w.alloc o).heap[B]? = some x := by
  rw [heap_alloc_old w o (Array.getElem?_eq_some_iff.1 h).1]; exact h
theorem heap_drew {w : World} {x : Obj} {B : Nat} (h : w.heap[B]? = some x) : w.drew.heap[B]? = some x := h
theorem heap_kept {w w' : World} {x : Obj} {B : Nat} {row : Option Nat} (hg : w.grownBy w' row) (h : w.heap[B]? = some x) (hne : row ≠ some B) : w'.heap[B]? = some x :=
  (hg.block B (Array.getElem?_eq_some_iff.1 h).1 (Ne.symm hne)).trans h
theorem src_block {w : World} {B m size : Nat} {cs : Array Value} {e : TypeId} (h : w.heap[B]? = some (.cells cs e)) (hl : cs.size = m * size) : Src w size (some ⟨B, 0, none⟩) m cs.toList :=
  ⟨by simpa using hl, .inr ⟨_, rfl, World.news_of_block h⟩⟩
section
variable {P : Program}
theorem run_slice_to (t e : TypeId) (i : TypeInfo) (ht : P.underlying t = some (.slice e)) (hi : P.info? e = some i) (A : Option Addr) (n c k : Nat) (K : Int) (hK : (k : Int) = K) (hk : k ≤ c) (W : World) :
    (Instr.slice t (.slice A n c) none (some (.int .i64 K)) none).run P W = .ok (.slice A k c) W := by
  subst hK
  have h1 : (0 : Int) ≤ k ∧ (k : Int) ≤ c := by omega
  have h2 : A.map (fun x => x.add (0 * i.size)) = A := by cases A <;> simp [Addr.add]
  simp [Instr.slice, run_underlying ht, Instr.sliceBounds, Instr.sliceBound, asIntOf, sizeOf, typeInfo, hi, h1]
  rw [if_pos hk]
  rw [Nat.zero_mul] at h2
  rw [h2]
  simp
theorem run_slice_from (t e : TypeId) (i : TypeInfo) (ht : P.underlying t = some (.slice e)) (hi : P.info? e = some i) (A : Option Addr) (n c k : Nat) (K : Int) (hK : (k : Int) = K) (hk : k ≤ n) (W : World) :
    (Instr.slice t (.slice A n c) (some (.int .i64 K)) none none).run P W = .ok (.slice (if c = k then A else A.map (·.add (k * i.size))) (n - k) (c - k)) W := by
  subst hK
  have h1 : (0 : Int) ≤ k ∧ (k : Int) ≤ n := by omega
  simp [Instr.slice, run_underlying ht, Instr.sliceBounds, Instr.sliceBound, asIntOf, sizeOf, typeInfo, hi, h1]
  intro h; omega
end
section
variable {P : Program}
theorem run_app_src (w : World) (base : Nat) (t ty e : TypeId) (i : TypeInfo) (z : Value) (size bytes : Nat) (ht : P.underlying t = some (.slice e)) (hi : P.info? e = some i) (hz : i.zero = some z)
    (hsize : i.size = size) (hby : i.bytes = bytes) (hzs : z.cells.size = size) (hsz : 0 < size)
    (v : Value) (n : Nat) (xs : List Value) (hown : w.ownsRow base e size v n xs)
    (A : Option Addr) (m c : Nat) (news : List Value) (hr : Src w size A m news) (h1 : ∀ u ∈ news, u.oneCell' = true)
    (h63 : n + m ≤ 100000000) (hbytes : bytes ≤ 1000) (hbase : base ≤ w.heap.size) :
    ∃ v' w', (Builtin.append_ #[t, t] ty #[v, .slice A m c]).run P w = .ok v' w' ∧ w'.ownsRow base e size v' (n + m) (xs ++ news) ∧ w.grownBy w' v.ownBlock := by
  have hb2 : (n + m) * bytes ≤ 100000000 * 1000 := Nat.mul_le_mul h63 hbytes
  cases A with
  | none =>
    rcases hr.2 with rfl | ⟨ad, hA, _⟩
    · have hn : news = [] := List.eq_nil_of_length_eq_zero (by rw [hr.1]; omega)
      subst hn
      refine ⟨v, w, ?_, by simpa using hown, grown_refl w _⟩
      rcases own_form hown with ⟨rfl, _⟩ | ⟨g, cap, rfl, _, _, hnc, _⟩
      · simp [Builtin.append_, run_underlying ht, sizeOf, typeInfo, hi, Builtin.lenOf, Builtin.firstCells]
      · simp [Builtin.append_, run_underlying ht, sizeOf, typeInfo, hi, Builtin.lenOf, Builtin.firstCells, hnc, storeCells]
    · cases hA
  | some ad =>
    have hc : ∀ j u, news[j]? = some u → w.cell? (ad.add j) = some u := by
      rcases hr.2 with rfl | ⟨ad', hA, hc⟩
      · have hn : news = [] := List.eq_nil_of_length_eq_zero (by rw [hr.1]; omega)
        subst hn
        intro j u hu; simp at hu
      · injection hA with hA
        subst hA; exact hc
    obtain ⟨v', w', h2, h3, h4, _⟩ := run_append_own_at (P := P) w base t ty e i z size bytes ht hi hz hsize hby hzs hsz v n xs hown ad m c news hr.1 hc h1 (by simp only [maxLen]; omega) (by omega) hbase
    exact ⟨v', w', h2, h3, h4⟩
theorem wp_app_src {o : Oper} {a : Act} {K : Act → World → Prop} {Q : Exit → Act → World → Prop} (w : World) (s x : Operand) (t : TypeId)
    (ho : o.op = .call { callee := .builtin .append, args := #[s, x], argTypes := #[t, t] })
    (base : Nat) (e : TypeId) (i : TypeInfo) (z : Value) (size bytes : Nat) (ht : P.underlying t = some (.slice e)) (hi : P.info? e = some i) (hz : i.zero = some z)
    (hsize : i.size = size) (hby : i.bytes = bytes) (hzs : z.cells.size = size) (hsz : 0 < size)
    (v : Value) (n : Nat) (xs : List Value) (hs : a.eval s = v) (hown : w.ownsRow base e size v n xs)
    (A : Option Addr) (m c : Nat) (news : List Value) (hx : a.eval x = .slice A m c) (hr : Src w size A m news) (h1 : ∀ u ∈ news, u.oneCell' = true)
    (h63 : n + m ≤ 100000000) (hbytes : bytes ≤ 1000) (hbase : base ≤ w.heap.size)
    (h : ∀ v' w', w'.ownsRow base e size v' (n + m) (xs ++ news) → w.grownBy w' v.ownBlock → K (a.put o.dst v') w') : o.wp P a w K Q := by
  obtain ⟨v', w', hrun, h2, h3⟩ := run_app_src (P := P) w base t o.type e i z size bytes ht hi hz hsize hby hzs hsz v n xs hown A m c news hr h1 h63 hbytes hbase
  unfold Oper.wp execOp
  simp only [ho, resolve, invoke, builtin, Sem.run_bind, Sem.run_pure, Result.andThen_ok, List.map_toArray, List.map_cons, List.map_nil, hs, hx, hrun]
  exact h v' w' h2 h3
/-- At a step of a region that draws its order. -/
theorem step_src {ops : Array Oper} {o : Oper} {a : Act} {K : Act → World → Prop} {Q : Exit → Act → World → Prop} {E : Prop} (w : World) (hgd : o.guard = none) (s x : Operand) (t : TypeId)
    (ho : o.op = .call { callee := .builtin .append, args := #[s, x], argTypes := #[t, t] })
    (base : Nat) (e : TypeId) (i : TypeInfo) (z : Value) (size bytes : Nat) (ht : P.underlying t = some (.slice e)) (hi : P.info? e = some i) (hz : i.zero = some z)
    (hsize : i.size = size) (hby : i.bytes = bytes) (hzs : z.cells.size = size) (hsz : 0 < size)
    (v : Value) (n : Nat) (xs : List Value) (hs : a.eval s = v) (hown : w.ownsRow base e size v n xs)
    (A : Option Addr) (m c : Nat) (news : List Value) (hx : a.eval x = .slice A m c) (hr : Src w size A m news) (h1 : ∀ u ∈ news, u.oneCell' = true)
    (h63 : n + m ≤ 100000000) (hbytes : bytes ≤ 1000) (hbase : base ≤ w.heap.size)
    (h : ∀ v' w', w'.ownsRow base e size v' (n + m) (xs ++ news) → w.grownBy w' v.ownBlock → K (a.put o.dst v') w') :
    if Region.wanted o (yielded ops a.tmps) = true then Oper.wp P o a w K Q else E := by
  have hw : Region.wanted o (yielded ops a.tmps) = true := by simp [Region.wanted, hgd]
  rw [if_pos hw]
  exact wp_app_src w s x t ho base e i z size bytes ht hi hz hsize hby hzs hsz v n xs hs hown A m c news hx hr h1 h63 hbytes hbase h
theorem wpList_src {ops : Array Oper} {rest : List Oper} {o : Oper} {a : Act} {Q : Exit → Act → World → Prop} (w : World) (hgd : o.guard = none) (s x : Operand) (t : TypeId)
    (ho : o.op = .call { callee := .builtin .append, args := #[s, x], argTypes := #[t, t] })
    (base : Nat) (e : TypeId) (i : TypeInfo) (z : Value) (size bytes : Nat) (ht : P.underlying t = some (.slice e)) (hi : P.info? e = some i) (hz : i.zero = some z)
    (hsize : i.size = size) (hby : i.bytes = bytes) (hzs : z.cells.size = size) (hsz : 0 < size)
    (v : Value) (n : Nat) (xs : List Value) (hs : a.eval s = v) (hown : w.ownsRow base e size v n xs)
    (A : Option Addr) (m c : Nat) (news : List Value) (hx : a.eval x = .slice A m c) (hr : Src w size A m news) (h1 : ∀ u ∈ news, u.oneCell' = true)
    (h63 : n + m ≤ 100000000) (hbytes : bytes ≤ 1000) (hbase : base ≤ w.heap.size)
    (h : ∀ v' w', w'.ownsRow base e size v' (n + m) (xs ++ news) → w.grownBy w' v.ownBlock → wpList P ops Q rest (a.put o.dst v') w') : wpList P ops Q (o :: rest) a w :=
  wpList_plain hgd fun _ hK => wp_app_src w s x t ho base e i z size bytes ht hi hz hsize hby hzs hsz v n xs hs hown A m c news hx hr h1 h63 hbytes hbase fun v' w' a b => hK _ _ (h v' w' a b)
end
end Go.Proofs.Ytcgphknnnjpbkaa
