/- Contract: rxtree.flatten. Condition: trees that are not too big. -/
import Derived.Test.YtcgphknnnjpbkaaRxO
namespace Go.Proofs.Ytcgphknnnjpbkaa
open Go.ChangeShapes Go.WideShapes Go.ChangeAt Go.RowKit
open SetM
attribute [local go_sem ↓] Go.wp_at_zero Go.wp_at_succ
set_option maxRecDepth 100000
set_option linter.unusedVariables false
section
variable {P : Program}
theorem run_app_src5 (w : World) (base : Nat) (t ty e : TypeId) (i : TypeInfo) (z : Value) (size bytes : Nat) (ht : P.underlying t = some (.slice e)) (hi : P.info? e = some i) (hz : i.zero = some z)
    (hsize : i.size = size) (hby : i.bytes = bytes) (hzs : z.cells.size = size) (hsz : 0 < size)
    (v : Value) (n : Nat) (xs : List Value) (hown : w.ownsRow base e size v n xs)
    (A : Option Addr) (m c : Nat) (news : List Value) (hr : Src w size A m news) (h1 : ∀ u ∈ news, u.oneCell' = true)
    (h63 : n + m ≤ 100000000) (hbytes : bytes ≤ 1000) (hbase : base ≤ w.heap.size) :
    ∃ v' w', (Builtin.append_ #[t, t] ty #[v, .slice A m c]).run P w = .ok v' w' ∧ w'.ownsRow base e size v' (n + m) (xs ++ news) ∧ w.grownBy w' v.ownBlock ∧ (v'.ownBlock = v.ownBlock ∨ ∃ k, v'.ownBlock = some k ∧ w.heap.size ≤ k) := by
  have hb2 : (n + m) * bytes ≤ 100000000 * 1000 := Nat.mul_le_mul h63 hbytes
  cases A with
  | none =>
    rcases hr.2 with rfl | ⟨ad, hA, _⟩
    · have hn : news = [] := List.eq_nil_of_length_eq_zero (by rw [hr.1]; omega)
      subst hn
      refine ⟨v, w, ?_, by simpa using hown, grown_refl w _, .inl rfl⟩
      rcases own_form hown with ⟨rfl, _⟩ | ⟨g, cap, rfl, _, _, hnc, _⟩
      · simp [Builtin.append_, run_underlying ht, sizeOf, typeInfo, hi, Builtin.lenOf, Builtin.firstCells]
      · simp [Builtin.append_, run_underlying ht, sizeOf, typeInfo, hi, Builtin.lenOf, Builtin.firstCells, hnc, storeCells]
    · cases hA
  | some ad =>
    have hc : ∀ j u, news[j]? = some u → w.cell? (ad.add j) = some u := by
      rcases hr.2 with rfl | ⟨ad', hA, hc⟩
      · have hn : news = [] := List.eq_nil_of_length_eq_zero (by rw [hr.1]; omega)
        subst hn
        intro j u hu; simp at hu
      · injection hA with hA
        subst hA; exact hc
    obtain ⟨v', w', h2, h3, h4, h5⟩ := run_append_own_at (P := P) w base t ty e i z size bytes ht hi hz hsize hby hzs hsz v n xs hown ad m c news hr.1 hc h1 (by simp only [maxLen]; omega) (by omega) hbase
    refine ⟨v', w', h2, h3, h4, ?_⟩
    first
      | exact h5
      | exact h5.2
      | (rcases h5.2 with h | h; exact .inl h; exact .inr ⟨_, h, Nat.le_refl _⟩)
      | (rcases h5 with h | h; exact .inl h; exact .inr ⟨_, h, Nat.le_refl _⟩)
theorem wpList_src5 {ops : Array Oper} {rest : List Oper} {o : Oper} {a : Act} {Q : Exit → Act → World → Prop} (w : World) (hgd : o.guard = none) (s x : Operand) (t : TypeId)
    (ho : o.op = .call { callee := .builtin .append, args := #[s, x], argTypes := #[t, t] })
    (base : Nat) (e : TypeId) (i : TypeInfo) (z : Value) (size bytes : Nat) (ht : P.underlying t = some (.slice e)) (hi : P.info? e = some i) (hz : i.zero = some z)
    (hsize : i.size = size) (hby : i.bytes = bytes) (hzs : z.cells.size = size) (hsz : 0 < size)
    (v : Value) (n : Nat) (xs : List Value) (hs : a.eval s = v) (hown : w.ownsRow base e size v n xs)
    (A : Option Addr) (m c : Nat) (news : List Value) (hx : a.eval x = .slice A m c) (hr : Src w size A m news) (h1 : ∀ u ∈ news, u.oneCell' = true)
    (h63 : n + m ≤ 100000000) (hbytes : bytes ≤ 1000) (hbase : base ≤ w.heap.size)
    (h : ∀ v' w', w'.ownsRow base e size v' (n + m) (xs ++ news) → w.grownBy w' v.ownBlock → (v'.ownBlock = v.ownBlock ∨ ∃ k, v'.ownBlock = some k ∧ w.heap.size ≤ k) → wpList P ops Q rest (a.put o.dst v') w') : wpList P ops Q (o :: rest) a w :=
  wpList_plain hgd fun _ hK => by
    obtain ⟨v', w', hrun, h2, h3, h5⟩ := run_app_src5 (P := P) w base t o.type e i z size bytes ht hi hz hsize hby hzs hsz v n xs hown A m c news hr h1 h63 hbytes hbase
    unfold Oper.wp execOp
    simp only [ho, resolve, invoke, builtin, Sem.run_bind, Sem.run_pure, Result.andThen_ok, List.map_toArray, List.map_cons, List.map_nil, hs, hx, hrun]
    exact hK _ _ (h v' w' h2 h3 h5)
end
theorem rx_row {w w' : World} {row : Option Nat} {t : Rt} (h : RxAt w t) (hf : ∀ g, row = some g → Off g t) (hw : w.grownBy w' row) : RxAt w' t := by
  cases row with
  | none => exact rx_below h (bl_grown (bl_refl w) hw (fun k hk => by cases hk))
  | some g => exact rx_off h (hf g rfl) hw
theorem er_k {a b : Rt} (h : er a = er b) : a.k = b.k ∧ a.kids.map er = b.kids.map er ∧ a.kids.length = b.kids.length := by
  rw [er_eq, er_eq] at h
  injection h with h1 h2 h3 h4 h5 h6 h7 h8 h9 h10
  exact ⟨h1, h10, by simpa using congrArg List.length h10⟩
/-- What flatten makes: the parts, those of a kind replaced by theirs. -/
def flK (kind : Int) (l : List Rt) : List Rt := l.flatMap (fun t => if t.k = kind then t.kids.map er else [er t])
theorem flK_snoc (kind : Int) (l : List Rt) (k : Nat) (h : k < l.length) : flK kind (l.take (k + 1)) = flK kind (l.take k) ++ (if l[k].k = kind then l[k].kids.map er else [er l[k]]) := by
  unfold flK; rw [List.take_succ_eq_append_getElem h, List.flatMap_append]; simp only [List.flatMap_cons, List.flatMap_nil, List.append_nil]
theorem flatX_app (l m : List Rt) : flatX (l ++ m) = flatX l ++ flatX m := by simp [flatX]
theorem one_cellX {w : World} (l : List Rt) (hl : ∀ x ∈ l, RxAt w x) : ∀ u ∈ flatX l, u.oneCell' = true := by
  intro u hu
  simp only [flatX, List.mem_flatMap] at hu
  obtain ⟨t, ht, hu⟩ := hu
  obtain ⟨A, c, h1⟩ := rwat_len (hl t ht).rows
  obtain ⟨B, d, h2⟩ := ksat_len (hl t ht).ks
  unfold Rt.cs at hu
  rw [h1, h2] at hu
  simp at hu
  rcases hu with rfl | rfl | rfl | rfl | rfl | rfl | rfl | rfl <;> rfl
def FpPost (kind : Int) (l : List Rt) (w : World) : Ending → World → Prop := fun e w' => ∃ v' L, e = .returned v' ∧ Below w.heap.size w w' ∧ KsAt w' v' L ∧ FrV w.heap.size v' ∧ (∀ x ∈ L, RxAt w' x) ∧ (∀ x ∈ L, Fr w.heap.size x) ∧ L.map er = flK kind l
def FInv (Q : Rt → Prop) (kind : Int) (l : List Rt) (w : World) (s i : Value) (wr : World) : Prop :=
  ∃ (k : Nat) (L : List Rt) (A : Option Addr) (c : Nat), i = .int .i64 k ∧ s = .slice A L.length c ∧ k ≤ l.length ∧ L.length ≤ sL (l.take k) ∧ Hid (wr.ownsRow w.heap.size 26 8 (.slice A L.length c) L.length (flatX L)) ∧ Hid (Below w.heap.size w wr) ∧ Hid (∀ x ∈ L, (RxAt wr x ∧ ∀ g, (Value.slice A L.length c).ownBlock = some g → Off g x) ∧ Q x) ∧ Hid (L.map er = flK kind (l.take k))
/-- The step: what is appended keeps the relation. -/
theorem finv_step {Q : Rt → Prop} {kind : Int} {l : List Rt} {w w3 w4 : World} {k : Nat} (hk : k < l.length) {L M : List Rt} {A : Option Addr} {c : Nat} {v' : Value}
    (hL : ∀ x ∈ L, (RxAt w3 x ∧ ∀ g, (Value.slice A L.length c).ownBlock = some g → Off g x) ∧ Q x) (hM : ∀ x ∈ M, (RxAt w3 x ∧ ∀ g, (Value.slice A L.length c).ownBlock = some g → Off g x) ∧ Q x)
    (ho : w4.ownsRow w.heap.size 26 8 v' (L.length + M.length) (flatX L ++ flatX M)) (hg : w3.grownBy w4 (Value.slice A L.length c).ownBlock)
    (h5 : v'.ownBlock = (Value.slice A L.length c).ownBlock ∨ ∃ k, v'.ownBlock = some k ∧ w3.heap.size ≤ k) (hb : Below w.heap.size w w4) (hlen : L.length ≤ sL (l.take k)) (hm : M.length ≤ sM l[k])
    (hE : L.map er = flK kind (l.take k)) (hE2 : M.map er = if l[k].k = kind then l[k].kids.map er else [er l[k]]) : FInv Q kind l w v' (.int .i64 ((k : Int) + 1)) w4 := by
  obtain ⟨B, d, rfl⟩ := own_slice ho
  refine ⟨k + 1, L ++ M, B, d, by simp, by simp, by omega, ?_, hide ?_, hide hb, hide ?_, hide ?_⟩
  · rw [sL_snoc l k hk, List.length_append]; omega
  · rw [List.length_append, flatX_app]; exact ho
  · intro x hx
    have h6 : (RxAt w3 x ∧ ∀ g, (Value.slice A L.length c).ownBlock = some g → Off g x) ∧ Q x := by
      rcases List.mem_append.1 hx with h | h
      · exact hL x h
      · exact hM x h
    refine ⟨⟨rx_row h6.1.1 h6.1.2 hg, fun g hg2 => ?_⟩, h6.2⟩
    rw [List.length_append] at hg2
    rcases h5 with h5 | ⟨k2, h5, h7⟩
    · exact h6.1.2 g (by rw [← h5]; exact hg2)
    · rw [h5] at hg2
      injection hg2 with hg2
      subst hg2
      exact off_new h6.1.1 h7
  · rw [List.map_append, hE, hE2, flK_snoc kind l k hk]
end Go.Proofs.Ytcgphknnnjpbkaa
