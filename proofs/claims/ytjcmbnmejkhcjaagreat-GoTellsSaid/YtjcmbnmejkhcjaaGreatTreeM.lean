/- Plain facts on trees of pieces: put one behind another, divided, their pieces. No condition. -/
import Derived.Test.YtjcmbnmejkhcjaaGreatTreeA
namespace Go.Proofs.YtjcmbnmejkhcjaaGreat
open Go.ChangeShapes Go.WideShapes Go.ChangeAt Go.RowKit
/-- A piece: its block, its text, its priority. -/
abbrev Pc := Nat × ByteArray × Int
def T.ps : T → List Pc
  | .nil => []
  | .node l n x p r => l.ps ++ (n, x, p) :: r.ps
def txP (l : List Pc) : List UInt8 := l.flatMap fun q => q.2.1.data.toList
theorem txP_app (l m : List Pc) : txP (l ++ m) = txP l ++ txP m := by simp [txP]
theorem txP_cons (q : Pc) (m : List Pc) : txP (q :: m) = q.2.1.data.toList ++ txP m := by simp [txP]
theorem txP_nil : txP [] = [] := rfl
theorem T.text_ps (t : T) : t.text = txP t.ps := by
  induction t with
  | nil => rfl
  | node l n x p r ihl ihr => rw [T.text, T.ps, txP_app, txP_cons, ihl, ihr]
theorem T.blocks_ps (t : T) : t.blocks = t.ps.map (·.1) := by
  induction t with
  | nil => rfl
  | node l n x p r ihl ihr => rw [T.blocks, T.ps, ihl, ihr]; simp
def T.top (q : Int) : T → Prop
  | .nil => True
  | .node _ _ _ p _ => p ≤ q
/-- No piece hangs below one of a smaller priority. -/
def T.Hp : T → Prop
  | .nil => True
  | .node l _ _ p r => l.Hp ∧ r.Hp ∧ l.top p ∧ r.top p
theorem T.top_mono {t : T} {p q : Int} (h : t.top p) (hq : p ≤ q) : t.top q := by
  cases t with
  | nil => trivial
  | node => exact Int.le_trans h hq
/-- What comes of two trees, one behind the other. -/
structure MrgT (a b t : T) : Prop where
  ps : t.ps = a.ps ++ b.ps
  hp : a.Hp → b.Hp → t.Hp
  top : ∀ q, a.top q → b.top q → t.top q
theorem mrg_left (b : T) : MrgT .nil b b := ⟨rfl, fun _ h => h, fun _ _ h => h⟩
theorem mrg_right (a : T) : MrgT a .nil a := ⟨by simp [T.ps], fun h _ => h, fun _ h _ => h⟩
theorem mrg_up {l r b t : T} {n : Nat} {x : ByteArray} {p : Int} (h : MrgT r b t) (hb : b.top p) : MrgT (.node l n x p r) b (.node l n x p t) where
  ps := by rw [T.ps, T.ps, h.ps]; simp
  hp := fun ⟨h1, h2, h3, h4⟩ hb' => ⟨h1, h.hp h2 hb', h3, h.top p h4 hb⟩
  top := fun _ h _ => h
theorem mrg_down {a l r t : T} {n : Nat} {x : ByteArray} {p : Int} (h : MrgT a l t) (ha : a.top p) : MrgT a (.node l n x p r) (.node t n x p r) where
  ps := by rw [T.ps, T.ps, h.ps]; simp
  hp := fun ha' ⟨h1, h2, h3, h4⟩ => ⟨h.hp ha' h1, h2, h.top p ha h3, h4⟩
  top := fun _ _ h => h
/-- What comes of a tree that is divided between two pieces at an offset. -/
structure PrtT (t : T) (k : Int) (a b : T) : Prop where
  ps : a.ps ++ b.ps = t.ps
  hp : t.Hp → a.Hp ∧ b.Hp
  top : t.Hp → ∀ q, t.top q → a.top q ∧ b.top q
  left : a.ps = [] ∨ ((txP a.ps).length : Int) ≤ k
  right : ∀ q m, b.ps = q :: m → k < (txP a.ps).length + (q.2.1.size : Int)
theorem prt_nil (k : Int) : PrtT .nil k .nil .nil := ⟨rfl, fun h => ⟨h, h⟩, fun _ _ h => ⟨h, h⟩, .inl rfl, fun _ _ h => by cases h⟩
theorem size_len (x : ByteArray) : (x.data.toList.length : Int) = x.size := by simp
theorem prt_right {l r a b : T} {n : Nat} {x : ByteArray} {p : Int} {k e : Int} (he : e = l.text.length + (x.size : Int)) (hk : e ≤ k) (h : PrtT r (k - e) a b) : PrtT (.node l n x p r) k (.node l n x p a) b where
  ps := by rw [T.ps, T.ps, ← h.ps]; simp
  hp := fun ⟨h1, h2, h3, h4⟩ => ⟨⟨h1, (h.hp h2).1, h3, (h.top h2 p h4).1⟩, (h.hp h2).2⟩
  top := fun ⟨_, h2, _, h4⟩ _ hq => ⟨hq, T.top_mono (h.top h2 p h4).2 hq⟩
  left := by
    right
    rw [T.ps, txP_app, txP_cons, List.length_append, List.length_append, ← T.text_ps]
    simp only
    have h1 := size_len x
    rcases h.left with h2 | h2
    · rw [h2, txP_nil]; simp only [List.length_nil]; omega
    · omega
  right := fun q m hm => by
    have h2 := h.right q m hm
    have h1 := size_len x
    rw [T.ps, txP_app, txP_cons, List.length_append, List.length_append, ← T.text_ps]
    simp only
    omega
theorem prt_left {l r a b : T} {n : Nat} {x : ByteArray} {p : Int} {k e : Int} (he : e = l.text.length + (x.size : Int)) (hk : k < e) (h : PrtT l k a b) : PrtT (.node l n x p r) k a (.node b n x p r) where
  ps := by rw [T.ps, T.ps, ← h.ps]; simp
  hp := fun ⟨h1, h2, h3, h4⟩ => ⟨(h.hp h1).1, (h.hp h1).2, h2, (h.top h1 p h3).2, h4⟩
  top := fun ⟨h1, _, h3, _⟩ _ hq => ⟨T.top_mono (h.top h1 p h3).1 hq, hq⟩
  left := h.left
  right := fun q m hm => by
    rw [T.ps] at hm
    cases hb : b.ps with
    | nil =>
      rw [hb, List.nil_append] at hm
      injection hm with hm _
      subst hm
      have h1 := h.ps
      rw [hb, List.append_nil] at h1
      rw [h1, ← T.text_ps]
      simp only
      omega
    | cons q' m' =>
      rw [hb] at hm
      injection hm with hm _
      subst hm
      exact h.right q' m' hb
/-- Pieces of 1 to 64 bytes with priorities; two side by side have more than 64. -/
def PcOk (q : Pc) : Prop := (1 ≤ q.2.1.size ∧ q.2.1.size ≤ 64) ∧ 0 ≤ q.2.2 ∧ q.2.2 < 4294967296
def Adj : List Pc → Prop
  | a :: b :: r => 64 < a.2.1.size + b.2.1.size ∧ Adj (b :: r)
  | _ => True
theorem adj_app (l m : List Pc) : Adj (l ++ m) ↔ Adj l ∧ Adj m ∧ ∀ a b, l.getLast? = some a → m.head? = some b → 64 < a.2.1.size + b.2.1.size := by
  induction l with
  | nil => simp [Adj]
  | cons a r ih =>
    cases r with
    | nil =>
      cases m with
      | nil => simp [Adj]
      | cons b q =>
        simp only [List.cons_append, List.nil_append, Adj, List.getLast?_singleton, List.head?_cons, true_and]
        constructor
        · rintro ⟨h1, h2⟩
          exact ⟨h2, fun x y hx hy => by cases hx; cases hy; exact h1⟩
        · rintro ⟨h1, h2⟩
          exact ⟨h2 _ _ rfl rfl, h1⟩
    | cons b q =>
      simp only [List.cons_append, Adj] at ih ⊢
      rw [ih, List.getLast?_cons_cons]
      constructor
      · rintro ⟨h1, h2, h3, h4⟩; exact ⟨⟨h1, h2⟩, h3, h4⟩
      · rintro ⟨⟨h1, h2⟩, h3, h4⟩; exact ⟨h1, h2, h3, h4⟩
structure Fit (t : T) : Prop where
  ok : ∀ q ∈ t.ps, PcOk q
  adj : Adj t.ps
  hp : t.Hp
theorem txP_pos {l : List Pc} (h : ∀ q ∈ l, PcOk q) (hl : l ≠ []) : 1 ≤ (txP l).length := by
  cases l with
  | nil => exact absurd rfl hl
  | cons q r =>
    rw [txP_cons, List.length_append]
    have := (h q (by simp)).1.1
    have h2 := size_len q.2.1
    omega
/-- A list of pieces is parted at an offset in one way. -/
theorem cut_uniq {k : Int} : ∀ {a a' b b' : List Pc}, a ++ b = a' ++ b' → (∀ q ∈ a ++ b, PcOk q) → (a = [] ∨ ((txP a).length : Int) ≤ k) → (∀ q m, b = q :: m → k < (txP a).length + (q.2.1.size : Int)) →
    (a' = [] ∨ ((txP a').length : Int) ≤ k) → (∀ q m, b' = q :: m → k < (txP a').length + (q.2.1.size : Int)) → a = a' ∧ b = b' := by
  intro a
  induction a generalizing k with
  | nil =>
    intro a' b b' h hok _ hr hl' hr'
    cases a' with
    | nil => exact ⟨rfl, by simpa using h⟩
    | cons q m =>
      rw [List.nil_append] at h
      have h1 := hr q (m ++ b') h
      have h2 := hl'.resolve_left (by simp)
      rw [txP_cons, List.length_append] at h2
      rw [txP_nil] at h1
      have h3 := size_len q.2.1
      simp only [List.length_nil] at h1
      omega
  | cons q m ih =>
    intro a' b b' h hok hl hr hl' hr'
    have hl2 := hl.resolve_left (by simp)
    rw [txP_cons, List.length_append] at hl2
    have h3 := size_len q.2.1
    cases a' with
    | nil =>
      rw [List.nil_append] at h
      have h1 := hr' q (m ++ b) h.symm
      rw [txP_nil] at h1
      simp only [List.length_nil] at h1
      omega
    | cons q' m' =>
      rw [List.cons_append, List.cons_append] at h
      injection h with h0 h
      subst h0
      have hl2' := hl'.resolve_left (by simp)
      rw [txP_cons, List.length_append] at hl2'
      have hx : ∀ z y, b = z :: y → (k - q.2.1.size) < (txP m).length + (z.2.1.size : Int) := fun z y hz => by
        have := hr z y hz
        rw [txP_cons, List.length_append] at this
        omega
      have hx' : ∀ z y, b' = z :: y → (k - q.2.1.size) < (txP m').length + (z.2.1.size : Int) := fun z y hz => by
        have := hr' z y hz
        rw [txP_cons, List.length_append] at this
        omega
      obtain ⟨h4, h5⟩ := ih (k := k - q.2.1.size) h (fun z hz => hok z (by rw [List.cons_append]; exact List.mem_cons_of_mem _ hz)) (.inr (by omega)) hx (.inr (by omega)) hx'
      exact ⟨by rw [h4], h5⟩
theorem fit_nil : Fit .nil := ⟨by simp [T.ps], trivial, trivial⟩
theorem fit_mrg {a b t : T} (h : MrgT a b t) (ha : Fit a) (hb : Fit b) (hj : ∀ x y, a.ps.getLast? = some x → b.ps.head? = some y → 64 < x.2.1.size + y.2.1.size) : Fit t where
  ok := fun q hq => by
    rw [h.ps] at hq
    rcases List.mem_append.1 hq with hq | hq
    · exact ha.ok q hq
    · exact hb.ok q hq
  adj := by rw [h.ps, adj_app]; exact ⟨ha.adj, hb.adj, hj⟩
  hp := h.hp ha.hp hb.hp
theorem fit_prt {t a b : T} {k : Int} (h : PrtT t k a b) (ht : Fit t) : Fit a ∧ Fit b := by
  have h1 := ht.adj
  rw [← h.ps, adj_app] at h1
  exact ⟨⟨fun q hq => ht.ok q (by rw [← h.ps]; simp [hq]), h1.1, (h.hp ht.hp).1⟩, ⟨fun q hq => ht.ok q (by rw [← h.ps]; simp [hq]), h1.2.1, (h.hp ht.hp).2⟩⟩
theorem fit_leaf (n : Nat) (x : ByteArray) (p : Int) (h : PcOk (n, x, p)) : Fit (.node .nil n x p .nil) :=
  ⟨by intro q hq; simp [T.ps] at hq; subst hq; exact h, by simp [T.ps, Adj], ⟨trivial, trivial, trivial, trivial⟩⟩
theorem leaf_ps (n : Nat) (x : ByteArray) (p : Int) : (T.node .nil n x p .nil).ps = [(n, x, p)] := by simp [T.ps]
/-- The last piece parted off. -/
theorem prt_last {t a b : T} {A : List Pc} {x : Pc} (ht : Fit t) (hx : t.ps = A ++ [x]) (h : PrtT t ((txP t.ps).length - (x.2.1.size : Int)) a b) : a.ps = A ∧ b.ps = [x] := by
  have h3 := size_len x.2.1
  have hl : ((txP t.ps).length : Int) - x.2.1.size = (txP A).length := by
    rw [hx, txP_app, txP_cons, txP_nil, List.append_nil, List.length_append]; omega
  have hx1 := (ht.ok x (by rw [hx]; simp)).1.1
  refine cut_uniq (k := (txP t.ps).length - (x.2.1.size : Int)) (by rw [h.ps, hx]) (fun q hq => ht.ok q (by rw [← h.ps]; exact hq)) h.left h.right (.inr (by omega)) (fun q m hq => ?_)
  injection hq with hq _
  subst hq
  omega
/-- The first piece parted off. -/
theorem prt_first {t a b : T} {B : List Pc} {x : Pc} (ht : Fit t) (hx : t.ps = x :: B) (h : PrtT t (x.2.1.size : Int) a b) : a.ps = [x] ∧ b.ps = B := by
  have h3 := size_len x.2.1
  have hl : (txP [x]).length = (x.2.1.data.toList).length := by rw [txP_cons, txP_nil, List.append_nil]
  refine cut_uniq (k := (x.2.1.size : Int)) (by rw [h.ps, hx]; rfl) (fun q hq => ht.ok q (by rw [← h.ps]; exact hq)) h.left h.right (.inr (by omega)) (fun q m hq => ?_)
  have := (ht.ok q (by rw [hx, hq]; simp)).1.1
  omega
theorem glue_far {a b t : T} {A B : List Pc} {x y : Pc} (ha : Fit a) (hb : Fit b) (hax : a.ps = A ++ [x]) (hby : b.ps = y :: B) (hs : 64 < x.2.1.size + y.2.1.size) (h : MrgT a b t) : Fit t :=
  fit_mrg h ha hb (fun u v hu hv => by
    rw [hax, List.getLast?_append] at hu
    rw [hby] at hv
    simp at hu hv
    subst hu hv
    exact hs)
theorem glue_near {a b a1 a2 b1 b2 t1 t2 : T} {A B : List Pc} {x y : Pc} (ha : Fit a) (hb : Fit b) (hax : a.ps = A ++ [x]) (hby : b.ps = y :: B)
    (h1 : PrtT a ((txP a.ps).length - (x.2.1.size : Int)) a1 a2) (h2 : PrtT b (y.2.1.size : Int) b1 b2) (n : Nat) (z : ByteArray) (p : Int) (hz : z.data.toList = x.2.1.data.toList ++ y.2.1.data.toList) (hp : 0 ≤ p ∧ p < 4294967296)
    (hs : x.2.1.size + y.2.1.size ≤ 64) (m1 : MrgT a1 (.node .nil n z p .nil) t1) (m2 : MrgT t1 b2 t2) : Fit t2 ∧ t2.ps = A ++ (n, z, p) :: B := by
  obtain ⟨e1, _⟩ := prt_last ha hax h1
  obtain ⟨_, e2⟩ := prt_first hb hby h2
  have hzs : z.size = x.2.1.size + y.2.1.size := by
    have e3 := size_len z
    have e4 := size_len x.2.1
    have e5 := size_len y.2.1
    rw [hz, List.length_append] at e3
    omega
  have hx1 := (ha.ok x (by rw [hax]; simp)).1.1
  have hy1 := (hb.ok y (by rw [hby]; simp)).1.1
  have hla := ha.adj
  rw [hax, adj_app] at hla
  have hlb := hb.adj
  rw [hby] at hlb
  have f1 : Fit t1 := fit_mrg m1 (fit_prt h1 ha).1 (fit_leaf n z p ⟨⟨by simp only; omega, by simp only; omega⟩, hp⟩) (fun u v hu hv => by
    rw [e1] at hu
    rw [leaf_ps] at hv
    simp at hv
    subst hv
    have := hla.2.2 u x hu rfl
    simp only
    omega)
  have ht1 : t1.ps = A ++ [(n, z, p)] := by rw [m1.ps, e1, leaf_ps]
  refine ⟨fit_mrg m2 f1 (fit_prt h2 hb).2 (fun u v hu hv => ?_), by rw [m2.ps, ht1, e2]; simp⟩
  rw [ht1, List.getLast?_append] at hu
  rw [e2] at hv
  simp at hu
  subst hu
  cases B with
  | nil => simp at hv
  | cons c r =>
    simp at hv
    subst hv
    have := hlb.1
    simp only
    omega
end Go.Proofs.YtjcmbnmejkhcjaaGreat
