/- Small general lemmas for walks: the frame 'Below', numbers, lists of bytes. No condition. And 32 texts more. -/
import Derived.WalkKit
import Derived.ProofKit
import Derived.OpenShut
import Derived.ShutString
import Derived.ChangeOld
import Derived.Below
import Derived.Outline
import Derived.Deep.Draws
import Derived.WalkSpells
import Derived.IntWalk
import Derived.WalkLawsBesides
import Derived.OwnWalk
import Derived.Maps.AppendAt
import Derived.SliceStrings
import Derived.Deep.Grids
import Derived.Deep.QuietTactic
import Derived.BigQuiet
import Derived.Deep.RegionWith
import Derived.Test.YtcnliipkfccohabGreatRows
import GoSem.Op.String
import Derived.Sort.Walk0
import Derived.Deep.AppendLies
import Derived.RegionTactic
import Derived.Laws.IdiomStrings
import Derived.Deep.SlicePairs
import Derived.Lib.SmallJoins
import Derived.ChangeSame
import Derived.Deep.Slices
import Derived.Sort.Grow
import Derived.Deep.RegionHeld3
import Derived.Deep.DrawnRows
namespace Go.Proofs.YtcnliipkfccohabGreat
end Go.Proofs.YtcnliipkfccohabGreat
namespace Go.Proofs.YtcnliipkfccohabGreat.SetM
end Go.Proofs.YtcnliipkfccohabGreat.SetM
namespace Go.Proofs.YtcnliipkfccohabGreat.SpanM
end Go.Proofs.YtcnliipkfccohabGreat.SpanM
section
namespace Go.Proofs.YtcnliipkfccohabGreat
open Go.ChangeShapes Go.WideShapes Go.ChangeAt Go.RowKit
theorem hide {p : Prop} (h : p) : Hid p := h
theorem ret_int {k : IntKind} {a b : Int} (h : a = b) : Ending.returned (.int k a) = .returned (.int k b) := by rw [h]
theorem ret_bool {a b : Bool} (h : a = b) : Ending.returned (.bool a) = .returned (.bool b) := by rw [h]
theorem of_beq_t {a b : Int} (h : (a == b) = true) : a = b := by simpa using h
theorem of_beq_f {a b : Int} (h : (a == b) = false) : a ≠ b := by simpa using h
theorem bl_refl (w : World) : Below w.heap.size w w := Below.refl _ _
theorem bl_alloc {a w : World} (h : Below a.heap.size a w) (o : Obj) : Below a.heap.size a (w.alloc o) := h.alloc h.size o
theorem bl_drew {a w : World} (h : Below a.heap.size a w) : Below a.heap.size a w.drew := h.drew
theorem bl_drewN {a w : World} (h : Below a.heap.size a w) (n : Nat) : Below a.heap.size a (w.drewN n) := ⟨h.os, h.tape, h.output, h.size, h.block⟩
theorem bl_trans {a b c : World} (h : Below a.heap.size a b) (k : Below b.heap.size b c) : Below a.heap.size a c := h.trans (k.mono h.size)
theorem bl_set {a w : World} (h : Below a.heap.size a w) {p : Addr} (hp : a.heap.size ≤ p.block) (u : Value) : Below a.heap.size a (w.setCell p u) := h.setCell hp u
theorem bl_cell {W w1 : World} (hb : Below W.heap.size W w1) : (∀ b o, b < W.heap.size → w1.cell? ⟨b, o, none⟩ = W.cell? ⟨b, o, none⟩) ∧ (∀ b o, b < W.heap.size → w1.frozen? ⟨b, o, none⟩ = W.frozen? ⟨b, o, none⟩) :=
  ⟨fun b o h => hb.cell (p := ⟨b, o, none⟩) h, fun b o h => hb.frozen (p := ⟨b, o, none⟩) h⟩
theorem take_snoc (s : ByteArray) (k : Nat) (h : k < s.size) : s.data.toList.take (k + 1) = s.data.toList.take k ++ [s[k]] := by
  rw [List.take_succ_eq_append_getElem (by simpa using h)]; rfl
theorem take_all (s : ByteArray) : s.data.toList.take s.size = s.data.toList := List.take_of_length_le (by simp)
theorem len_data (s : ByteArray) : s.data.toList.length = s.size := by simp
end Go.Proofs.YtcnliipkfccohabGreat
end
section
namespace Go.Proofs.YtcnliipkfccohabGreat
open Go.ChangeShapes Go.WideShapes Go.ChangeAt Go.RowKit
theorem grown_set {a w : World} {g : Nat} (h : a.grownBy w (some g)) (o : Nat) (u : Value) : a.grownBy (w.setCell ⟨g, o, none⟩ u) (some g) :=
  ⟨h.os, h.tape, h.output, by simpa [World.setCell] using h.size, fun i hi hne => (Below.heap_setCell w _ u i (by rintro rfl; exact hne rfl)).trans (h.block i hi hne)⟩
theorem grown_drew {a w : World} {row : Option Nat} (h : a.grownBy w row) : a.grownBy w.drew row := ⟨h.os, h.tape, h.output, h.size, h.block⟩
theorem grown_refl (w : World) (row : Option Nat) : w.grownBy w row := ⟨rfl, rfl, rfl, Nat.le_refl _, fun _ _ _ => rfl⟩
theorem own_slice {w : World} {base : Nat} {e : TypeId} {size : Nat} {v : Value} {n : Nat} {xs : List Value} (h : w.ownsRow base e size v n xs) : ∃ A c, v = .slice A n c := by
  rcases h.2 with ⟨rfl, rfl⟩ | ⟨g, cap, cur, rfl, _⟩
  · exact ⟨_, _, rfl⟩
  · exact ⟨_, _, rfl⟩
theorem own_form {w : World} {base : Nat} {e : TypeId} {size : Nat} {v : Value} {n : Nat} {xs : List Value} (h : w.ownsRow base e size v n xs) :
    (v = .slice none 0 0 ∧ n = 0 ∧ xs = []) ∨ ∃ g c, v = .slice (some ⟨g, 0, none⟩) n c ∧ base ≤ g ∧ g < w.heap.size ∧ n ≤ c ∧ c ≤ maxLen ∧ ∀ j u, xs[j]? = some u → w.cell? ⟨g, j, none⟩ = some u := by
  rcases h.2 with ⟨rfl, rfl⟩ | ⟨g, cap, cur, rfl, hb, hh, hnc, hcm, hsz, htake⟩
  · have := h.1
    exact .inl ⟨rfl, rfl, List.eq_nil_of_length_eq_zero (by simpa using this)⟩
  · refine .inr ⟨g, cap, rfl, hb, (Array.getElem?_eq_some_iff.1 hh).1, hnc, hcm, fun j u hu => ?_⟩
    have hj : j < xs.length := (List.getElem?_eq_some_iff.1 hu).1
    have h1 := h.1
    rw [← hu]
    exact World.ownsRow.cellAt h j (by omega)
theorem own_below {w w' : World} {base : Nat} {e : TypeId} {size : Nat} {v : Value} {n : Nat} {xs : List Value} (h : w.ownsRow base e size v n xs) (hb : Below w.heap.size w w') : w'.ownsRow base e size v n xs := by
  obtain ⟨h1, h2⟩ := h
  refine ⟨h1, ?_⟩
  rcases h2 with h2 | ⟨g, cap, cur, hv, hg, hh, r⟩
  · exact .inl h2
  · exact .inr ⟨g, cap, cur, hv, hg, by rw [hb.block g (Array.getElem?_eq_some_iff.1 hh).1]; exact hh, r⟩
theorem own_base {w : World} {base base' : Nat} {e : TypeId} {size : Nat} {v : Value} {n : Nat} {xs : List Value} (h : w.ownsRow base e size v n xs) (hb : base' ≤ base) : w.ownsRow base' e size v n xs := by
  obtain ⟨h1, h2⟩ := h
  refine ⟨h1, ?_⟩
  rcases h2 with h2 | ⟨g, cap, cur, hv, hg, r⟩
  · exact .inl h2
  · exact .inr ⟨g, cap, cur, hv, Nat.le_trans hb hg, r⟩
theorem bl_grown {a w w' : World} {row : Option Nat} (h : Below a.heap.size a w) (hg : w.grownBy w' row) (hb : ∀ k, row = some k → a.heap.size ≤ k) : Below a.heap.size a w' :=
  h.grown hg h.size hb
theorem bl_own {a w w' : World} {base : Nat} {e : TypeId} {size : Nat} {v : Value} {n : Nat} {xs : List Value} (h : Below a.heap.size a w) (ho : w.ownsRow base e size v n xs) (hg : w.grownBy w' v.ownBlock) (hb : a.heap.size ≤ base) : Below a.heap.size a w' :=
  h.grown hg h.size (fun k hk => Nat.le_trans hb (ho.lt k hk).1)
theorem cell_later {w w' : World} (h : Below w.heap.size w w') {p : Addr} {v : Value} (hc : w.cell? p = some v) : w'.cell? p = some v := by
  rw [h.cell (World.block_lt_of_cell? w p hc)]; exact hc
theorem cells_lit (w0 : World) (arr : Array Value) (e : TypeId) (j : Nat) (u : Value) (hu : arr.toList[j]? = some u) : (w0.alloc (.cells arr e)).cell? ((⟨w0.heap.size, 0, none⟩ : Addr).add j) = some u := by
  have h0 : ((⟨w0.heap.size, 0, none⟩ : Addr).add j) = ⟨w0.heap.size, j, none⟩ := by
    rcases Nat.eq_zero_or_pos j with h0 | h0
    · subst h0; simp [Addr.add]
    · simp [Addr.add, show j ≠ 0 by omega]
  rw [h0, World.cell?_alloc_mark w0 arr e (0, 0) j, ← hu]
  simp
section
variable {P : Program}
theorem wpList_push {ops : Array Oper} {rest : List Oper} {o : Oper} {a : Act} {Q : Exit → Act → World → Prop} (w0 : World) (hgd : o.guard = none) (s x : Operand) (t : TypeId)
    (ho : o.op = .call { callee := .builtin .append, args := #[s, x], argTypes := #[t, t] })
    (base : Nat) (e : TypeId) (i : TypeInfo) (z : Value) (size bytes : Nat) (ht : P.underlying t = some (.slice e)) (hi : P.info? e = some i) (hz : i.zero = some z)
    (hsize : i.size = size) (hby : i.bytes = bytes) (hzs : z.cells.size = size) (hsz : 0 < size)
    (v : Value) (n : Nat) (xs : List Value) (hs : a.eval s = v) (hown : w0.ownsRow base e size v n xs)
    (m : Nat) (arr : Array Value) (hx : a.eval x = .slice (some ⟨w0.heap.size, 0, none⟩) m m) (hl : arr.size = m * size) (h1 : ∀ u ∈ arr.toList, u.oneCell' = true)
    (h63 : n + m ≤ 100000000) (hbytes : bytes ≤ 1000) (hbase : base ≤ w0.heap.size)
    (h : ∀ v' w', w'.ownsRow base e size v' (n + m) (xs ++ arr.toList) → w0.grownBy w' v.ownBlock → (v'.ownBlock = v.ownBlock ∨ ∃ k, v'.ownBlock = some k ∧ w0.heap.size ≤ k) → wpList P ops Q rest (a.put o.dst v') w') :
    wpList P ops Q (o :: rest) a (w0.alloc (.cells arr e)) := by
  have hb2 : (n + m) * bytes ≤ 100000000 * 1000 := Nat.mul_le_mul h63 hbytes
  refine wpList_append_own_at _ hgd s x t ho base e i z size bytes ht hi hz hsize hby hzs hsz v n xs hs (hown.alloc _) ⟨w0.heap.size, 0, none⟩ m m arr.toList hx (by simpa using hl)
    (fun j u hu => cells_lit w0 arr e j u hu) h1 (by simp only [maxLen]; omega) (by omega) (by simp; omega) ?_
  intro v' w' h2 h3 _ h5
  refine h v' w' h2 ⟨h3.os, h3.tape, h3.output, Nat.le_trans (by simp) h3.size, fun k hk hne => ?_⟩ ?_
  · exact (h3.block k (by simp; omega) hne).trans (Below.heap_alloc w0 _ k hk)
  · rcases h5 with h5 | h5
    · exact .inl h5
    · exact .inr ⟨_, h5, by simp⟩
end
end Go.Proofs.YtcnliipkfccohabGreat
end
section
namespace Go.Proofs.YtcnliipkfccohabGreat
open Go.ChangeShapes Go.WideShapes Go.ChangeAt Go.RowKit
def IsInts (k : IntKind) (w : World) (a : Option Addr) (len cap : Nat) (zs : List Int) : Prop :=
  (a = none ∧ len = 0 ∧ cap = 0 ∧ zs = []) ∨
  ∃ x, a = some x ∧ len ≤ cap ∧ cap ≤ maxLen ∧ zs.length = cap ∧ (∀ i, i < zs.length → w.cell? (x.add i) = some (.int k (zs.getD i 0))) ∧ ∀ n ∈ zs, (Lit.int k n).wf = true
def IsStrs (w : World) (a : Option Addr) (len cap : Nat) (zs : List ByteArray) : Prop :=
  (a = none ∧ len = 0 ∧ cap = 0 ∧ zs = []) ∨
  ∃ x, a = some x ∧ len ≤ cap ∧ cap ≤ maxLen ∧ zs.length = cap ∧ (∀ i, i < zs.length → w.cell? (x.add i) = some (.string (zs.getD i ByteArray.empty))) ∧ ∀ s ∈ zs, s.size ≤ maxLen
def IsBools (w : World) (a : Option Addr) (len cap : Nat) (zs : List Bool) : Prop :=
  (a = none ∧ len = 0 ∧ cap = 0 ∧ zs = []) ∨
  ∃ x, a = some x ∧ len ≤ cap ∧ cap ≤ maxLen ∧ zs.length = cap ∧ (∀ i, i < zs.length → w.cell? (x.add i) = some (.bool (zs.getD i false)))
theorem addr_add (b off i : Nat) : (⟨b, off, none⟩ : Addr).add i = ⟨b, off + i, none⟩ := by
  rcases Nat.eq_zero_or_pos i with h0 | h0
  · subst h0; simp [Addr.add]
  · simp [Addr.add, show i ≠ 0 by omega]
theorem ints_cell {K : IntKind} {w : World} {a : Option Addr} {n cap : Nat} {z : List Int} (h : IsInts K w a n cap z) (hp : 0 < n) :
    ∃ b off, a = some ⟨b, off, none⟩ ∧ n ≤ z.length ∧ n ≤ cap ∧ cap ≤ maxLen ∧ ∀ i, i < z.length → w.cell? ⟨b, off + i, none⟩ = some (.int K (z.getD i 0)) := by
  rcases h with ⟨rfl, rfl, rfl, rfl⟩ | ⟨x, rfl, hl, hm, hz, hcell, hwz⟩
  · omega
  · obtain ⟨b, off, spot⟩ := x
    have hc := hcell 0 (by omega)
    have hspot : spot = none := by simpa [Addr.add] using World.cell?_spot hc
    subst hspot
    exact ⟨b, off, rfl, by omega, hl, hm, fun i hi => by rw [← addr_add]; exact hcell i hi⟩
theorem strs_cell {w : World} {a : Option Addr} {n cap : Nat} {z : List ByteArray} (h : IsStrs w a n cap z) (hp : 0 < n) :
    ∃ b off, a = some ⟨b, off, none⟩ ∧ n ≤ z.length ∧ n ≤ cap ∧ cap ≤ maxLen ∧ ∀ i, i < z.length → w.cell? ⟨b, off + i, none⟩ = some (.string (z.getD i ByteArray.empty)) := by
  rcases h with ⟨rfl, rfl, rfl, rfl⟩ | ⟨x, rfl, hl, hm, hz, hcell, hwz⟩
  · omega
  · obtain ⟨b, off, spot⟩ := x
    have hc := hcell 0 (by omega)
    have hspot : spot = none := by simpa [Addr.add] using World.cell?_spot hc
    subst hspot
    exact ⟨b, off, rfl, by omega, hl, hm, fun i hi => by rw [← addr_add]; exact hcell i hi⟩
theorem bools_cell {w : World} {a : Option Addr} {n cap : Nat} {z : List Bool} (h : IsBools w a n cap z) (hp : 0 < n) :
    ∃ b off, a = some ⟨b, off, none⟩ ∧ n ≤ z.length ∧ n ≤ cap ∧ cap ≤ maxLen ∧ ∀ i, i < z.length → w.cell? ⟨b, off + i, none⟩ = some (.bool (z.getD i false)) := by
  rcases h with ⟨rfl, rfl, rfl, rfl⟩ | ⟨x, rfl, hl, hm, hz, hcell⟩
  · omega
  · obtain ⟨b, off, spot⟩ := x
    have hc := hcell 0 (by omega)
    have hspot : spot = none := by simpa [Addr.add] using World.cell?_spot hc
    subst hspot
    exact ⟨b, off, rfl, by omega, hl, hm, fun i hi => by rw [← addr_add]; exact hcell i hi⟩
theorem ints_len {K : IntKind} {w : World} {a : Option Addr} {n cap : Nat} {z : List Int} (h : IsInts K w a n cap z) : n ≤ z.length := by
  rcases h with ⟨rfl, rfl, rfl, rfl⟩ | ⟨x, rfl, hl, hm, hz, hcell, hwz⟩ <;> omega
theorem strs_len {w : World} {a : Option Addr} {n cap : Nat} {z : List ByteArray} (h : IsStrs w a n cap z) : n ≤ z.length := by
  rcases h with ⟨rfl, rfl, rfl, rfl⟩ | ⟨x, rfl, hl, hm, hz, hcell, hwz⟩ <;> omega
theorem bools_len {w : World} {a : Option Addr} {n cap : Nat} {z : List Bool} (h : IsBools w a n cap z) : n ≤ z.length := by
  rcases h with ⟨rfl, rfl, rfl, rfl⟩ | ⟨x, rfl, hl, hm, hz, hcell⟩ <;> omega
theorem getD_take {α : Type} (z : List α) (n k : Nat) (d : α) (h : k < n) : (z.take n).getD k d = z.getD k d := by simp [List.getD, h]
section
variable {H : Type} {enc : TypeId × Value → H} {P : Program} {w : World} {base : Nat} {spare : Nat → Bool} {held : Bool}
theorem okWide_arr {r : Reach} {b0 : Nat} {t : TypeId} {v : Value} {n : Nat} {e : TypeId} (ht : P.underlying t = some (.array n e)) (h : Value.okWide P w r b0 t v) : ∃ cs, v = .agg cs ∧ cs.size = P.cellsOf t := by
  simp only [Value.okWide, ht] at h
  obtain ⟨cs, h1, h2, _⟩ := h
  exact ⟨cs, h1, h2⟩
theorem open_arr4 {r : Reach} {b0 : Nat} {t e : TypeId} {k : IntKind} {v : Value} {d : DataW H} {p : List MemPlace} (ht : P.underlying t = some (.array 4 e)) (he : P.underlying e = some (.int k)) (hC : P.cellsOf t = 4) (hCe : P.cellsOf e = 1)
    (hv : Value.okWide P w r b0 t v) (h : DataW.Trod enc P w base spare held t v d p) :
    ∃ a b c x : Int, v = .agg #[.int k a, .int k b, .int k c, .int k x] ∧ (Lit.int k a).wf = true ∧ (Lit.int k b).wf = true ∧ (Lit.int k c).wf = true ∧ (Lit.int k x).wf = true := by
  obtain ⟨cs, rfl, hsz⟩ := okWide_arr ht hv
  obtain ⟨l⟩ := cs
  match l, hsz.trans hC with
  | [c0, c1, c2, c3], _ =>
    obtain ⟨fuel, hf⟩ := h
    obtain ⟨xs, m, _, hx, _, hlen, hg⟩ := DataW.trod_array ht hf
    match xs, hlen with
    | [y0, y1, y2, y3], _ =>
      have g0 := hg 0 (by omega)
      have g1 := hg 1 (by omega)
      have g2 := hg 2 (by omega)
      have g3 := hg 3 (by omega)
      simp only [Value.cells, hCe] at g0 g1 g2 g3
      obtain ⟨a, e0, _, wa⟩ := DataW.trod_int he g0
      obtain ⟨b, e1, _, wb⟩ := DataW.trod_int he g1
      obtain ⟨c, e2, _, wc⟩ := DataW.trod_int he g2
      obtain ⟨x, e3, _, wx⟩ := DataW.trod_int he g3
      simp at e0 e1 e2 e3
      subst e0 e1 e2 e3
      exact ⟨a, b, c, x, rfl, wa, wb, wc, wx⟩
end
end Go.Proofs.YtcnliipkfccohabGreat
end
section
namespace Go.Proofs.YtcnliipkfccohabGreat
open Go.ChangeShapes Go.WideShapes Go.ChangeAt Go.RowKit
structure Later (W : World) where
  now : World
  below : Below W.heap.size W now
theorem later_cell {W : World} (u : Later W) (b o : Nat) (h : b < W.heap.size) : u.now.cell? ⟨b, o, none⟩ = W.cell? ⟨b, o, none⟩ := u.below.cell (p := ⟨b, o, none⟩) h
theorem later_frozen {W : World} (u : Later W) (b o : Nat) (h : b < W.heap.size) : u.now.frozen? ⟨b, o, none⟩ = W.frozen? ⟨b, o, none⟩ := u.below.frozen (p := ⟨b, o, none⟩) h
theorem later_call {P : Program} {f : FuncId} {args : Array Value} {W : World} {u : Later W} {v : Value}
    (h : Calls P f args u.now fun e w' => e = .returned v ∧ Below u.now.heap.size u.now w') : Calls P f args u.now fun e w'' => e = .returned v ∧ ∃ u' : Later W, w'' = u'.now :=
  h.mono fun _ w' ⟨he, hb⟩ => ⟨he, ⟨w', bl_trans u.below hb⟩, rfl⟩
theorem later_call_same {P : Program} {f : FuncId} {args : Array Value} {W : World} {u : Later W} {v : Value}
    (h : Calls P f args u.now fun e w' => e = .returned v ∧ u.now = w') : Calls P f args u.now fun e w'' => e = .returned v ∧ ∃ u' : Later W, w'' = u'.now :=
  h.mono fun _ _ ⟨he, hb⟩ => ⟨he, u, hb.symm⟩
theorem wp_region_later {P : Program} {id : Nat} {Q : Exit → Act → World → Prop} {a : Act} {w : World} {l : List Oper} (hm : P.follows .mixedOrders = true) (hB : Region.lexB .any l.toArray = true)
    (h : wpQuiet P l.toArray (fun w' => ∃ u : Later w, w' = u.now) (fun a' => ∀ w', (∃ u : Later w, w' = u.now) → Q .normal a' w') l a) : (Code.region id l.toArray true).wp P Q a w :=
  wp_region_quiet (C := fun w' => ∃ u : Later w, w' = u.now) hm hB ⟨⟨_, bl_drew (bl_refl w)⟩, rfl⟩ (by simpa using h)
end Go.Proofs.YtcnliipkfccohabGreat
end
section
namespace Go.Proofs.YtcnliipkfccohabGreat
open Go.ChangeShapes Go.WideShapes Go.ChangeAt Go.RowKit
def lowN (x : Int) (n : Nat) : Nat := ((IntKind.u64.wrap x).tmod n).toNat
theorem u64_nonneg (x : Int) : 0 ≤ IntKind.u64.wrap x := by
  rw [IntKind.wrap_u64]; omega
theorem lowN_eq (x : Int) (n : Nat) : (IntKind.u64.wrap x).tmod n = (lowN x n : Int) := by
  unfold lowN
  have := Int.tmod_nonneg (n : Int) (u64_nonneg x)
  omega
theorem lowN_lt (x : Int) (n : Nat) (hn : 0 < n) : lowN x n < n := by
  have h := Int.tmod_lt_of_pos (IntKind.u64.wrap x) (b := (n : Int)) (by omega)
  rw [lowN_eq] at h
  omega
end Go.Proofs.YtcnliipkfccohabGreat
end
section
namespace Go.Proofs.YtcnliipkfccohabGreat.SetM
abbrev Rw := ByteArray × ByteArray
def bl (a b : ByteArray) : Bool := Op.bytesLess a.toList b.toList
theorem bl_iff (a b : ByteArray) : bl a b = true ↔ a.data.toList < b.data.toList := by
  unfold bl; rw [bytesLess_eq, Go.ByteArray.toList_eq, Go.ByteArray.toList_eq]; simp
theorem bl_no (a b : ByteArray) : bl a b = false ↔ b.data.toList ≤ a.data.toList := by
  rw [← Bool.not_eq_true, bl_iff, List.not_lt]
theorem ext (a b : ByteArray) (h : a.data.toList = b.data.toList) : a = b := ByteArray.ext (Array.ext' h)
theorem bl_irr (a : ByteArray) : bl a a = false := by rw [bl_no]; exact List.le_refl _
theorem bl_tri (a b : ByteArray) (h : bl a b = false) (g : bl b a = false) : a = b := by
  rw [bl_no] at h g; exact ext _ _ (List.le_antisymm g h)
theorem bl_asym (a b : ByteArray) (h : bl a b = true) : bl b a = false := by
  rw [bl_iff] at h; rw [bl_no]; exact List.le_of_lt h
theorem bl_trans {a b c : ByteArray} (h : bl a b = true) (g : bl b c = true) : bl a c = true := by
  rw [bl_iff] at *; exact List.lt_trans h g
theorem bl_le_trans {a b c : ByteArray} (h : bl b a = false) (g : bl c b = false) : bl c a = false := by
  rw [bl_no] at *; exact List.le_trans h g
theorem bl_lt_le {a b c : ByteArray} (h : bl a b = true) (g : bl c b = false) : bl a c = true := by
  cases hh : bl a c
  · have := bl_le_trans (a := c) (b := a) (c := b)
    have h1 : bl b a = false := bl_asym _ _ h
    -- c ≤ a, a < b, b ≤ c
    have h2 := bl_le_trans g hh
    rw [h] at h2; cases h2
  · rfl
theorem bl_le_lt {a b c : ByteArray} (h : bl b a = false) (g : bl b c = true) : bl a c = true := by
  cases hh : bl a c
  · have h2 := bl_le_trans hh h
    rw [g] at h2; cases h2
  · rfl
def eqB (a b : ByteArray) : Bool := a.toList == b.toList
theorem eqB_iff (a b : ByteArray) : eqB a b = true ↔ a = b := by
  unfold eqB; rw [Go.ByteArray.toList_eq, Go.ByteArray.toList_eq, beq_iff_eq]
  exact ⟨ext a b, fun h => by rw [h]⟩
theorem eqB_d (a b : ByteArray) : eqB a b = decide (a = b) := by rw [Bool.eq_iff_iff, eqB_iff]; simp
theorem le_or (a b : ByteArray) : (bl a b || eqB a b) = !bl b a := by
  cases h : bl a b
  · cases g : bl b a
    · have := bl_tri a b h g; subst this; simp [(eqB_iff a a).2 rfl]
    · have : eqB a b = false := by
        rw [eqB_d, decide_eq_false_iff_not]; rintro rfl; rw [h] at g; cases g
      rw [this]; rfl
  · rw [bl_asym a b h]; rfl
def mx (a b : ByteArray) : ByteArray := if bl a b = true then b else a
theorem mx_ge1 (a b : ByteArray) : bl (mx a b) a = false := by
  unfold mx; split
  · exact bl_asym _ _ ‹_›
  · exact bl_irr _
theorem mx_ge2 (a b : ByteArray) : bl (mx a b) b = false := by
  unfold mx; split
  · exact bl_irr _
  · exact Bool.eq_false_iff.2 ‹_›
theorem mx_cases (a b : ByteArray) : mx a b = a ∨ mx a b = b := by unfold mx; split <;> simp
def less (a b : Rw) : Bool := bl a.1 b.1 || (eqB a.1 b.1 && bl a.2 b.2)
def le (a b : Rw) : Prop := less b a = false
theorem less_asym (a b : Rw) (h : less a b = true) : less b a = false := by
  unfold less at *
  simp only [Bool.or_eq_true, Bool.and_eq_true, eqB_iff] at h
  rcases h with h | ⟨h1, h2⟩
  · have e : eqB b.1 a.1 = false := by rw [eqB_d, decide_eq_false_iff_not]; intro e; rw [e, bl_irr] at h; cases h
    rw [bl_asym _ _ h, e]; rfl
  · rw [h1, bl_irr, bl_asym _ _ h2]; simp
theorem less_irr (a : Rw) : less a a = false := by unfold less; rw [bl_irr, bl_irr]; simp
theorem less_tot (a b : Rw) (h : less a b = false) (g : less b a = false) : a = b := by
  obtain ⟨a1, a2⟩ := a
  obtain ⟨b1, b2⟩ := b
  unfold less at *
  simp only [Bool.or_eq_false_iff] at h g
  have e := bl_tri _ _ h.1 g.1
  subst e
  have e1 : eqB a1 a1 = true := (eqB_iff _ _).2 rfl
  simp only [e1, Bool.true_and] at h g
  rw [bl_tri _ _ h.2 g.2]
theorem less_from {a b : Rw} (h : less a b = false) : bl a.1 b.1 = false := by
  unfold less at h; simp only [Bool.or_eq_false_iff] at h; exact h.1
theorem le_trans {a b c : Rw} (h : le a b) (g : le b c) : le a c := by
  unfold le at *
  have h1 := less_from h
  have g1 := less_from g
  have k := bl_le_trans h1 g1
  unfold less
  rw [k, Bool.false_or]
  cases e : eqB c.1 a.1
  · rfl
  · rw [eqB_iff] at e
    have e2 : b.1 = a.1 := by
      refine bl_tri _ _ h1 ?_
      rw [e] at g1; exact g1
    unfold less at h g
    rw [e2] at h g
    rw [e] at g
    have e1 : eqB a.1 a.1 = true := (eqB_iff _ _).2 rfl
    simp only [bl_irr, e1, Bool.true_and, Bool.false_or] at h g
    rw [Bool.true_and]
    exact bl_le_trans h g
theorem less_trans {a b c : Rw} (h : less a b = true) (g : less b c = true) : less a c = true := by
  cases hh : less a c
  · -- c ≤ a
    have h1 : le c a := hh
    have h2 : le a b := less_asym _ _ h
    have h3 : le c b := le_trans h1 h2
    unfold le at h3; rw [g] at h3; cases h3
  · rfl
theorem le_refl (a : Rw) : le a a := less_irr a
theorem le_antisymm {a b : Rw} (h : le a b) (g : le b a) : a = b := less_tot _ _ g h
def Sorted (l : List Rw) : Prop := l.Pairwise le
def sortS (l : List Rw) : List Rw := l.mergeSort fun a b => !less b a
theorem sortS_perm (l : List Rw) : (sortS l).Perm l := List.mergeSort_perm _ _
theorem sortS_len (l : List Rw) : (sortS l).length = l.length := (sortS_perm l).length_eq
theorem sortS_sorted (l : List Rw) : Sorted (sortS l) := by
  have h := List.pairwise_mergeSort (le := fun a b => !less b a) (fun a b c h1 h2 => by
      simp only [Bool.not_eq_true'] at *
      exact le_trans (a := a) (b := b) (c := c) h1 h2)
    (fun a b => by
      cases h : less b a
      · rfl
      · rw [less_asym _ _ h]; rfl) l
  exact h.imp (fun {a b} hab => by simpa [le] using hab)
def stepU (acc : List Rw) (s : Rw) : List Rw :=
  match acc.getLast? with
  | none => [s]
  | some t => if bl t.2 s.1 = true then acc ++ [s] else acc.dropLast ++ [(t.1, mx t.2 s.2)]
def uniF (l : List Rw) : List Rw := l.foldl stepU []
theorem step_nil (s : Rw) : stepU [] s = [s] := rfl
theorem step_on (a0 : List Rw) (t s : Rw) (h : bl t.2 s.1 = false) : stepU (a0 ++ [t]) s = a0 ++ [(t.1, mx t.2 s.2)] := by
  unfold stepU; simp [h]
theorem step_new (a0 : List Rw) (t s : Rw) (h : bl t.2 s.1 = true) : stepU (a0 ++ [t]) s = a0 ++ [t] ++ [s] := by
  unfold stepU; simp [h]
theorem uniF_snoc (l : List Rw) (k : Nat) (h : k < l.length) : uniF (l.take (k + 1)) = stepU (uniF (l.take k)) l[k] := by
  unfold uniF
  rw [List.take_succ_eq_append_getElem h, List.foldl_append]
  rfl
theorem step_len (acc : List Rw) (s : Rw) : (stepU acc s).length ≤ acc.length + 1 := by
  rcases List.eq_nil_or_concat acc with rfl | ⟨a0, t, rfl⟩
  · rw [step_nil]; simp
  · rw [List.concat_eq_append]
    cases ht : bl t.2 s.1
    · rw [step_on _ _ _ ht]; simp
    · rw [step_new _ _ _ ht]; simp
theorem uniF_len (l : List Rw) (k : Nat) : (uniF (l.take k)).length ≤ k := by
  induction k with
  | zero => simp [uniF]
  | succ k ih =>
    by_cases h : k < l.length
    · rw [uniF_snoc l k h]; have := step_len (uniF (l.take k)) l[k]; omega
    · rw [List.take_of_length_le (by omega)]
      rw [List.take_of_length_le (by omega)] at ih
      omega
theorem uniF_le (l : List Rw) : (uniF l).length ≤ l.length := by
  have := uniF_len l l.length
  rw [List.take_length] at this; exact this
def okR (s : Rw) : Prop := bl s.2 s.1 = false
def inB (l : List Rw) (c : ByteArray) : Bool := l.any fun s => !bl c s.1 && !bl s.2 c
theorem inB_iff (l : List Rw) (c : ByteArray) : inB l c = true ↔ ∃ s ∈ l, bl c s.1 = false ∧ bl s.2 c = false := by
  unfold inB; simp
theorem inB_app (l k : List Rw) (c : ByteArray) : inB (l ++ k) c = (inB l c || inB k c) := by unfold inB; simp
structure Norm (l : List Rw) : Prop where
  valid : ∀ s ∈ l, okR s
  apart : l.Pairwise fun a b => bl a.2 b.1 = true
theorem uni_inv (l acc : List Rw) (hn : Norm acc) (hok : ∀ s ∈ l, okR s) (hs : Sorted l) (hb : ∀ t ∈ acc.getLast?, ∀ s ∈ l, bl s.1 t.1 = false) :
    Norm (l.foldl stepU acc) ∧ (∀ c, inB (l.foldl stepU acc) c = (inB acc c || inB l c)) ∧
    (∀ P : ByteArray → Prop, (∀ s ∈ acc, P s.1 ∧ P s.2) → (∀ s ∈ l, P s.1 ∧ P s.2) → ∀ s ∈ l.foldl stepU acc, P s.1 ∧ P s.2) := by
  induction l generalizing acc with
  | nil => exact ⟨hn, fun c => by simp [inB], fun P h1 _ => h1⟩
  | cons s r ih =>
    have hsr := List.pairwise_cons.1 hs
    rw [List.foldl_cons]
    have hsok := hok s (by simp)
    rcases List.eq_nil_or_concat acc with rfl | ⟨a0, t, rfl⟩
    · rw [step_nil]
      have h1 := ih [s] ⟨by simpa using hsok, List.pairwise_singleton _ _⟩ (fun x hx => hok x (List.mem_cons_of_mem _ hx)) hsr.2 (fun t ht x hx => by
        simp at ht; subst ht; exact less_from (hsr.1 x hx))
      refine ⟨h1.1, fun c => ?_, fun P h2 h3 => h1.2.2 P (by simpa using h3 s (by simp)) (fun x hx => h3 x (List.mem_cons_of_mem _ hx))⟩
      rw [h1.2.1 c]; simp [inB]
    · rw [List.concat_eq_append] at *
      have hp := List.pairwise_append.1 hn.apart
      have htok := hn.valid t (by simp)
      have htf : bl s.1 t.1 = false := hb t (by simp) s (by simp)
      cases ht : bl t.2 s.1
      · rw [step_on _ _ _ ht]
        have hm : okR (t.1, mx t.2 s.2) := bl_le_trans htok (mx_ge1 _ _)
        have h1 := ih (a0 ++ [(t.1, mx t.2 s.2)]) ⟨fun x hx => by
            rcases List.mem_append.1 hx with hx | hx
            · exact hn.valid x (by simp [hx])
            · simp at hx; subst hx; exact hm, List.pairwise_append.2 ⟨hp.1, List.pairwise_singleton _ _, fun a ha b hb' => by
            simp at hb'; subst hb'; exact hp.2.2 a ha t (by simp)⟩⟩ (fun x hx => hok x (List.mem_cons_of_mem _ hx)) hsr.2 (fun u hu x hx => by
            simp at hu; subst hu; exact hb t (by simp) x (List.mem_cons_of_mem _ hx))
        refine ⟨h1.1, fun c => ?_, fun P h2 h3 => h1.2.2 P (fun x hx => ?_) (fun x hx => h3 x (List.mem_cons_of_mem _ hx))⟩
        · rw [h1.2.1 c, inB_app, inB_app, Bool.eq_iff_iff]
          simp only [Bool.or_eq_true, inB_iff, List.mem_cons, exists_eq_or_imp]
          have key : (bl c t.1 = false ∧ bl (mx t.2 s.2) c = false) ↔ ((bl c t.1 = false ∧ bl t.2 c = false) ∨ (bl c s.1 = false ∧ bl s.2 c = false)) := by
            constructor
            · rintro ⟨k1, k2⟩
              cases hc : bl t.2 c
              · exact .inl ⟨k1, rfl⟩
              · refine .inr ⟨?_, ?_⟩
                · have : bl s.1 c = true := bl_le_lt ht hc
                  exact bl_asym _ _ this
                · rcases mx_cases t.2 s.2 with e | e
                  · rw [e, hc] at k2; cases k2
                  · rw [e] at k2; exact k2
            · rintro (⟨k1, k2⟩ | ⟨k1, k2⟩)
              · exact ⟨k1, bl_le_trans k2 (mx_ge1 _ _)⟩
              · exact ⟨bl_le_trans htf k1, bl_le_trans k2 (mx_ge2 _ _)⟩
          rw [key]
          simp only [List.not_mem_nil, false_and, exists_false, or_false, or_assoc]
        · rcases List.mem_append.1 hx with hx | hx
          · exact h2 x (by simp [hx])
          · simp at hx; subst hx
            have h4 := h2 t (by simp)
            have h5 := h3 s (by simp)
            refine ⟨h4.1, ?_⟩
            rcases mx_cases t.2 s.2 with e | e
            · show P (mx t.2 s.2); rw [e]; exact h4.2
            · show P (mx t.2 s.2); rw [e]; exact h5.2
      · rw [step_new _ _ _ ht]
        have h1 := ih (a0 ++ [t] ++ [s]) ⟨fun x hx => by
            rcases List.mem_append.1 hx with hx | hx
            · exact hn.valid x hx
            · simp at hx; subst hx; exact hsok, List.pairwise_append.2 ⟨hn.apart, List.pairwise_singleton _ _, fun a ha b hb' => by
            simp at hb'; subst hb'
            rcases List.mem_append.1 ha with ha | ha
            · have h2 := hp.2.2 a ha t (by simp)
              exact bl_trans (bl_lt_le h2 htok) ht
            · simp at ha; subst ha; exact ht⟩⟩ (fun x hx => hok x (List.mem_cons_of_mem _ hx)) hsr.2 (fun u hu x hx => by
            simp at hu; subst hu; exact less_from (hsr.1 x hx))
        refine ⟨h1.1, fun c => ?_, fun P h2 h3 => h1.2.2 P (fun x hx => ?_) (fun x hx => h3 x (List.mem_cons_of_mem _ hx))⟩
        · rw [h1.2.1 c, inB_app (a0 ++ [t])]
          have : inB (s :: r) c = (inB [s] c || inB r c) := by simp [inB]
          rw [this, Bool.or_assoc]
        · rcases List.mem_append.1 hx with hx | hx
          · exact h2 x hx
          · simp at hx; subst hx; exact h3 x (by simp)
theorem uni_norm (l : List Rw) (hok : ∀ s ∈ l, okR s) (h : Sorted l) : Norm (uniF l) := (uni_inv l [] ⟨by simp, .nil⟩ hok h (by simp)).1
theorem uni_all (l : List Rw) (hok : ∀ s ∈ l, okR s) (h : Sorted l) (P : ByteArray → Prop) (hP : ∀ s ∈ l, P s.1 ∧ P s.2) : ∀ s ∈ uniF l, P s.1 ∧ P s.2 :=
  (uni_inv l [] ⟨by simp, .nil⟩ hok h (by simp)).2.2 P (by simp) hP
def dd : List Rw → List Rw
  | [] => []
  | [a] => [a]
  | a :: b :: r => if a = b then dd (b :: r) else a :: dd (b :: r)
end Go.Proofs.YtcnliipkfccohabGreat.SetM
end
section
namespace Go.Proofs.YtcnliipkfccohabGreat
set_option maxRecDepth 100000
open Go.ChangeShapes Go.WideShapes Go.ChangeAt Go.RowKit
def Src (w : World) (size : Nat) (A : Option Addr) (m : Nat) (news : List Value) : Prop :=
  news.length = m * size ∧ (m = 0 ∨ ∃ ad, A = some ad ∧ ∀ j u, news[j]? = some u → w.cell? (ad.add j) = some u)
theorem src_below {w w' : World} {size : Nat} {A : Option Addr} {m : Nat} {news : List Value} (h : Src w size A m news) (hb : Below w.heap.size w w') : Src w' size A m news :=
  ⟨h.1, h.2.imp id fun ⟨ad, ha, hc⟩ => ⟨ad, ha, fun j u hu => cell_later hb (hc j u hu)⟩⟩
theorem src_grown {w w' : World} {size : Nat} {A : Option Addr} {m : Nat} {news : List Value} {row : Option Nat} (h : Src w size A m news) (hg : w.grownBy w' row) (hne : ∀ ad, A = some ad → row ≠ some ad.block) : Src w' size A m news := by
  refine ⟨h.1, h.2.imp id ?_⟩
  rintro ⟨ad, rfl, hc⟩
  refine ⟨ad, rfl, fun j u hu => ?_⟩
  have h1 := hc j u hu
  have hlt := World.block_lt_of_cell? w _ h1
  have hb : (ad.add j).block = ad.block := by unfold Addr.add; split <;> rfl
  have h2 := hg.block (ad.add j).block hlt (by rw [hb]; exact fun e => hne ad rfl e.symm)
  obtain ⟨b, off, spot⟩ := ad
  rw [hg.cell_far _ hlt (by rw [hb]; exact fun e => hne _ rfl e.symm)]
  exact h1
theorem own_src {w : World} {base : Nat} {e : TypeId} {size n c : Nat} {A : Option Addr} {xs : List Value} (h : w.ownsRow base e size (.slice A n c) n xs) : Src w size A n xs := by
  refine ⟨h.1, ?_⟩
  rcases own_form h with ⟨hv, h1, _⟩ | ⟨g, c', hv, _, _, _, _, hc⟩
  · exact .inl h1
  · injection hv with hv _ _
    subst hv
    refine .inr ⟨_, rfl, fun j u hu => ?_⟩
    have : (⟨g, 0, none⟩ : Addr).add j = ⟨g, j, none⟩ := by
      rcases Nat.eq_zero_or_pos j with h0 | h0
      · subst h0; simp [Addr.add]
      · simp [Addr.add, show j ≠ 0 by omega]
    rw [this]
    exact hc j u hu
theorem own_front' {w : World} {base : Nat} {e : TypeId} {size n c k : Nat} {A : Option Addr} {xs : List Value} (h : w.ownsRow base e size (.slice A n c) n xs) (hk : k ≤ n) : Src w size A k (xs.take (k * size)) := by
  have h0 := own_src h
  have hms : k * size ≤ n * size := Nat.mul_le_mul_right _ hk
  refine ⟨by rw [List.length_take, h0.1]; omega, ?_⟩
  rcases h0.2 with hn | ⟨ad, ha, hc⟩
  · exact .inl (by omega)
  · refine .inr ⟨ad, ha, fun j u hu => hc j u ?_⟩
    rw [List.getElem?_take] at hu
    split at hu
    · exact hu
    · cases hu
theorem own_from {w : World} {base : Nat} {e : TypeId} {size n c k : Nat} {A : Option Addr} {xs : List Value} (h : w.ownsRow base e size (.slice A n c) n xs) (hk : k ≤ n) : Src w size (if c = k then A else A.map (·.add (k * size))) (n - k) (xs.drop (k * size)) := by
  have h0 := own_src h
  refine ⟨by rw [List.length_drop, h0.1, Nat.sub_mul], ?_⟩
  rcases own_form h with ⟨_, h1, _⟩ | ⟨g, c', hv, _, _, hnc, _, hc⟩
  · exact .inl (by omega)
  · injection hv with hv _ hcc
    subst hv hcc
    by_cases hck : c = k
    · exact .inl (by omega)
    · rw [if_neg hck]
      refine .inr ⟨_, rfl, fun j u hu => ?_⟩
      rw [List.getElem?_drop] at hu
      have h3 := hc _ _ hu
      have e1 : ((⟨g, 0, none⟩ : Addr).add (k * size)).add j = ⟨g, k * size + j, none⟩ := by
        have ea : ∀ x y : Nat, (⟨g, x, none⟩ : Addr).add y = ⟨g, x + y, none⟩ := fun x y => by
          rcases Nat.eq_zero_or_pos y with h0 | h0
          · subst h0; simp [Addr.add]
          · simp [Addr.add, show y ≠ 0 by omega]
        rw [ea, ea, Nat.zero_add]
      rw [e1]; exact h3
theorem own_at {w : World} {base B : Nat} {e : TypeId} {size : Nat} (h : w.heap[B]? = some (.cells #[] e)) (hb : base ≤ B) : w.ownsRow base e size (.slice (some ⟨B, 0, none⟩) 0 0) 0 [] :=
  ⟨by simp, .inr ⟨B, 0, #[], rfl, hb, h, Nat.le_refl _, Nat.zero_le _, by simp, by simp⟩⟩
theorem heap_new {w : World} {o : Obj} {B : Nat} (h : B = w.heap.size) : (w.alloc o).heap[B]? = some o := by subst h; exact heap_alloc_new w o
theorem heap_old {w : World} {o x : Obj} {B : Nat} (h : w.heap[B]? = some x) : (w.alloc o).heap[B]? = some x := by
  rw [heap_alloc_old w o (Array.getElem?_eq_some_iff.1 h).1]; exact h
theorem heap_drew {w : World} {x : Obj} {B : Nat} (h : w.heap[B]? = some x) : w.drew.heap[B]? = some x := h
theorem heap_kept {w w' : World} {x : Obj} {B : Nat} {row : Option Nat} (hg : w.grownBy w' row) (h : w.heap[B]? = some x) (hne : row ≠ some B) : w'.heap[B]? = some x :=
  (hg.block B (Array.getElem?_eq_some_iff.1 h).1 (Ne.symm hne)).trans h
theorem src_block {w : World} {B m size : Nat} {cs : Array Value} {e : TypeId} (h : w.heap[B]? = some (.cells cs e)) (hl : cs.size = m * size) : Src w size (some ⟨B, 0, none⟩) m cs.toList :=
  ⟨by simpa using hl, .inr ⟨_, rfl, World.news_of_block h⟩⟩
section
variable {P : Program}
theorem run_slice_to (t e : TypeId) (i : TypeInfo) (ht : P.underlying t = some (.slice e)) (hi : P.info? e = some i) (A : Option Addr) (n c k : Nat) (K : Int) (hK : (k : Int) = K) (hk : k ≤ c) (W : World) :
    (Instr.slice t (.slice A n c) none (some (.int .i64 K)) none).run P W = .ok (.slice A k c) W := by
  subst hK
  have h1 : (0 : Int) ≤ k ∧ (k : Int) ≤ c := by omega
  have h2 : A.map (fun x => x.add (0 * i.size)) = A := by cases A <;> simp [Addr.add]
  simp [Instr.slice, run_underlying ht, Instr.sliceBounds, Instr.sliceBound, asIntOf, sizeOf, typeInfo, hi, h1]
  rw [if_pos hk]
  rw [Nat.zero_mul] at h2
  rw [h2]
  simp
theorem run_slice_from (t e : TypeId) (i : TypeInfo) (ht : P.underlying t = some (.slice e)) (hi : P.info? e = some i) (A : Option Addr) (n c k : Nat) (K : Int) (hK : (k : Int) = K) (hk : k ≤ n) (W : World) :
    (Instr.slice t (.slice A n c) (some (.int .i64 K)) none none).run P W = .ok (.slice (if c = k then A else A.map (·.add (k * i.size))) (n - k) (c - k)) W := by
  subst hK
  have h1 : (0 : Int) ≤ k ∧ (k : Int) ≤ n := by omega
  simp [Instr.slice, run_underlying ht, Instr.sliceBounds, Instr.sliceBound, asIntOf, sizeOf, typeInfo, hi, h1]
  intro h; omega
end
section
variable {P : Program}
theorem run_app_src (w : World) (base : Nat) (t ty e : TypeId) (i : TypeInfo) (z : Value) (size bytes : Nat) (ht : P.underlying t = some (.slice e)) (hi : P.info? e = some i) (hz : i.zero = some z)
    (hsize : i.size = size) (hby : i.bytes = bytes) (hzs : z.cells.size = size) (hsz : 0 < size)
    (v : Value) (n : Nat) (xs : List Value) (hown : w.ownsRow base e size v n xs)
    (A : Option Addr) (m c : Nat) (news : List Value) (hr : Src w size A m news) (h1 : ∀ u ∈ news, u.oneCell' = true)
    (h63 : n + m ≤ 100000000) (hbytes : bytes ≤ 1000) (hbase : base ≤ w.heap.size) :
    ∃ v' w', (Builtin.append_ #[t, t] ty #[v, .slice A m c]).run P w = .ok v' w' ∧ w'.ownsRow base e size v' (n + m) (xs ++ news) ∧ w.grownBy w' v.ownBlock := by
  have hb2 : (n + m) * bytes ≤ 100000000 * 1000 := Nat.mul_le_mul h63 hbytes
  cases A with
  | none =>
    rcases hr.2 with rfl | ⟨ad, hA, _⟩
    · have hn : news = [] := List.eq_nil_of_length_eq_zero (by rw [hr.1]; omega)
      subst hn
      refine ⟨v, w, ?_, by simpa using hown, grown_refl w _⟩
      rcases own_form hown with ⟨rfl, _⟩ | ⟨g, cap, rfl, _, _, hnc, _⟩
      · simp [Builtin.append_, run_underlying ht, sizeOf, typeInfo, hi, Builtin.lenOf, Builtin.firstCells]
      · simp [Builtin.append_, run_underlying ht, sizeOf, typeInfo, hi, Builtin.lenOf, Builtin.firstCells, hnc, storeCells]
    · cases hA
  | some ad =>
    have hc : ∀ j u, news[j]? = some u → w.cell? (ad.add j) = some u := by
      rcases hr.2 with rfl | ⟨ad', hA, hc⟩
      · have hn : news = [] := List.eq_nil_of_length_eq_zero (by rw [hr.1]; omega)
        subst hn
        intro j u hu; simp at hu
      · injection hA with hA
        subst hA; exact hc
    obtain ⟨v', w', h2, h3, h4, _⟩ := run_append_own_at (P := P) w base t ty e i z size bytes ht hi hz hsize hby hzs hsz v n xs hown ad m c news hr.1 hc h1 (by simp only [maxLen]; omega) (by omega) hbase
    exact ⟨v', w', h2, h3, h4⟩
theorem wp_app_src {o : Oper} {a : Act} {K : Act → World → Prop} {Q : Exit → Act → World → Prop} (w : World) (s x : Operand) (t : TypeId)
    (ho : o.op = .call { callee := .builtin .append, args := #[s, x], argTypes := #[t, t] })
    (base : Nat) (e : TypeId) (i : TypeInfo) (z : Value) (size bytes : Nat) (ht : P.underlying t = some (.slice e)) (hi : P.info? e = some i) (hz : i.zero = some z)
    (hsize : i.size = size) (hby : i.bytes = bytes) (hzs : z.cells.size = size) (hsz : 0 < size)
    (v : Value) (n : Nat) (xs : List Value) (hs : a.eval s = v) (hown : w.ownsRow base e size v n xs)
    (A : Option Addr) (m c : Nat) (news : List Value) (hx : a.eval x = .slice A m c) (hr : Src w size A m news) (h1 : ∀ u ∈ news, u.oneCell' = true)
    (h63 : n + m ≤ 100000000) (hbytes : bytes ≤ 1000) (hbase : base ≤ w.heap.size)
    (h : ∀ v' w', w'.ownsRow base e size v' (n + m) (xs ++ news) → w.grownBy w' v.ownBlock → K (a.put o.dst v') w') : o.wp P a w K Q := by
  obtain ⟨v', w', hrun, h2, h3⟩ := run_app_src (P := P) w base t o.type e i z size bytes ht hi hz hsize hby hzs hsz v n xs hown A m c news hr h1 h63 hbytes hbase
  unfold Oper.wp execOp
  simp only [ho, resolve, invoke, builtin, Sem.run_bind, Sem.run_pure, Result.andThen_ok, List.map_toArray, List.map_cons, List.map_nil, hs, hx, hrun]
  exact h v' w' h2 h3
theorem step_src {ops : Array Oper} {o : Oper} {a : Act} {K : Act → World → Prop} {Q : Exit → Act → World → Prop} {E : Prop} (w : World) (hgd : o.guard = none) (s x : Operand) (t : TypeId)
    (ho : o.op = .call { callee := .builtin .append, args := #[s, x], argTypes := #[t, t] })
    (base : Nat) (e : TypeId) (i : TypeInfo) (z : Value) (size bytes : Nat) (ht : P.underlying t = some (.slice e)) (hi : P.info? e = some i) (hz : i.zero = some z)
    (hsize : i.size = size) (hby : i.bytes = bytes) (hzs : z.cells.size = size) (hsz : 0 < size)
    (v : Value) (n : Nat) (xs : List Value) (hs : a.eval s = v) (hown : w.ownsRow base e size v n xs)
    (A : Option Addr) (m c : Nat) (news : List Value) (hx : a.eval x = .slice A m c) (hr : Src w size A m news) (h1 : ∀ u ∈ news, u.oneCell' = true)
    (h63 : n + m ≤ 100000000) (hbytes : bytes ≤ 1000) (hbase : base ≤ w.heap.size)
    (h : ∀ v' w', w'.ownsRow base e size v' (n + m) (xs ++ news) → w.grownBy w' v.ownBlock → K (a.put o.dst v') w') :
    if Region.wanted o (yielded ops a.tmps) = true then Oper.wp P o a w K Q else E := by
  have hw : Region.wanted o (yielded ops a.tmps) = true := by simp [Region.wanted, hgd]
  rw [if_pos hw]
  exact wp_app_src w s x t ho base e i z size bytes ht hi hz hsize hby hzs hsz v n xs hs hown A m c news hx hr h1 h63 hbytes hbase h
theorem wpList_src {ops : Array Oper} {rest : List Oper} {o : Oper} {a : Act} {Q : Exit → Act → World → Prop} (w : World) (hgd : o.guard = none) (s x : Operand) (t : TypeId)
    (ho : o.op = .call { callee := .builtin .append, args := #[s, x], argTypes := #[t, t] })
    (base : Nat) (e : TypeId) (i : TypeInfo) (z : Value) (size bytes : Nat) (ht : P.underlying t = some (.slice e)) (hi : P.info? e = some i) (hz : i.zero = some z)
    (hsize : i.size = size) (hby : i.bytes = bytes) (hzs : z.cells.size = size) (hsz : 0 < size)
    (v : Value) (n : Nat) (xs : List Value) (hs : a.eval s = v) (hown : w.ownsRow base e size v n xs)
    (A : Option Addr) (m c : Nat) (news : List Value) (hx : a.eval x = .slice A m c) (hr : Src w size A m news) (h1 : ∀ u ∈ news, u.oneCell' = true)
    (h63 : n + m ≤ 100000000) (hbytes : bytes ≤ 1000) (hbase : base ≤ w.heap.size)
    (h : ∀ v' w', w'.ownsRow base e size v' (n + m) (xs ++ news) → w.grownBy w' v.ownBlock → wpList P ops Q rest (a.put o.dst v') w') : wpList P ops Q (o :: rest) a w :=
  wpList_plain hgd fun _ hK => wp_app_src w s x t ho base e i z size bytes ht hi hz hsize hby hzs hsz v n xs hs hown A m c news hx hr h1 h63 hbytes hbase fun v' w' a b => hK _ _ (h v' w' a b)
end
end Go.Proofs.YtcnliipkfccohabGreat
end
section
namespace Go.Proofs.YtcnliipkfccohabGreat
open Go.ChangeShapes Go.WideShapes Go.ChangeAt Go.RowKit
def BytesAt (w : World) (g n : Nat) (l : List UInt8) : Prop :=
  l.length = n ∧ g < w.heap.size ∧ (∀ j, j < n → w.cell? ⟨g, j, none⟩ = some (.int .u8 ((l.getD j 0).toNat : Int))) ∧ ∀ j, j < n → w.frozen? ⟨g, j, none⟩ = false
theorem bytes_set {w : World} {g n : Nat} {l : List UInt8} (h : BytesAt w g n l) (k : Nat) (hk : k < n) (c : UInt8) : BytesAt (w.setCell ⟨g, k, none⟩ (.int .u8 (c.toNat : Int))) g n (l.set k c) := by
  obtain ⟨h1, h2, h3, h4⟩ := h
  refine ⟨by simpa using h1, by simpa [World.setCell] using h2, fun j hj => ?_, fun j hj => ?_⟩
  · have hkc := h3 k hk
    have hjc := h3 j hj
    by_cases e : j = k
    · subst e
      have hg : (l.set j c).getD j 0 = c := by simp [List.getD, show j < l.length by omega]
      rw [hg]
      go_simp
    · have hg : (l.set k c).getD j 0 = l.getD j 0 := by simp [List.getD, show ¬ k = j by omega]
      rw [hg]
      have e2 : k ≠ j := fun x => e x.symm
      go_simp
  · have := h4 j hj
    go_simp
theorem bytes_new (w : World) (s : ByteArray) (cap : Nat) (e : TypeId) (hc : s.size ≤ cap) :
    BytesAt (w.drew.alloc (.cells (Go.bytesRow s cap) e ((Go.bytesRow s cap).size, (Go.bytesRow s cap).size + 1))) w.heap.size s.size s.data.toList := by
  have hsz : (Go.bytesRow s cap).size = cap := by
    have : s.data.size = s.size := rfl
    simp [Go.bytesRow]; omega
  refine ⟨by simp, by simp, fun j hj => ?_, fun j hj => ?_⟩
  · have h1 := World.cell?_alloc_mark w.drew (Go.bytesRow s cap) e ((Go.bytesRow s cap).size, (Go.bytesRow s cap).size + 1) j
    have h2 : (w.drew).heap.size = w.heap.size := rfl
    rw [h2] at h1
    rw [h1, Go.bytesRow_at s cap j hj]
    have hj' : j < s.data.size := hj
    have h3 : s.data.toList.getD j 0 = s.data[j] := by
      rw [List.getD, Array.getElem?_toList, getElem?_pos s.data j hj']
      rfl
    rw [h3]
  · have h1 := World.frozen?_alloc_mark w.drew (Go.bytesRow s cap) e (Go.bytesRow s cap).size ((Go.bytesRow s cap).size + 1) j
    have h2 : (w.drew).heap.size = w.heap.size := rfl
    rw [h2] at h1
    rw [h1, hsz]
    simp
    omega
theorem getD_lt (l : List UInt8) (j : Nat) (h : j < l.length) : l.getD j 0 = l[j] := by simp [List.getD, h]
def mapS (f : UInt8 → UInt8) (s : ByteArray) : ByteArray := ⟨(s.data.toList.map f).toArray⟩
def part (f : UInt8 → UInt8) (l : List UInt8) (k : Nat) : List UInt8 := (l.take k).map f ++ l.drop k
theorem part_set (f : UInt8 → UInt8) (l : List UInt8) (k : Nat) (hk : k < l.length) : (part f l k).set k (f l[k]) = part f l (k + 1) := by
  unfold part
  rw [List.set_append_right _ _ (by simp; omega), List.take_succ_eq_append_getElem hk, List.map_append]
  have : k - ((l.take k).map f).length = 0 := by simp; omega
  rw [this, List.drop_eq_getElem_cons hk, List.set_cons_zero]
  simp
theorem part_at (f : UInt8 → UInt8) (l : List UInt8) (k : Nat) (hk : k < l.length) : (part f l k).getD k 0 = l[k] := by
  unfold part
  rw [List.getD, List.getElem?_append_right (by simp; omega)]
  have : k - ((l.take k).map f).length = 0 := by simp; omega
  rw [this, List.drop_eq_getElem_cons hk]
  rfl
theorem part_all (f : UInt8 → UInt8) (l : List UInt8) : part f l l.length = l.map f := by unfold part; simp
def upB (c : UInt8) : UInt8 := if 97 ≤ c.toNat ∧ c.toNat ≤ 122 then c - 32 else c
def downB (c : UInt8) : UInt8 := if 65 ≤ c.toNat ∧ c.toNat ≤ 90 then c + 32 else c
theorem upB_nat (c : UInt8) : (upB c).toNat = if 97 ≤ c.toNat ∧ c.toNat ≤ 122 then c.toNat - 32 else c.toNat := by
  unfold upB
  split
  · rw [UInt8.toNat_sub]
    have h32 : (32 : UInt8).toNat = 32 := rfl
    rw [h32]
    have := c.toNat_lt
    omega
  · rfl
theorem downB_nat (c : UInt8) : (downB c).toNat = if 65 ≤ c.toNat ∧ c.toNat ≤ 90 then c.toNat + 32 else c.toNat := by
  unfold downB
  split
  · rw [UInt8.toNat_add]
    have h32 : (32 : UInt8).toNat = 32 := rfl
    rw [h32]
    have := c.toNat_lt
    omega
  · rfl
set_option maxRecDepth 100000 in
theorem up_any (c : UInt8) (w : World) : Calls Tryz.prog 106 #[.int .u8 (c.toNat : Int)] w fun e w' => e = .returned (.int .u8 ((upB c).toNat : Int)) ∧ w = w' := by
  have hc : (c.toNat : Int) < 256 := by have := c.toNat_lt; omega
  have HU := hide (upB_nat c)
  generalize (upB c).toNat = u at *
  generalize c.toNat = n at *
  by_cases h : 97 ≤ n ∧ n ≤ 122
  · go_enter Tryz.func106, Tryz.ntmps106
    go_wp2
    all_goals
      go_ret
      exact ⟨ret_int (by have := HU.out; rw [if_pos (by omega)] at this; omega), rfl⟩
  · go_enter Tryz.func106, Tryz.ntmps106
    go_wp2
    all_goals
      go_ret
      exact ⟨ret_int (by have := HU.out; rw [if_neg (by omega)] at this; omega), rfl⟩
set_option maxRecDepth 100000 in
theorem down_any (c : UInt8) (w : World) : Calls Tryz.prog 104 #[.int .u8 (c.toNat : Int)] w fun e w' => e = .returned (.int .u8 ((downB c).toNat : Int)) ∧ w = w' := by
  have hc : (c.toNat : Int) < 256 := by have := c.toNat_lt; omega
  have HU := hide (downB_nat c)
  generalize (downB c).toNat = u at *
  generalize c.toNat = n at *
  by_cases h : 65 ≤ n ∧ n ≤ 90
  · go_enter Tryz.func104, Tryz.ntmps104
    go_wp2
    all_goals
      go_ret
      exact ⟨ret_int (by have := HU.out; rw [if_pos (by omega)] at this; omega), rfl⟩
  · go_enter Tryz.func104, Tryz.ntmps104
    go_wp2
    all_goals
      go_ret
      exact ⟨ret_int (by have := HU.out; rw [if_neg (by omega)] at this; omega), rfl⟩
set_option maxRecDepth 100000 in
set_option maxHeartbeats 1000000 in
theorem each_up (s : ByteArray) (w : World) (hs : s.size ≤ 1000000) :
    Calls Tryz.prog 103 #[.string s, .func (.func 106) #[] #[]] w fun e w' => e = .returned (.string (mapS upB s)) ∧ Below w.heap.size w w' := by
  have hcv := fun (W : World) => Go.run_bytes_of_string W 9 141 5 s Tryz.underlying9 Tryz.underlying141 Tryz.underlying5
  have hcap := grownCap_ge w s.size 0 5
  have hcap2 := grownCap_le_maxLen w s.size 0 5 (by unfold maxLen; omega)
  unfold maxLen at hcap2
  have hb := bytes_new w s (grownCap w s.size 0 5) 5 hcap
  have hbl : Below w.heap.size w (w.drew.alloc (.cells (Go.bytesRow s (grownCap w s.size 0 5)) 5 ((Go.bytesRow s (grownCap w s.size 0 5)).size, (Go.bytesRow s (grownCap w s.size 0 5)).size + 1))) := bl_alloc (bl_drew (bl_refl w)) _
  go_enter Tryz.func103, Tryz.ntmps103
  go_wp2
  generalize grownCap w s.size 0 5 = cap at *
  go_loopw [12] (fun i wr => ∃ k : Nat, k ≤ s.size ∧ i = .int .i64 k ∧ BytesAt wr w.heap.size s.size (part upB s.data.toList k) ∧ Below w.heap.size w wr)
    (fun i _ => s.size - (intOf i).toNat)
  case atStart => exact ⟨0, Nat.zero_le _, rfl, hb, hbl⟩
  case round =>
    obtain ⟨k, hk, rfl, hbr, hblr⟩ := hrel
    clear hb hbl hcv
    by_cases hlt : k < s.size
    · have hkl : k < s.data.toList.length := by simpa using hlt
      have hc := hbr.2.2.1 k hlt
      have hf := hbr.2.2.2 k hlt
      have hp := part_at upB s.data.toList k hkl
      rw [hp] at hc
      have hset := bytes_set hbr k hlt (upB s.data.toList[k])
      rw [part_set upB s.data.toList k hkl] at hset
      have HSET := hide hset
      clear hp hset
      generalize s.data.toList[k] = c at *
      go_wp2_with (go_at_call 106; refine (up_any c _).mono ?_; rintro e w1 ⟨rfl, rfl⟩)
      refine ⟨?_, by simp [intOf]; omega⟩
      have hbl2 : Below w.heap.size w (wr.setCell ⟨w.heap.size, k, none⟩ (.int .u8 ((upB c).toNat : Int))) := bl_set hblr (Nat.le_refl _) _
      first
        | exact ⟨k + 1, by omega, by go_num, HSET.out, hbl2⟩
        | ((repeat apply Exists.intro); exact ⟨⟨k + 1, by omega, by go_num, HSET.out, hbl2⟩, rfl⟩)
    · obtain rfl : k = s.size := by omega
      have hl : part upB s.data.toList s.size = s.data.toList.map upB := by have := part_all upB s.data.toList; simpa using this
      rw [hl] at hbr
      have hlen : (s.data.toList.map upB).length = s.size := by simp
      have hback := Go.run_convert_bytes_back wr 141 9 5 ⟨w.heap.size, 0, none⟩ cap (s.data.toList.map upB) Tryz.underlying141 Tryz.underlying5 Tryz.underlying9 (fun j hj => by
        have hj' : j < s.size := by simpa using hj
        have h1 := hbr.2.2.1 j hj'
        have h2 : ((⟨w.heap.size, 0, none⟩ : Addr).add j) = ⟨w.heap.size, j, none⟩ := by
          rcases Nat.eq_zero_or_pos j with h0 | h0
          · subst h0; simp [Addr.add]
          · simp [Addr.add, show j ≠ 0 by omega]
        rw [h2, h1, getD_lt _ _ hj])
      rw [hlen] at hback
      clear hl hlen hbr
      go_wp2
      go_ret
      exact ⟨rfl, hblr⟩
set_option maxRecDepth 100000 in
set_option maxHeartbeats 1000000 in
theorem each_down (s : ByteArray) (w : World) (hs : s.size ≤ 1000000) :
    Calls Tryz.prog 103 #[.string s, .func (.func 104) #[] #[]] w fun e w' => e = .returned (.string (mapS downB s)) ∧ Below w.heap.size w w' := by
  have hcv := fun (W : World) => Go.run_bytes_of_string W 9 141 5 s Tryz.underlying9 Tryz.underlying141 Tryz.underlying5
  have hcap := grownCap_ge w s.size 0 5
  have hcap2 := grownCap_le_maxLen w s.size 0 5 (by unfold maxLen; omega)
  unfold maxLen at hcap2
  have hb := bytes_new w s (grownCap w s.size 0 5) 5 hcap
  have hbl : Below w.heap.size w (w.drew.alloc (.cells (Go.bytesRow s (grownCap w s.size 0 5)) 5 ((Go.bytesRow s (grownCap w s.size 0 5)).size, (Go.bytesRow s (grownCap w s.size 0 5)).size + 1))) := bl_alloc (bl_drew (bl_refl w)) _
  go_enter Tryz.func103, Tryz.ntmps103
  go_wp2
  generalize grownCap w s.size 0 5 = cap at *
  go_loopw [12] (fun i wr => ∃ k : Nat, k ≤ s.size ∧ i = .int .i64 k ∧ BytesAt wr w.heap.size s.size (part downB s.data.toList k) ∧ Below w.heap.size w wr)
    (fun i _ => s.size - (intOf i).toNat)
  case atStart => exact ⟨0, Nat.zero_le _, rfl, hb, hbl⟩
  case round =>
    obtain ⟨k, hk, rfl, hbr, hblr⟩ := hrel
    clear hb hbl hcv
    by_cases hlt : k < s.size
    · have hkl : k < s.data.toList.length := by simpa using hlt
      have hc := hbr.2.2.1 k hlt
      have hf := hbr.2.2.2 k hlt
      have hp := part_at downB s.data.toList k hkl
      rw [hp] at hc
      have hset := bytes_set hbr k hlt (downB s.data.toList[k])
      rw [part_set downB s.data.toList k hkl] at hset
      have HSET := hide hset
      clear hp hset
      generalize s.data.toList[k] = c at *
      go_wp2_with (go_at_call 104; refine (down_any c _).mono ?_; rintro e w1 ⟨rfl, rfl⟩)
      refine ⟨?_, by simp [intOf]; omega⟩
      have hbl2 : Below w.heap.size w (wr.setCell ⟨w.heap.size, k, none⟩ (.int .u8 ((downB c).toNat : Int))) := bl_set hblr (Nat.le_refl _) _
      first
        | exact ⟨k + 1, by omega, by go_num, HSET.out, hbl2⟩
        | ((repeat apply Exists.intro); exact ⟨⟨k + 1, by omega, by go_num, HSET.out, hbl2⟩, rfl⟩)
    · obtain rfl : k = s.size := by omega
      have hl : part downB s.data.toList s.size = s.data.toList.map downB := by have := part_all downB s.data.toList; simpa using this
      rw [hl] at hbr
      have hlen : (s.data.toList.map downB).length = s.size := by simp
      have hback := Go.run_convert_bytes_back wr 141 9 5 ⟨w.heap.size, 0, none⟩ cap (s.data.toList.map downB) Tryz.underlying141 Tryz.underlying5 Tryz.underlying9 (fun j hj => by
        have hj' : j < s.size := by simpa using hj
        have h1 := hbr.2.2.1 j hj'
        have h2 : ((⟨w.heap.size, 0, none⟩ : Addr).add j) = ⟨w.heap.size, j, none⟩ := by
          rcases Nat.eq_zero_or_pos j with h0 | h0
          · subst h0; simp [Addr.add]
          · simp [Addr.add, show j ≠ 0 by omega]
        rw [h2, h1, getD_lt _ _ hj])
      rw [hlen] at hback
      clear hl hlen hbr
      go_wp2
      go_ret
      exact ⟨rfl, hblr⟩
end Go.Proofs.YtcnliipkfccohabGreat
end
section
namespace Go.Proofs.YtcnliipkfccohabGreat
set_option maxRecDepth 100000
open Go.ChangeShapes Go.WideShapes Go.ChangeAt Go.RowKit
open SetM
def encR (s : Rw) : List Value := [.string s.1, .string s.2]
def flatR (l : List Rw) : List Value := l.flatMap encR
theorem flatR_len (l : List Rw) : (flatR l).length = l.length * 2 := by
  induction l with
  | nil => rfl
  | cons a r ih => simp only [flatR, List.flatMap_cons, List.length_append, List.length_cons] at *; simp only [encR, List.length_cons, List.length_nil]; omega
theorem flatR_app (l k : List Rw) : flatR (l ++ k) = flatR l ++ flatR k := by simp [flatR]
theorem flatR_at (l : List Rw) (i : Nat) (h : i < l.length) : (flatR l)[i * 2]? = some (.string l[i].1) ∧ (flatR l)[i * 2 + 1]? = some (.string l[i].2) := by
  induction l generalizing i with
  | nil => simp at h
  | cons a r ih =>
    cases i with
    | zero => exact ⟨rfl, rfl⟩
    | succ i =>
      have e : flatR (a :: r) = .string a.1 :: .string a.2 :: flatR r := rfl
      have h1 : (i + 1) * 2 = i * 2 + 1 + 1 := by omega
      have h2 := ih i (by simpa using h)
      rw [e, h1, List.getElem?_cons_succ, List.getElem?_cons_succ, List.getElem?_cons_succ, List.getElem?_cons_succ]
      exact h2
theorem flatR_set1 (l : List Rw) (i : Nat) (h : i < l.length) (x : ByteArray) : (flatR l).set (i * 2 + 1) (.string x) = flatR (l.set i (l[i].1, x)) := by
  induction l generalizing i with
  | nil => simp at h
  | cons a r ih =>
    cases i with
    | zero => rfl
    | succ i =>
      have e : ∀ (b : Rw) (q : List Rw), flatR (b :: q) = .string b.1 :: .string b.2 :: flatR q := fun _ _ => rfl
      have h1 : (i + 1) * 2 + 1 = (i * 2 + 1) + 1 + 1 := by omega
      rw [e, h1, List.set_cons_succ, List.set_cons_succ, ih i (by simpa using h), List.set_cons_succ, e]
      rfl
def RwAt (w : World) (v : Value) (l : List Rw) : Prop :=
  (v = .slice none 0 0 ∧ l = []) ∨
  ∃ x c, v = .slice (some x) l.length c ∧ l.length ≤ c ∧ c ≤ maxLen ∧ ∀ i (h : i < l.length), w.cell? (x.add (i * 2)) = some (.string l[i].1) ∧ w.cell? (x.add (i * 2 + 1)) = some (.string l[i].2)
theorem rwat_len {w : World} {v : Value} {l : List Rw} (h : RwAt w v l) : ∃ a c, v = .slice a l.length c := by
  rcases h with ⟨rfl, rfl⟩ | ⟨x, c, rfl, _⟩
  · exact ⟨none, 0, rfl⟩
  · exact ⟨some x, c, rfl⟩
theorem rwat_below {w w' : World} {v : Value} {l : List Rw} (h : RwAt w v l) (hb : Below w.heap.size w w') : RwAt w' v l := by
  rcases h with h | ⟨x, c, rfl, h1, h2, h3⟩
  · exact .inl h
  · exact .inr ⟨x, c, rfl, h1, h2, fun i hi => ⟨cell_later hb (h3 i hi).1, cell_later hb (h3 i hi).2⟩⟩
theorem rwat_some {w : World} {v : Value} {l : List Rw} (h : RwAt w v l) (hp : 0 < l.length) :
    ∃ b off c, v = .slice (some ⟨b, off, none⟩) l.length c ∧ l.length ≤ c ∧ c ≤ maxLen ∧ b < w.heap.size ∧ ∀ i (h : i < l.length), w.cell? ⟨b, off + i * 2, none⟩ = some (.string l[i].1) ∧ w.cell? ⟨b, off + i * 2 + 1, none⟩ = some (.string l[i].2) := by
  rcases h with ⟨rfl, rfl⟩ | ⟨x, c, rfl, h1, h2, h3⟩
  · simp at hp
  · obtain ⟨b, off, spot⟩ := x
    have hc := (h3 0 hp).1
    have hspot : spot = none := by simpa [Addr.add] using World.cell?_spot hc
    subst hspot
    refine ⟨b, off, c, rfl, h1, h2, ?_, fun i hi => ?_⟩
    · have := World.block_lt_of_cell? w _ hc
      rw [addr_add] at this
      exact this
    · have := h3 i hi
      rw [addr_add, addr_add] at this
      exact this
theorem own_rwat {w : World} {base : Nat} {v : Value} {l : List Rw} (h : w.ownsRow base 94 2 v l.length (flatR l)) : RwAt w v l := by
  rcases own_form h with ⟨rfl, h1, h2⟩ | ⟨g, c, rfl, h1, h2, h3, h4, h5⟩
  · exact .inl ⟨rfl, List.eq_nil_of_length_eq_zero h1⟩
  · refine .inr ⟨_, c, rfl, h3, h4, fun i hi => ?_⟩
    rw [addr_add, addr_add]
    simp only [Nat.zero_add]
    exact ⟨h5 _ _ (flatR_at l i hi).1, h5 _ _ (flatR_at l i hi).2⟩
theorem info_rw : (Tryz.prog.info? 94).map (fun i => (i.zero, i.size, i.bytes)) = some (some (.agg #[.string ⟨#[]⟩, .string ⟨#[]⟩]), 2, 32) := by kernel_rfl
end Go.Proofs.YtcnliipkfccohabGreat
end
section
namespace Go.Proofs.YtcnliipkfccohabGreat
set_option maxRecDepth 100000
open Go.ChangeShapes Go.WideShapes Go.ChangeAt Go.RowKit Go.Deep Go.Joins
open SetM
section
variable {H : Type} {enc : TypeId × Value → H} {W : World} {base : Nat} {held : Bool}
def WfR (s : Rw) : Prop := s.1.size ≤ maxLen ∧ s.2.size ≤ maxLen
theorem rw_fields : ∃ f0 f1 : Field, Tryz.prog.underlying 94 = some (.struct #[f0, f1]) ∧ f0.offset = 0 ∧ f1.offset = 1 ∧ f0.type = 9 ∧ f1.type = 9 ∧ oneCellFields Tryz.prog #[f0, f1] = true := by
  refine ⟨_, _, Tryz.underlying94, ?_, ?_, ?_, ?_, ?_⟩ <;> kernel_rfl
theorem open_row {r : Reach} {b0 : Nat} {v : Value} {d : DataW H} {p : List MemPlace} {spare : Nat → Bool} (hv : Value.okWide Tryz.prog W r b0 94 v) (h : DataW.Trod enc Tryz.prog W base spare held 94 v d p) :
    ∃ s : Rw, v = .agg #[.string s.1, .string s.2] ∧ WfR s := by
  obtain ⟨f0, f1, hs, _, _, t0, t1, hone⟩ := rw_fields
  obtain ⟨v0, v1, y0, y1, n, rfl, _, _, h0, h1⟩ := open_agg2 hs hone (by kernel_rfl) hv h
  rw [t0] at h0
  rw [t1] at h1
  obtain ⟨a, e0, _, wa⟩ := DataW.trod_string Tryz.underlying9 h0
  obtain ⟨b, e1, _, wb⟩ := DataW.trod_string Tryz.underlying9 h1
  simp at e0 e1
  subst e0 e1
  exact ⟨(a, b), rfl, wa, wb⟩
theorem open_rows {r : Reach} {b0 : Nat} {v : Value} {d : DataW H} {p : List MemPlace} (hv : Value.okWide Tryz.prog W r b0 22 v) (h : DataW.Trod enc Tryz.prog W base (fun _ => true) held 22 v d p) :
    ∃ l : List Rw, RwAt W v l ∧ ∀ s ∈ l, WfR s := by
  obtain ⟨a, len, cap, rfl⟩ := okWide_slice Tryz.underlying22 hv
  obtain ⟨fuel, hf⟩ := h
  obtain ⟨f0, f1, hs, o0, o1, t0, t1, hone⟩ := rw_fields
  rcases open_slice_pairs Tryz.underlying22 hs (by kernel_rfl) o0 o1 (by rw [t0]; kernel_rfl) (by rw [t1]; kernel_rfl) hf with ⟨hcs, _⟩ | ⟨x, l, c, m, n, V0, V1, D0, D1, P0, P1, hcs, _, hl, hm, hmm, _, hcell⟩
  · simp [Value.cells] at hcs
    obtain ⟨rfl, rfl, rfl⟩ := hcs
    exact ⟨[], .inl ⟨rfl, rfl⟩, by simp⟩
  · simp [Value.cells] at hcs
    obtain ⟨rfl, rfl, rfl⟩ := hcs
    rw [t0, t1] at hcell
    have hex : ∀ i, i < len → ∃ s : Rw, W.cell? (x.add (i * 2)) = some (.string s.1) ∧ W.cell? (x.add (i * 2 + 1)) = some (.string s.2) ∧ WfR s := by
      intro i hi
      obtain ⟨h0, h1, h2, h3⟩ := hcell i (by simp only [if_true] at hmm; omega)
      obtain ⟨a, e0, _, wa⟩ := DataW.trod_string Tryz.underlying9 h2
      obtain ⟨b, e1, _, wb⟩ := DataW.trod_string Tryz.underlying9 h3
      simp at e0 e1
      rw [e0] at h0
      rw [e1] at h1
      exact ⟨(a, b), h0, h1, wa, wb⟩
    obtain ⟨q, hq⟩ := choose_lt hex
    refine ⟨(List.range len).map q, .inr ⟨x, cap, by simp, by simpa using hl, hm, fun i hi => ?_⟩, fun s hs => ?_⟩
    · simp at hi
      simp only [List.getElem_map, List.getElem_range]
      exact ⟨(hq i hi).1, (hq i hi).2.1⟩
    · simp at hs
      obtain ⟨i, hi, rfl⟩ := hs
      exact (hq i hi).2.2
end
end Go.Proofs.YtcnliipkfccohabGreat
end
section
namespace Go.Proofs.YtcnliipkfccohabGreat
set_option maxRecDepth 100000
open Go.ChangeShapes Go.WideShapes Go.ChangeAt Go.RowKit Go.Deep Go.Joins
open SetM
set_option linter.unusedVariables false
inductive Rt where
  | mk (k : Int) (ch : ByteArray) (nt : Bool) (rv : Value) (rows : List Rw) (mi ma : Int) (lz : Bool) (kv : Value) (kids : List Rt)
instance : Inhabited Rt := ⟨.mk 0 ⟨#[]⟩ false (.slice none 0 0) [] 0 0 false (.slice none 0 0) []⟩
def Rt.k : Rt → Int | .mk k _ _ _ _ _ _ _ _ _ => k
def Rt.ch : Rt → ByteArray | .mk _ c _ _ _ _ _ _ _ _ => c
def Rt.nt : Rt → Bool | .mk _ _ n _ _ _ _ _ _ _ => n
def Rt.rv : Rt → Value | .mk _ _ _ v _ _ _ _ _ _ => v
def Rt.rows : Rt → List Rw | .mk _ _ _ _ r _ _ _ _ _ => r
def Rt.mi : Rt → Int | .mk _ _ _ _ _ m _ _ _ _ => m
def Rt.ma : Rt → Int | .mk _ _ _ _ _ _ m _ _ _ => m
def Rt.lz : Rt → Bool | .mk _ _ _ _ _ _ _ z _ _ => z
def Rt.kv : Rt → Value | .mk _ _ _ _ _ _ _ _ v _ => v
def Rt.kids : Rt → List Rt | .mk _ _ _ _ _ _ _ _ _ l => l
def Rt.cs (t : Rt) : List Value := [.int .i64 t.k, .string t.ch, .bool t.nt, t.rv, .int .i64 t.mi, .int .i64 t.ma, .bool t.lz, t.kv]
def Rt.v (t : Rt) : Value := .agg t.cs.toArray
def KsAt (w : World) (v : Value) (l : List Rt) : Prop :=
  (v = .slice none 0 0 ∧ l = []) ∨ ∃ x c, v = .slice (some x) l.length c ∧ l.length ≤ c ∧ c ≤ maxLen ∧ ∀ i (h : i < l.length) j u, (l[i].cs)[j]? = some u → w.cell? (x.add (i * 8 + j)) = some u
inductive RxAt (w : World) : Rt → Prop
  | mk (t : Rt) (hr : RwAt w t.rv t.rows) (hk : KsAt w t.kv t.kids) (hs : ∀ i (h : i < t.kids.length), RxAt w t.kids[i]) : RxAt w t
theorem RxAt.rows {w : World} {t : Rt} (h : RxAt w t) : RwAt w t.rv t.rows := by cases h; assumption
theorem RxAt.ks {w : World} {t : Rt} (h : RxAt w t) : KsAt w t.kv t.kids := by cases h; assumption
theorem RxAt.kid {w : World} {t : Rt} (h : RxAt w t) (i : Nat) (hi : i < t.kids.length) : RxAt w t.kids[i] := by cases h with | mk _ _ _ hs => exact hs i hi
theorem ksat_below {w w' : World} {v : Value} {l : List Rt} (h : KsAt w v l) (hb : Below w.heap.size w w') : KsAt w' v l := by
  rcases h with h | ⟨x, c, rfl, h1, h2, h3⟩
  · exact .inl h
  · exact .inr ⟨x, c, rfl, h1, h2, fun i hi j u hu => cell_later hb (h3 i hi j u hu)⟩
theorem rx_below {w w' : World} {t : Rt} (h : RxAt w t) (hb : Below w.heap.size w w') : RxAt w' t := by
  induction h with
  | mk t hr hk hs ih => exact .mk t (rwat_below hr hb) (ksat_below hk hb) ih
theorem ksat_len {w : World} {v : Value} {l : List Rt} (h : KsAt w v l) : ∃ a c, v = .slice a l.length c := by
  rcases h with ⟨rfl, rfl⟩ | ⟨x, c, rfl, _⟩
  · exact ⟨none, 0, rfl⟩
  · exact ⟨some x, c, rfl⟩
theorem ksat_some {w : World} {v : Value} {l : List Rt} (h : KsAt w v l) (hp : 0 < l.length) :
    ∃ b off c, v = .slice (some ⟨b, off, none⟩) l.length c ∧ l.length ≤ c ∧ c ≤ maxLen ∧ b < w.heap.size ∧ ∀ i (h : i < l.length) j u, (l[i].cs)[j]? = some u → w.cell? ⟨b, off + i * 8 + j, none⟩ = some u := by
  rcases h with ⟨rfl, rfl⟩ | ⟨x, c, rfl, h1, h2, h3⟩
  · simp at hp
  · obtain ⟨b, off, spot⟩ := x
    have hc := h3 0 hp 0 _ rfl
    have hspot : spot = none := by simpa [Addr.add] using World.cell?_spot hc
    subst hspot
    refine ⟨b, off, c, rfl, h1, h2, ?_, fun i hi j u hu => ?_⟩
    · have := World.block_lt_of_cell? w _ hc
      rw [addr_add] at this
      exact this
    · have := h3 i hi j u hu
      rw [addr_add] at this
      rw [Nat.add_assoc]; exact this
theorem ksat_8 {w : World} {v : Value} {l : List Rt} (h : KsAt w v l) (hp : 0 < l.length) :
    ∃ b off c, v = .slice (some ⟨b, off, none⟩) l.length c ∧ l.length ≤ c ∧ c ≤ maxLen ∧ b < w.heap.size ∧ ∀ i (h : i < l.length), w.cell? ⟨b, off + i * 8, none⟩ = some (.int .i64 l[i].k) ∧ w.cell? ⟨b, off + i * 8 + 1, none⟩ = some (.string l[i].ch) ∧ w.cell? ⟨b, off + i * 8 + 2, none⟩ = some (.bool l[i].nt) ∧ w.cell? ⟨b, off + i * 8 + 3, none⟩ = some l[i].rv ∧ w.cell? ⟨b, off + i * 8 + 4, none⟩ = some (.int .i64 l[i].mi) ∧ w.cell? ⟨b, off + i * 8 + 5, none⟩ = some (.int .i64 l[i].ma) ∧ w.cell? ⟨b, off + i * 8 + 6, none⟩ = some (.bool l[i].lz) ∧ w.cell? ⟨b, off + i * 8 + 7, none⟩ = some l[i].kv := by
  obtain ⟨b, off, c, h1, h2, h3, h4, h5⟩ := ksat_some h hp
  exact ⟨b, off, c, h1, h2, h3, h4, fun i hi => ⟨h5 i hi 0 _ rfl, h5 i hi 1 _ rfl, h5 i hi 2 _ rfl, h5 i hi 3 _ rfl, h5 i hi 4 _ rfl, h5 i hi 5 _ rfl, h5 i hi 6 _ rfl, h5 i hi 7 _ rfl⟩⟩
inductive WfX : Rt → Prop
  | mk (t : Rt) (h1 : (Lit.int .i64 t.k).wf = true) (h2 : t.ch.size ≤ maxLen) (h3 : ∀ s ∈ t.rows, WfR s) (h4 : (Lit.int .i64 t.mi).wf = true) (h5 : (Lit.int .i64 t.ma).wf = true) (hs : ∀ x ∈ t.kids, WfX x) : WfX t
section
variable {H : Type} {enc : TypeId × Value → H} {W : World} {base : Nat} {held : Bool}
theorem open_rows_cells {fuel : Nat} {v : Value} {x : DataW H × List MemPlace} (hf : DataW.trod enc Tryz.prog W base (fun _ => true) held fuel 22 [v] = some x) : ∃ l : List Rw, RwAt W v l ∧ ∀ s ∈ l, WfR s := by
  obtain ⟨f0, f1, hs, o0, o1, t0, t1, hone⟩ := rw_fields
  rcases open_slice_pairs Tryz.underlying22 hs (by kernel_rfl) o0 o1 (by rw [t0]; kernel_rfl) (by rw [t1]; kernel_rfl) hf with ⟨hcs, _⟩ | ⟨x, l, c, m, n, V0, V1, D0, D1, P0, P1, hcs, _, hl, hm, hmm, _, hcell⟩
  · injection hcs with hcs
    exact ⟨[], .inl ⟨hcs, rfl⟩, by simp⟩
  · injection hcs with hcs
    subst hcs
    rw [t0, t1] at hcell
    have hex : ∀ i, i < l → ∃ s : Rw, W.cell? (x.add (i * 2)) = some (.string s.1) ∧ W.cell? (x.add (i * 2 + 1)) = some (.string s.2) ∧ WfR s := by
      intro i hi
      obtain ⟨h0, h1, h2, h3⟩ := hcell i (by simp only [if_true] at hmm; omega)
      obtain ⟨a, e0, _, wa⟩ := DataW.trod_string Tryz.underlying9 h2
      obtain ⟨b, e1, _, wb⟩ := DataW.trod_string Tryz.underlying9 h3
      simp at e0 e1
      rw [e0] at h0
      rw [e1] at h1
      exact ⟨(a, b), h0, h1, wa, wb⟩
    obtain ⟨q, hq⟩ := choose_lt hex
    refine ⟨(List.range l).map q, .inr ⟨x, c, by simp, by simpa using hl, hm, fun i hi => ?_⟩, fun s hs => ?_⟩
    · simp at hi
      simp only [List.getElem_map, List.getElem_range]
      exact ⟨(hq i hi).1, (hq i hi).2.1⟩
    · simp at hs
      obtain ⟨i, hi, rfl⟩ := hs
      exact (hq i hi).2.2
set_option maxRecDepth 100000 in
theorem open_cells : ∀ (fuel : Nat) (cs : List Value) (x : DataW H × List MemPlace), DataW.trod enc Tryz.prog W base (fun _ => true) held fuel 25 cs = some x → ∃ t : Rt, t.cs = cs ∧ RxAt W t ∧ WfX t := by
  intro fuel
  induction fuel using Nat.strongRecOn with
  | _ fuel ih =>
    intro cs x h
    obtain ⟨xs, n, hf, _, hlen, hxl, hg⟩ := DataW.trod_struct Tryz.underlying25 h
    have hC : Tryz.prog.cellsOf 25 = 8 := by kernel_rfl
    have hC1 : Tryz.prog.cellsOf 3 = 1 := by kernel_rfl
    have hCs : Tryz.prog.cellsOf 9 = 1 := by kernel_rfl
    have hCb : Tryz.prog.cellsOf 4 = 1 := by kernel_rfl
    have hCr : Tryz.prog.cellsOf 22 = 1 := by kernel_rfl
    have hCk : Tryz.prog.cellsOf 23 = 1 := by kernel_rfl
    rw [hC] at hlen
    match cs, hlen, xs, hxl with
    | [v0, v1, v2, v3, v4, v5, v6, v7], _, [y0, y1, y2, y3, y4, y5, y6, y7], _ =>
      have g0 : DataW.trod enc Tryz.prog W base (fun _ => true) held n 3 (([v0, v1, v2, v3, v4, v5, v6, v7].drop 0).take (Tryz.prog.cellsOf 3)) = some y0 := hg 0 _ rfl
      have g1 : DataW.trod enc Tryz.prog W base (fun _ => true) held n 9 (([v0, v1, v2, v3, v4, v5, v6, v7].drop 1).take (Tryz.prog.cellsOf 9)) = some y1 := hg 1 _ rfl
      have g2 : DataW.trod enc Tryz.prog W base (fun _ => true) held n 4 (([v0, v1, v2, v3, v4, v5, v6, v7].drop 2).take (Tryz.prog.cellsOf 4)) = some y2 := hg 2 _ rfl
      have g3 : DataW.trod enc Tryz.prog W base (fun _ => true) held n 22 (([v0, v1, v2, v3, v4, v5, v6, v7].drop 3).take (Tryz.prog.cellsOf 22)) = some y3 := hg 3 _ rfl
      have g4 : DataW.trod enc Tryz.prog W base (fun _ => true) held n 3 (([v0, v1, v2, v3, v4, v5, v6, v7].drop 4).take (Tryz.prog.cellsOf 3)) = some y4 := hg 4 _ rfl
      have g5 : DataW.trod enc Tryz.prog W base (fun _ => true) held n 3 (([v0, v1, v2, v3, v4, v5, v6, v7].drop 5).take (Tryz.prog.cellsOf 3)) = some y5 := hg 5 _ rfl
      have g6 : DataW.trod enc Tryz.prog W base (fun _ => true) held n 4 (([v0, v1, v2, v3, v4, v5, v6, v7].drop 6).take (Tryz.prog.cellsOf 4)) = some y6 := hg 6 _ rfl
      have g7 : DataW.trod enc Tryz.prog W base (fun _ => true) held n 23 (([v0, v1, v2, v3, v4, v5, v6, v7].drop 7).take (Tryz.prog.cellsOf 23)) = some y7 := hg 7 _ rfl
      rw [hC1] at g0 g4 g5
      rw [hCs] at g1
      rw [hCb] at g2 g6
      rw [hCr] at g3
      rw [hCk] at g7
      obtain ⟨a0, q0, _, u0⟩ := DataW.trod_int Tryz.underlying3 g0
      obtain ⟨a1, q1, _, u1⟩ := DataW.trod_string Tryz.underlying9 g1
      obtain ⟨a2, q2, _⟩ := DataW.trod_bool Tryz.underlying4 g2
      obtain ⟨a4, q4, _, u4⟩ := DataW.trod_int Tryz.underlying3 g4
      obtain ⟨a5, q5, _, u5⟩ := DataW.trod_int Tryz.underlying3 g5
      obtain ⟨a6, q6, _⟩ := DataW.trod_bool Tryz.underlying4 g6
      simp at q0 q1 q2 q4 q5 q6
      subst q0 q1 q2 q4 q5 q6
      replace g3 : DataW.trod enc Tryz.prog W base (fun _ => true) held n 22 [v3] = some y3 := g3
      replace g7 : DataW.trod enc Tryz.prog W base (fun _ => true) held n 23 [v7] = some y7 := g7
      obtain ⟨rows, hr, hwr⟩ := open_rows_cells g3
      have hkids : ∃ l : List Rt, KsAt W v7 l ∧ (∀ i (h : i < l.length), RxAt W l[i]) ∧ ∀ x ∈ l, WfX x := by
        rcases DataW.trod_slice Tryz.underlying23 g7 with ⟨hcs, _⟩ | ⟨a, len, cap, elems, rest, m, hn, hcs, _, _, hl, hm, hel, hx, _⟩
        · injection hcs with hcs
          exact ⟨[], .inl ⟨hcs, rfl⟩, fun i hi => by simp at hi, fun x hx => by cases hx⟩
        · injection hcs with hcs
          have hex : ∀ i, i < len → ∃ t : Rt, (∀ j u, t.cs[j]? = some u → W.cell? (a.add (i * 8 + j)) = some u) ∧ RxAt W t ∧ WfX t := by
            intro i hi
            have hxi := hx i hi
            rw [hC, List.getElem?_eq_getElem (by omega)] at hxi
            obtain ⟨cs', h1, h2⟩ := Option.bind_eq_some_iff.1 hxi
            obtain ⟨t, ht, ha, hw⟩ := ih m (by omega) cs' _ h2
            refine ⟨t, fun j u hu => ?_, ha, hw⟩
            rw [ht] at hu
            obtain ⟨_, hlen, hcell⟩ := World.cells?_some h1
            have hj : j < cs'.length := (List.getElem?_eq_some_iff.1 hu).1
            have := hcell j (by omega)
            rw [add_add] at this
            rw [← hu]
            exact this
          obtain ⟨q, hq⟩ := choose_lt hex
          refine ⟨(List.range len).map q, .inr ⟨a, cap, by rw [hcs]; simp, by simpa using hl, hm, fun i hi j u hu => ?_⟩, fun i hi => ?_, fun x hx => ?_⟩
          · simp at hi
            simp only [List.getElem_map, List.getElem_range] at hu
            exact (hq i hi).1 j u hu
          · simp at hi
            simp only [List.getElem_map, List.getElem_range]
            exact (hq i hi).2.1
          · simp at hx
            obtain ⟨i, hi, rfl⟩ := hx
            exact (hq i hi).2.2
      obtain ⟨l, hk, hs, hws⟩ := hkids
      exact ⟨.mk a0 a1 a2 v3 rows a4 a5 a6 v7 l, rfl, .mk _ hr hk hs, .mk _ u0 u1 hwr u4 u5 hws⟩
end
end Go.Proofs.YtcnliipkfccohabGreat
end
section
namespace Go.Proofs.YtcnliipkfccohabGreat
set_option maxRecDepth 100000
open Go.ChangeShapes Go.WideShapes Go.ChangeAt Go.RowKit Go.Deep Go.Joins
open SetM
section
variable {H : Type} {enc : TypeId × Value → H} {W : World} {base : Nat} {held : Bool}
set_option maxRecDepth 100000 in
theorem open_rx {r : Reach} {b0 : Nat} {v : Value} {d : DataW H} {p : List MemPlace} (hv : Value.okWide Tryz.prog W r b0 25 v) (h : DataW.Trod enc Tryz.prog W base (fun _ => true) held 25 v d p) :
    ∃ t : Rt, v = t.v ∧ RxAt W t ∧ WfX t := by
  obtain ⟨cs, rfl, hsz⟩ := okWide_struct Tryz.underlying25 hv
  obtain ⟨fuel, hf⟩ := h
  obtain ⟨t, ht, ha, hw⟩ := open_cells fuel _ _ hf
  refine ⟨t, ?_, ha, hw⟩
  unfold Rt.v
  rw [ht]
  simp [Value.cells]
set_option maxRecDepth 100000 in
theorem open_rxs {r : Reach} {b0 : Nat} {v : Value} {d : DataW H} {p : List MemPlace} (hv : Value.okWide Tryz.prog W r b0 23 v) (h : DataW.Trod enc Tryz.prog W base (fun _ => true) held 23 v d p) :
    ∃ l : List Rt, KsAt W v l ∧ (∀ i (h : i < l.length), RxAt W l[i]) ∧ ∀ x ∈ l, WfX x := by
  obtain ⟨a, len, cap, rfl⟩ := okWide_slice Tryz.underlying23 hv
  obtain ⟨fuel, hf⟩ := h
  have hC : Tryz.prog.cellsOf 25 = 8 := by kernel_rfl
  rcases DataW.trod_slice Tryz.underlying23 hf with ⟨hcs, _⟩ | ⟨x, l, c, elems, rest, m, hn, hcs, _, _, hl, hm, hel, hx, _⟩
  · simp [Value.cells] at hcs
    obtain ⟨rfl, rfl, rfl⟩ := hcs
    exact ⟨[], .inl ⟨rfl, rfl⟩, fun i hi => by simp at hi, fun x hx => by cases hx⟩
  · simp [Value.cells] at hcs
    obtain ⟨rfl, rfl, rfl⟩ := hcs
    have hex : ∀ i, i < len → ∃ t : Rt, (∀ j u, t.cs[j]? = some u → W.cell? (x.add (i * 8 + j)) = some u) ∧ RxAt W t ∧ WfX t := by
      intro i hi
      have hxi := hx i hi
      rw [hC, List.getElem?_eq_getElem (by omega)] at hxi
      obtain ⟨cs', h1, h2⟩ := Option.bind_eq_some_iff.1 hxi
      obtain ⟨t, ht, ha, hw⟩ := open_cells m cs' _ h2
      refine ⟨t, fun j u hu => ?_, ha, hw⟩
      rw [ht] at hu
      obtain ⟨_, hlen, hcell⟩ := World.cells?_some h1
      have hj : j < cs'.length := (List.getElem?_eq_some_iff.1 hu).1
      have := hcell j (by omega)
      rw [add_add] at this
      rw [← hu]
      exact this
    obtain ⟨q, hq⟩ := choose_lt hex
    refine ⟨(List.range len).map q, .inr ⟨x, cap, by simp, by simpa using hl, hm, fun i hi j u hu => ?_⟩, fun i hi => ?_, fun x hx => ?_⟩
    · simp at hi
      simp only [List.getElem_map, List.getElem_range] at hu
      exact (hq i hi).1 j u hu
    · simp at hi
      simp only [List.getElem_map, List.getElem_range]
      exact (hq i hi).2.1
    · simp at hx
      obtain ⟨i, hi, rfl⟩ := hx
      exact (hq i hi).2.2
end
end Go.Proofs.YtcnliipkfccohabGreat
end
section
namespace Go.Proofs.YtcnliipkfccohabGreat
open Go.ChangeShapes Go.WideShapes Go.ChangeAt Go.RowKit
def contB (c : UInt8) : Bool := decide (128 ≤ c.toNat ∧ c.toNat ≤ 191)
def chGo : List UInt8 → List UInt8 → List (List UInt8)
  | [], acc => [acc]
  | c :: r, acc => if contB c = true then chGo r (acc ++ [c]) else acc :: chGo r [c]
def splitL : List UInt8 → List (List UInt8)
  | [] => []
  | c :: r => chGo r [c]
def firstN : List UInt8 → Nat
  | [] => 0
  | _ :: r => 1 + (r.takeWhile contB).length
theorem chGo_eq (r acc : List UInt8) : chGo r acc = (acc ++ r.takeWhile contB) :: splitL (r.drop (r.takeWhile contB).length) := by
  induction r generalizing acc with
  | nil => simp [chGo, splitL]
  | cons c t ih =>
    rw [chGo]
    cases hc : contB c
    · rw [if_neg (by simp), List.takeWhile_cons, hc]; simp [splitL]
    · rw [if_pos rfl, ih, List.takeWhile_cons, hc]; simp
theorem splitL_eq (l : List UInt8) (h : 0 < l.length) : splitL l = l.take (firstN l) :: splitL (l.drop (firstN l)) := by
  cases l with
  | nil => simp at h
  | cons c r =>
    rw [splitL, chGo_eq, firstN, Nat.add_comm 1, List.take_succ_cons, List.drop_succ_cons]
    congr 1
    rw [List.singleton_append]
    congr 1
    exact List.prefix_iff_eq_take.1 (List.takeWhile_prefix contB)
theorem firstN_le (l : List UInt8) : firstN l ≤ l.length := by
  cases l with
  | nil => exact Nat.le_refl _
  | cons c r => rw [firstN, List.length_cons]; have := (List.takeWhile_prefix contB (l := r)).length_le; omega
theorem firstN_pos (l : List UInt8) (h : 0 < l.length) : 1 ≤ firstN l := by
  cases l with
  | nil => simp at h
  | cons c r => rw [firstN]; omega
theorem ne_bytes (s : ByteArray) (h : 0 < s.size) : s.toList.isEmpty = false := by
  rw [Go.ByteArray.toList_eq]
  have : s.data.toList.length = s.size := by simp
  cases hl : s.data.toList with
  | nil => rw [hl] at this; simp at this; omega
  | cons a r => rfl
theorem e_bytes (s : ByteArray) (h : s.size = 0) : s.toList.isEmpty = true := by
  rw [Go.ByteArray.toList_eq]
  have : s.data.toList.length = s.size := by simp
  cases hl : s.data.toList with
  | nil => rfl
  | cons a r => rw [hl] at this; simp at this; omega
theorem ext_data (s : ByteArray) (a b : Nat) : (s.extract a b).data.toList = (s.data.toList.take b).drop a := by
  rw [ByteArray.data_extract]
  simp only [Array.toList_extract, List.extract_eq_take_drop]
  rw [List.drop_take]
set_option maxRecDepth 100000 in
set_option maxHeartbeats 1000000 in
theorem cont_any (c : UInt8) (w : World) : Calls Tryz.prog 10 #[.int .u8 (c.toNat : Int)] w fun e w' => e = .returned (.bool (contB c)) ∧ w = w' := by
  have hc : (c.toNat : Int) < 256 := by have := c.toNat_lt; omega
  have HW : Hid (contB c = decide (128 ≤ c.toNat ∧ c.toNat ≤ 191)) := hide rfl
  generalize contB c = b at *
  generalize c.toNat = n at *
  go_enter Tryz.func10, Tryz.ntmps10
  go_wp2
  all_goals
    go_ret
    exact ⟨ret_bool (by rw [HW.out, Bool.eq_iff_iff]; first | (simp; done) | (simp; omega) | omega), rfl⟩
theorem tw_at (r : List UInt8) (j : Nat) (h : j < r.length) (hp : j ≤ (r.takeWhile contB).length) (hc : contB r[j] = true) : j + 1 ≤ (r.takeWhile contB).length := by
  induction r generalizing j with
  | nil => simp at h
  | cons c t ih =>
    rw [List.takeWhile_cons] at hp ⊢
    cases hcc : contB c
    · rw [hcc] at hp
      have : j = 0 := by simpa using hp
      subst this
      rw [List.getElem_cons_zero, hcc] at hc; cases hc
    · rw [hcc] at hp
      simp only [if_true, List.length_cons] at hp ⊢
      cases j with
      | zero => omega
      | succ j => simp at h hc; have := ih j h (by omega) hc; omega
theorem tw_end (r : List UInt8) (j : Nat) (h : j < r.length) (hp : j ≤ (r.takeWhile contB).length) (hc : contB r[j] = false) : j = (r.takeWhile contB).length := by
  induction r generalizing j with
  | nil => simp at h
  | cons c t ih =>
    rw [List.takeWhile_cons] at hp ⊢
    cases hcc : contB c
    · rw [hcc] at hp
      simpa using hp
    · rw [hcc] at hp
      simp only [if_true, List.length_cons] at hp ⊢
      cases j with
      | zero => rw [List.getElem_cons_zero, hcc] at hc; cases hc
      | succ j => simp at h hc; have := ih j h (by omega) hc; omega
theorem fn_step (l : List UInt8) (k : Nat) (h1 : 1 ≤ k) (h : k < l.length) (hp : k ≤ firstN l) (hc : contB l[k] = true) : k + 1 ≤ firstN l := by
  cases l with
  | nil => simp at h
  | cons c r =>
    obtain ⟨j, rfl⟩ : ∃ j, k = j + 1 := ⟨k - 1, by omega⟩
    rw [firstN] at hp ⊢
    simp at h hc
    have := tw_at r j h (by omega) hc
    omega
theorem fn_end (l : List UInt8) (k : Nat) (h1 : 1 ≤ k) (h : k < l.length) (hp : k ≤ firstN l) (hc : contB l[k] = false) : firstN l = k := by
  cases l with
  | nil => simp at h
  | cons c r =>
    obtain ⟨j, rfl⟩ : ∃ j, k = j + 1 := ⟨k - 1, by omega⟩
    rw [firstN] at hp ⊢
    simp at h hc
    have := tw_end r j h (by omega) hc
    omega
set_option maxRecDepth 100000 in
set_option maxHeartbeats 2000000 in
theorem first_any (s : ByteArray) (w : World) (hs : s.size ≤ 1000000) :
    Calls Tryz.prog 64 #[.string s] w fun e w' => e = .returned (.string (s.extract 0 (firstN s.data.toList))) ∧ w = w' := by
  by_cases h0 : 0 < s.size
  · have hne := ne_bytes s h0
    obtain ⟨m, hm⟩ : ∃ m, firstN s.data.toList = m := ⟨_, rfl⟩
    have HM := hide hm
    have hm1 : 1 ≤ m := by rw [← hm]; exact firstN_pos _ (by rw [len_data]; exact h0)
    have hm2 : m ≤ s.size := by rw [← hm, ← len_data]; exact firstN_le _
    rw [hm]
    clear hm
    go_enter Tryz.func64, Tryz.ntmps64
    go_wp2
    go_loopw [3] (fun i wr => ∃ k : Nat, i = .int .i64 k ∧ 1 ≤ k ∧ k ≤ m ∧ w = wr)
      (fun i _ => s.size - (intOf i).toNat)
    case atStart => exact ⟨1, rfl, Nat.le_refl _, hm1, rfl⟩
    case round =>
      obtain ⟨k, rfl, hk1, hkm, rfl⟩ := hrel
      by_cases hlt : k < s.size
      · have hkl : k < s.data.toList.length := by simpa using hlt
        have hsk : s.data.toList[k] = s[k] := rfl
        cases hc : contB s[k]
        · have hmk : m = k := by rw [← HM.out]; exact fn_end _ k hk1 hkl (by rw [HM.out]; exact hkm) (by rw [hsk]; exact hc)
          have HC := hide hc
          clear hc hsk HM
          subst hmk
          go_wp2_with (go_at_call 10; refine (cont_any s[m] _).mono ?_; rintro e w1 ⟨rfl, rfl⟩; rw [HC.out])
          go_ret
          exact ⟨rfl, rfl⟩
        · have hmk : k + 1 ≤ m := by rw [← HM.out]; exact fn_step _ k hk1 hkl (by rw [HM.out]; exact hkm) (by rw [hsk]; exact hc)
          have HC := hide hc
          clear hc hsk
          go_wp2_with (go_at_call 10; refine (cont_any s[k] _).mono ?_; rintro e w1 ⟨rfl, rfl⟩; rw [HC.out])
          refine ⟨?_, by first | (simp [intOf]; done) | (simp [intOf]; omega)⟩
          first
            | exact ⟨k + 1, by go_num, by omega, hmk, by first | rfl | trivial⟩
            | ((repeat apply Exists.intro); exact ⟨⟨k + 1, by go_num, by omega, hmk, by first | rfl | trivial⟩, rfl⟩)
      · obtain rfl : m = k := by omega
        go_wp2
        go_ret
        exact ⟨rfl, rfl⟩
  · have hne := e_bytes s (by omega)
    have hl : s.data.toList = [] := List.eq_nil_of_length_eq_zero (by rw [len_data]; omega)
    have he : s.extract 0 (firstN s.data.toList) = ⟨#[]⟩ := by
      apply ByteArray.ext; apply Array.ext'
      rw [ext_data, hl]; rfl
    rw [he]
    clear he hl
    go_enter Tryz.func64, Tryz.ntmps64
    go_wp2
    go_ret
    exact ⟨rfl, rfl⟩
theorem firste_any (s X : ByteArray) (w : World) (hs : s.size ≤ 1000000) (hX : s.extract 0 (firstN s.data.toList) = X) :
    Calls Tryz.prog 64 #[.string s] w fun e w' => e = .returned (.string X) ∧ w = w' := by
  rw [← hX]; exact first_any s w hs
theorem fold_any (s : ByteArray) (w : World) (hs : s.size ≤ 1000000) :
    Calls Tryz.prog 88 #[.string s] w fun e w' => e = .returned (.string (mapS downB s)) ∧ Below w.heap.size w w' := by
  go_enter Tryz.func88, Tryz.ntmps88
  go_wp2_with fail
  refine (each_down s _ hs).mono ?_
  rintro e w1 ⟨rfl, hb⟩
  go_wp2
  go_ret
  exact ⟨rfl, hb⟩
theorem info_str : (Tryz.prog.info? 9).map (fun i => (i.zero, i.size, i.bytes)) = some (some (.string ⟨#[]⟩), 1, 16) := by kernel_rfl
theorem contc_any (c : UInt8) (n : Int) (b : Bool) (w : World) (hn : (c.toNat : Int) = n) (hb : contB c = b) : Calls Tryz.prog 10 #[.int .u8 n] w fun e w' => e = .returned (.bool b) ∧ w = w' := by
  rw [← hn, ← hb]; exact cont_any c w
theorem folde_any (s X : ByteArray) (w : World) (hs : s.size ≤ 1000000) (hX : mapS downB s = X) :
    Calls Tryz.prog 88 #[.string s] w fun e w' => e = .returned (.string X) ∧ Below w.heap.size w w' := by
  rw [← hX]; exact fold_any s w hs
set_option maxRecDepth 100000 in
set_option maxHeartbeats 1000000 in
theorem lead_any (c : UInt8) (w : World) : Calls Tryz.prog 39 #[.int .u8 (c.toNat : Int)] w fun e w' => e = .returned (.bool (!contB c)) ∧ w = w' := by
  have hc : (c.toNat : Int) < 256 := by have := c.toNat_lt; omega
  have HW : Hid (contB c = decide (128 ≤ c.toNat ∧ c.toNat ≤ 191)) := hide rfl
  generalize contB c = b at *
  generalize c.toNat = n at *
  go_enter Tryz.func39, Tryz.ntmps39
  go_wp2
  all_goals
    go_ret
    exact ⟨ret_bool (by rw [HW.out, Bool.eq_iff_iff]; first | (simp; done) | (simp; omega) | omega), rfl⟩
theorem leade_any (c : UInt8) (n : Int) (b : Bool) (w : World) (hn : (c.toNat : Int) = n) (hb : contB c = b) : Calls Tryz.prog 39 #[.int .u8 n] w fun e w' => e = .returned (.bool (!b)) ∧ w = w' := by
  rw [← hn, ← hb]; exact lead_any c w
structure SIn (l : List UInt8) (n k a : Nat) (ws : List (List UInt8)) : Prop where
  said : splitL l = ws ++ splitL (l.drop a)
  here : k ≤ n → a < k ∧ k - a ≤ firstN (l.drop a)
  gone : k = n + 1 → a = n
theorem sin_start (l : List UInt8) : SIn l l.length 1 0 [] :=
  ⟨rfl, fun h => ⟨by omega, by rw [List.drop_zero]; exact firstN_pos l (by omega)⟩, fun h => by omega⟩
theorem sin_cont {l : List UInt8} {k a : Nat} {ws : List (List UInt8)} (h : SIn l l.length k a ws) (hk : k < l.length) (hc : contB l[k] = true) : SIn l l.length (k + 1) a ws := by
  obtain ⟨h1, h2⟩ := h.here (by omega)
  have h3 := fn_step (l.drop a) (k - a) (by omega) (by rw [List.length_drop]; omega) h2 (by rw [List.getElem_drop]; simpa [show a + (k - a) = k by omega] using hc)
  exact ⟨h.said, fun _ => ⟨by omega, by omega⟩, fun e => by omega⟩
theorem sin_cut {l : List UInt8} {k a : Nat} {ws : List (List UInt8)} (h : SIn l l.length k a ws) (hk : k ≤ l.length) (h1 : a < k) (hf : firstN (l.drop a) = k - a) : SIn l l.length (k + 1) k (ws ++ [(l.take k).drop a]) := by
  have hs := splitL_eq (l.drop a) (by rw [List.length_drop]; omega)
  rw [hf, List.drop_drop, show a + (k - a) = k by omega] at hs
  refine ⟨?_, fun h2 => ⟨by omega, ?_⟩, fun e => by omega⟩
  · rw [h.said, hs, List.drop_take]; simp
  · have : k + 1 - k = 1 := by omega
    rw [this]
    exact firstN_pos _ (by rw [List.length_drop]; omega)
theorem sin_lead {l : List UInt8} {k a : Nat} {ws : List (List UInt8)} (h : SIn l l.length k a ws) (hk : k < l.length) (hc : contB l[k] = false) : SIn l l.length (k + 1) k (ws ++ [(l.take k).drop a]) := by
  obtain ⟨h1, h2⟩ := h.here (by omega)
  have h3 := fn_end (l.drop a) (k - a) (by omega) (by rw [List.length_drop]; omega) h2 (by rw [List.getElem_drop]; simpa [show a + (k - a) = k by omega] using hc)
  exact sin_cut h (by omega) h1 h3
theorem sin_last {l : List UInt8} {a : Nat} {ws : List (List UInt8)} (h : SIn l l.length l.length a ws) : SIn l l.length (l.length + 1) l.length (ws ++ [(l.take l.length).drop a]) := by
  obtain ⟨h1, h2⟩ := h.here (Nat.le_refl _)
  have h3 := firstN_le (l.drop a)
  rw [List.length_drop] at h3
  exact sin_cut h (Nat.le_refl _) h1 (by omega)
def SRel (s : ByteArray) (w : World) (v f i : Value) (wr : World) : Prop :=
  ∃ (k a : Nat) (zs : List ByteArray), i = .int .i64 k ∧ f = .int .i64 a ∧ k ≤ s.size + 1 ∧ 1 ≤ k ∧ a ≤ s.size ∧ (k ≤ s.size → a < k) ∧ zs.length ≤ k ∧ Hid (SIn s.data.toList s.data.toList.length k a (zs.map fun z => z.data.toList)) ∧ wr.ownsRow w.heap.size 9 1 v zs.length (zs.map .string) ∧ Below w.heap.size w wr
def SPost (s : ByteArray) (w : World) (e : Ending) (w' : World) : Prop := ∃ (v : Value) (zs : List ByteArray), e = .returned v ∧ Below w.heap.size w w' ∧ w'.ownsRow w.heap.size 9 1 v zs.length (zs.map .string) ∧ Hid (zs.map (fun z => z.data.toList) = splitL s.data.toList)
set_option maxRecDepth 100000 in
set_option maxHeartbeats 4000000 in
theorem rsplit_any (s : ByteArray) (w : World) (hs : s.size ≤ 100000) :
    Calls Tryz.prog 24 #[.string s] w (SPost s w) := by
  obtain ⟨i0, hi0, hz0', hz1, hz2⟩ := info_parts info_str
  go_enter Tryz.func24, Tryz.ntmps24
  go_wp2
  go_loopw [3, 4, 5] (fun v f i wr => SRel s w v f i wr) (fun _ _ i _ => s.size + 1 - (intOf i).toNat)
  case atStart => exact ⟨1, 0, [], rfl, rfl, by omega, Nat.le_refl _, Nat.zero_le _, fun _ => by omega, Nat.zero_le _, hide (sin_start _), ⟨rfl, .inl ⟨rfl, rfl⟩⟩, bl_refl w⟩
  case round =>
    obtain ⟨k, a, zs, rfl, rfl, hk, hk1, has, hak, hzl, HI, hv, hbl⟩ := hrel
    have hbw : w.heap.size ≤ wr.heap.size := hbl.size
    by_cases hle : k ≤ s.size
    · have ha := hak hle
      have FIN : SIn s.data.toList s.data.toList.length (k + 1) k ((zs.map fun z => z.data.toList) ++ [(s.data.toList.take k).drop a]) → ∀ (v' : Value) (W : World), W.ownsRow w.heap.size 9 1 v' (zs.length + 1) (zs.map .string ++ [.string (s.extract a k)]) → Below w.heap.size w W → SRel s w v' (.int .i64 k) (.int .i64 ((k : Int) + 1)) W := fun h v' W h1 h2 =>
        ⟨k + 1, k, zs ++ [s.extract a k], by go_num, rfl, by omega, by omega, hle, fun _ => by omega, by simp; omega, hide (by rw [List.map_append, List.map_singleton, ext_data]; exact h), by
          rw [List.map_append, List.length_append]; exact h1, h2⟩
      by_cases heq : k = s.size
      · have hx : SIn s.data.toList s.data.toList.length (k + 1) k ((zs.map fun z => z.data.toList) ++ [(s.data.toList.take k).drop a]) := by
          have e : k = s.data.toList.length := by rw [len_data]; exact heq
          have h := HI.out
          rw [e] at h ⊢
          exact sin_last h
        have FO := hide (FIN hx)
        clear FIN hx HI
        subst heq
        have hke : ((s.size : Int) == (s.size : Int)) = true := by simp
        go_wp2_with (first
          | (at_builtin; (refine wpList_push wr rfl _ _ 64 rfl w.heap.size 9 i0 (.string ⟨#[]⟩) 1 16 Tryz.underlying64 hi0 hz0' hz1 hz2 rfl (by decide) u3 zs.length (zs.map .string) rfl hv 1 #[.string (s.extract a s.size)] rfl rfl (by simp [Value.oneCell']) (by omega) (by decide) hbw ?_); intro v' w4 hv4 hg4 hat)
          | fail)
        have hbl4 : Below w.heap.size w w4 := bl_own hbl hv hg4 (Nat.le_refl _)
        refine ⟨?_, by first | (simp [intOf]; done) | (simp [intOf]; omega)⟩
        exact FO.out _ _ hv4 hbl4
      · have hlt : k < s.size := by omega
        have hkl : k < s.data.toList.length := by simpa using hlt
        have hsk : s.data.toList[k] = s[k] := rfl
        have hke : ((k : Int) == (s.size : Int)) = false := by simp; omega
        cases hc : contB s[k]
        · have FO := hide (FIN (sin_lead HI.out hkl hc))
          have HC := hide hc
          clear FIN HI hc hsk
          go_wp2_with (first
            | (go_at_call 39; refine (leade_any s[k] _ false _ rfl HC.out).mono ?_; rintro e w1 ⟨rfl, rfl⟩)
            | (at_builtin; (refine wpList_push wr rfl _ _ 64 rfl w.heap.size 9 i0 (.string ⟨#[]⟩) 1 16 Tryz.underlying64 hi0 hz0' hz1 hz2 rfl (by decide) u3 zs.length (zs.map .string) rfl hv 1 #[.string (s.extract a k)] rfl rfl (by simp [Value.oneCell']) (by omega) (by decide) hbw ?_); intro v' w4 hv4 hg4 hat)
            | fail)
          have hbl4 : Below w.heap.size w w4 := bl_own hbl hv hg4 (Nat.le_refl _)
          refine ⟨?_, by first | (simp [intOf]; done) | (simp [intOf]; omega)⟩
          exact FO.out _ _ hv4 hbl4
        · have FO : SRel s w u3 (.int .i64 a) (.int .i64 ((k : Int) + 1)) wr := ⟨k + 1, a, zs, by go_num, rfl, by omega, by omega, has, fun _ => by omega, by omega, hide (sin_cont HI.out hkl hc), hv, hbl⟩
          have HF := hide FO
          have HC := hide hc
          clear FIN HI hc FO hsk
          go_wp2_with (go_at_call 39; refine (leade_any s[k] _ true _ rfl HC.out).mono ?_; rintro e w1 ⟨rfl, rfl⟩)
          refine ⟨?_, by first | (simp [intOf]; done) | (simp [intOf]; omega)⟩
          exact HF.out
    · have hks : k = s.size + 1 := by omega
      have hsaid : zs.map (fun z => z.data.toList) = splitL s.data.toList := by
        have h1 := HI.out.gone (by rw [len_data]; exact hks)
        have h2 := HI.out.said
        rw [h1, List.drop_of_length_le (Nat.le_refl _)] at h2
        rw [h2]; simp [splitL]
      have HS := hide hsaid
      clear HI hsaid hak
      go_wp2
      go_ret
      exact ⟨_, zs, rfl, hbl, hv, HS⟩
def properB (l : List UInt8) : Bool := decide (∃ h : 0 < l.length, contB l[0] = false ∧ firstN l = l.length)
theorem proper_nil : properB [] = false := by simp [properB]
theorem proper_cont (l : List UInt8) (h : 0 < l.length) (hc : contB l[0] = true) : properB l = false := by simp [properB, hc]
theorem proper_yes (l : List UInt8) (h : 0 < l.length) (hc : contB l[0] = false) (hf : firstN l = l.length) : properB l = true := by simp only [properB, decide_eq_true_iff]; exact ⟨h, hc, hf⟩
theorem proper_no (l : List UInt8) (hf : ¬ firstN l = l.length) : properB l = false := by simp [properB, hf]
theorem splitL_ne (l : List UInt8) (h : 0 < l.length) : splitL l ≠ [] := by rw [splitL_eq l h]; simp
theorem split_one (l : List UInt8) (h : 0 < l.length) : (splitL l).length = 1 ↔ firstN l = l.length := by
  rw [splitL_eq l h, List.length_cons]
  have hle := firstN_le l
  constructor
  · intro e
    by_cases h2 : firstN l = l.length
    · exact h2
    · have := splitL_ne (l.drop (firstN l)) (by rw [List.length_drop]; omega)
      exact absurd (List.eq_nil_of_length_eq_zero (by omega)) this
  · intro e
    rw [List.drop_of_length_le (by omega)]; rfl
set_option maxRecDepth 100000 in
set_option maxHeartbeats 1000000 in
theorem properq_any (z : ByteArray) (r : Bool) (w : World) (hs : z.size ≤ 100000) (hr : properB z.data.toList = r) :
    Calls Tryz.prog 49 #[.string z] w fun e w' => e = .returned (.bool r) ∧ Below w.heap.size w w' := by
  by_cases h0 : 0 < z.size
  · have hne := ne_bytes z h0
    have hl0 : 0 < z.data.toList.length := by rw [len_data]; exact h0
    have hz0 : z.data.toList[0] = z[0] := rfl
    cases hc : contB z[0]
    · obtain ⟨X, hX⟩ : ∃ X, z.extract 0 (firstN z.data.toList) = X := ⟨_, rfl⟩
      have hXs : X.size = firstN z.data.toList := by
        have h1 := firstN_le z.data.toList
        rw [len_data] at h1
        rw [← hX, ByteArray.size_extract]; omega
      have HX := hide hX
      have HC := hide hc
      by_cases he : firstN z.data.toList = z.data.toList.length
      · have hrt : r = true := by rw [← hr]; exact proper_yes _ hl0 (by rw [hz0]; exact hc) he
        have hxe : ((X.size : Int) == (z.size : Int)) = true := by rw [len_data] at he; simp; omega
        subst hrt
        clear hr hX hc he hXs hz0
        go_enter Tryz.func49, Tryz.ntmps49
        go_wp2_with (first | (go_at_call 10; refine (contc_any z[0] _ false _ rfl HC.out).mono ?_; rintro e w1 ⟨rfl, rfl⟩) | (go_at_call 64; refine (firste_any z X _ (by omega) HX.out).mono ?_; rintro e w1 ⟨rfl, rfl⟩))
        go_ret
        exact ⟨rfl, bl_refl _⟩
      · have hrf : r = false := by rw [← hr]; exact proper_no _ he
        have hxe : ((X.size : Int) == (z.size : Int)) = false := by rw [len_data] at he; simp; omega
        subst hrf
        clear hr hX hc he hXs hz0
        go_enter Tryz.func49, Tryz.ntmps49
        go_wp2_with (first | (go_at_call 10; refine (contc_any z[0] _ false _ rfl HC.out).mono ?_; rintro e w1 ⟨rfl, rfl⟩) | (go_at_call 64; refine (firste_any z X _ (by omega) HX.out).mono ?_; rintro e w1 ⟨rfl, rfl⟩))
        go_ret
        exact ⟨rfl, bl_refl _⟩
    · have hrf : r = false := by rw [← hr]; exact proper_cont _ hl0 (by rw [hz0]; exact hc)
      have HC := hide hc
      subst hrf
      clear hr hc hz0
      go_enter Tryz.func49, Tryz.ntmps49
      go_wp2_with (first | (go_at_call 10; refine (contc_any z[0] _ true _ rfl HC.out).mono ?_; rintro e w1 ⟨rfl, rfl⟩))
      go_ret
      exact ⟨rfl, bl_refl _⟩
  · have hne := e_bytes z (by omega)
    have hl : z.data.toList = [] := List.eq_nil_of_length_eq_zero (by rw [len_data]; omega)
    have hrf : r = false := by rw [← hr, hl]; exact proper_nil
    subst hrf
    clear hr hl
    go_enter Tryz.func49, Tryz.ntmps49
    go_wp2
    go_ret
    exact ⟨rfl, bl_refl _⟩
set_option maxRecDepth 100000 in
set_option maxHeartbeats 1000000 in
theorem rproper_any (z : ByteArray) (r : Bool) (w : World) (hs : z.size ≤ 100000) (hr : properB z.data.toList = r) :
    Calls Tryz.prog 85 #[.string z] w fun e w' => e = .returned (.bool r) ∧ Below w.heap.size w w' := by
  by_cases h0 : 0 < z.size
  · have hl0 : 0 < z.data.toList.length := by rw [len_data]; exact h0
    have hz0 : z.data.toList[0] = z[0] := rfl
    have hi0 : (0 : Int) < (z.size : Int) := by omega
    cases hc : contB z[0]
    · have HC := hide hc
      have hon := split_one _ hl0
      have hrr : r = decide (firstN z.data.toList = z.data.toList.length) := by
        rw [← hr]
        by_cases he : firstN z.data.toList = z.data.toList.length
        · rw [proper_yes _ hl0 (by rw [hz0]; exact hc) he]; simp [he]
        · rw [proper_no _ he]; symm; rw [decide_eq_false_iff_not]; exact he
      have HRR := hide hrr
      have HON := hide hon
      clear hr hc hz0 hrr hon
      go_enter Tryz.func85, Tryz.ntmps85
      go_wp2_with fail
      refine (leade_any z[0] _ false _ rfl HC.out).mono ?_
      rintro e w1 ⟨rfl, rfl⟩
      go_wp2_with fail
      refine (rsplit_any z _ hs).mono ?_
      rintro e w2 ⟨v, zs, rfl, hb2, hv, HZ⟩
      have hzl : zs.length = (splitL z.data.toList).length := by rw [← HZ.out, List.length_map]
      obtain ⟨aV, cV, rfl⟩ := own_slice hv
      have hrz : ((zs.length : Int) == 1) = r := by
        rw [HRR.out, Bool.eq_iff_iff]
        rw [decide_eq_true_iff, ← HON.out, ← hzl]
        simp; omega
      have HRZ := hide hrz
      clear hv HZ hzl hrz
      go_wp2
      go_ret
      exact ⟨ret_bool HRZ.out, hb2⟩
    · have hrf : r = false := by rw [← hr]; exact proper_cont _ hl0 (by rw [hz0]; exact hc)
      have HC := hide hc
      subst hrf
      clear hr hc hz0
      go_enter Tryz.func85, Tryz.ntmps85
      go_wp2_with (first | (go_at_call 39; refine (leade_any z[0] _ true _ rfl HC.out).mono ?_; rintro e w1 ⟨rfl, rfl⟩))
      go_ret
      exact ⟨rfl, bl_refl _⟩
  · have hl : z.data.toList = [] := List.eq_nil_of_length_eq_zero (by rw [len_data]; omega)
    have hrf : r = false := by rw [← hr, hl]; exact proper_nil
    have hi0 : decide ((0 : Int) < (z.size : Int)) = false := decide_eq_false_iff_not.2 (by omega)
    have hi1 : (z.size : Int) ≤ 0 := by omega
    subst hrf
    clear hr hl
    go_enter Tryz.func85, Tryz.ntmps85
    go_wp2
    go_ret
    exact ⟨rfl, bl_refl _⟩
end Go.Proofs.YtcnliipkfccohabGreat
end
section
namespace Go.Proofs.YtcnliipkfccohabGreat
open Go.ChangeShapes Go.WideShapes Go.ChangeAt Go.RowKit
open SetM
attribute [local go_sem ↓] Go.wp_at_zero Go.wp_at_succ
def cmpT (x y : ByteArray) : Int := if bl x y = true then -1 else if bl y x = true then 1 else 0
def cmpR (a b : Rw) : Int := if cmpT a.1 b.1 = 0 then cmpT a.2 b.2 else cmpT a.1 b.1
theorem nan_any (x : ByteArray) (w : World) : Calls Tryz.prog 119 #[.string x] w fun e w' => e = .returned (.bool false) ∧ w = w' := by
  have hx : (x.toList == x.toList) = true := by simp
  go_enter Tryz.func119, Tryz.ntmps119
  go_wp2
  go_ret
  exact ⟨rfl, rfl⟩
set_option maxRecDepth 100000 in
set_option maxHeartbeats 400000 in
theorem cmp_any (x y : ByteArray) (w : World) : Calls Tryz.prog 112 #[.string x, .string y] w fun e w' => e = .returned (.int .i64 (cmpT x y)) ∧ w = w' := by
  have HE := hide (show cmpT x y = if bl x y = true then -1 else if bl y x = true then 1 else 0 from rfl)
  have HB := hide (show bl x y = Op.bytesLess x.toList y.toList from rfl)
  have HL := hide (le_or x y)
  generalize cmpT x y = r at *
  cases h1 : bl x y
  · cases h2 : bl y x
    · have h3 : Op.bytesLess x.toList y.toList = false := h1
      have h4 : (x.toList == y.toList) = true := by
        have := HL.out; rw [h1, h2] at this; simpa [eqB] using this
      have h5 : r = 0 := by rw [HE.out, h1, h2]; rfl
      clear h1 h2 HE HB HL
      go_enter Tryz.func112, Tryz.ntmps112
      go_wp2_with (go_at_call 119; refine (nan_any _ _).mono ?_; rintro e w1 ⟨rfl, rfl⟩)
      go_ret
      exact ⟨ret_int h5.symm, rfl⟩
    · have h3 : Op.bytesLess x.toList y.toList = false := h1
      have h4 : (x.toList == y.toList) = false := by
        have := HL.out; rw [h1, h2] at this; simpa [eqB] using this
      have h5 : r = 1 := by rw [HE.out, h1, h2]; rfl
      clear h1 h2 HE HB HL
      go_enter Tryz.func112, Tryz.ntmps112
      go_wp2_with (go_at_call 119; refine (nan_any _ _).mono ?_; rintro e w1 ⟨rfl, rfl⟩)
      go_ret
      exact ⟨ret_int h5.symm, rfl⟩
  · have h3 : Op.bytesLess x.toList y.toList = true := h1
    have h5 : r = -1 := by rw [HE.out, h1]; rfl
    clear h1 HE HB HL
    go_enter Tryz.func112, Tryz.ntmps112
    go_wp2_with (go_at_call 119; refine (nan_any _ _).mono ?_; rintro e w1 ⟨rfl, rfl⟩)
    go_ret
    exact ⟨ret_int h5.symm, rfl⟩
set_option maxRecDepth 100000 in
set_option maxHeartbeats 1000000 in
theorem or_any (b : Nat) (x y r : Int) (w : World) (h0 : w.cell? ⟨b, 0, none⟩ = some (.int .i64 x)) (h1 : w.cell? ⟨b, 1, none⟩ = some (.int .i64 y)) (hr : (if x = 0 then y else x) = r) :
    Calls Tryz.prog 111 #[.slice (some ⟨b, 0, none⟩) 2 2] w fun e w' => e = .returned (.int .i64 r) ∧ w = w' := by
  have HR := hide hr
  clear hr
  by_cases hx : x = 0
  · have hx2 : (x != 0) = false := by simp [hx]
    by_cases hy : y = 0
    · have hy2 : (y != 0) = false := by simp [hy]
      have hf : r = 0 := by rw [← HR.out, if_pos hx, hy]
      clear hx hy HR
      go_enter Tryz.func111, Tryz.ntmps111
      go_wp2
      refine wp_loop_rounds 3 ?_
      rw [rounds_succ]; go_wp2
      rw [rounds_succ]; go_wp2
      rw [rounds_succ]; go_wp2
      go_ret
      exact ⟨ret_int hf.symm, rfl⟩
    · have hy2 : (y != 0) = true := by simp [hy]
      have hf : r = y := by rw [← HR.out, if_pos hx]
      clear hx hy HR
      go_enter Tryz.func111, Tryz.ntmps111
      go_wp2
      refine wp_loop_rounds 3 ?_
      rw [rounds_succ]; go_wp2
      rw [rounds_succ]; go_wp2
      go_ret
      exact ⟨ret_int hf.symm, rfl⟩
  · have hx2 : (x != 0) = true := by simp [hx]
    have hf : r = x := by rw [← HR.out, if_neg hx]
    clear hx HR
    go_enter Tryz.func111, Tryz.ntmps111
    go_wp2
    refine wp_loop_rounds 3 ?_
    rw [rounds_succ]; go_wp2
    go_ret
    exact ⟨ret_int hf.symm, rfl⟩
set_option maxRecDepth 100000 in
set_option maxHeartbeats 2000000 in
theorem closure_any (a b : Rw) (w : World) : Calls Tryz.prog 110 #[.agg #[.string a.1, .string a.2], .agg #[.string b.1, .string b.2]] w fun e w' => e = .returned (.int .i64 (cmpR a b)) ∧ ∃ q os', w' = Go.Sort.grow (w.drewN q) os' := by
  obtain ⟨a1, a2⟩ := a
  obtain ⟨b1, b2⟩ := b
  have HE := hide (show cmpR (a1, a2) (b1, b2) = if cmpT a1 b1 = 0 then cmpT a2 b2 else cmpT a1 b1 from rfl)
  generalize cmpR (a1, a2) (b1, b2) = r at *
  go_enter Tryz.func110, Tryz.ntmps110
  go_wp2
  go_region_held3 (fun w' => w'.cell? ⟨w.heap.size, 0, none⟩ = some (.string a1) ∧ w'.cell? ⟨w.heap.size, 1, none⟩ = some (.string a2) ∧ w'.cell? ⟨w.heap.size + 1, 0, none⟩ = some (.string b1) ∧ w'.cell? ⟨w.heap.size + 1, 1, none⟩ = some (.string b2)) (go_keep)
    (first | (go_at_call 112; refine (cmp_any _ _ _).mono ?_; rintro e w1 ⟨rfl, rfl⟩) | (go_at_call 111; refine (or_any _ (cmpT a1 b1) (cmpT a2 b2) r _ (by go_simp) (by go_simp) HE.out.symm).mono ?_; rintro e w1 ⟨rfl, rfl⟩))
  all_goals
    go_wp2
    go_ret
    exact ⟨rfl, 1, _, by rw [Go.Sort.alloc_eq_grow, Go.Sort.alloc_eq_grow, Go.Sort.alloc_eq_grow, Go.Sort.grow_grow, Go.Sort.grow_grow]; rfl⟩
theorem tl_iff (a b : ByteArray) : a.toList = b.toList ↔ a = b := by
  rw [Go.ByteArray.toList_eq, Go.ByteArray.toList_eq]; exact ⟨ext a b, fun h => by rw [h]⟩
theorem neq_rw (a b : Rw) (w : World) : (binOp .neq 94 (.agg #[.string a.1, .string a.2]) (.agg #[.string b.1, .string b.2])).run Tryz.prog w = .ok (.bool (!decide (a = b))) w := by
  obtain ⟨a1, a2⟩ := a
  obtain ⟨b1, b2⟩ := b
  show (binOp .neq 94 (.agg #[.string a1, .string a2]) (.agg #[.string b1, .string b2])).run Tryz.prog w = .ok (.bool (!decide ((a1, a2) = (b1, b2)))) w
  go_simp
  by_cases h1 : a1 = b1 <;> by_cases h2 : a2 = b2 <;> simp [h1, h2, tl_iff]
theorem eql_rw (a b : Rw) (w : World) : (binOp .eql 94 (.agg #[.string a.1, .string a.2]) (.agg #[.string b.1, .string b.2])).run Tryz.prog w = .ok (.bool (decide (a = b))) w := by
  obtain ⟨a1, a2⟩ := a
  obtain ⟨b1, b2⟩ := b
  show (binOp .eql 94 (.agg #[.string a1, .string a2]) (.agg #[.string b1, .string b2])).run Tryz.prog w = .ok (.bool (decide ((a1, a2) = (b1, b2)))) w
  go_simp
  by_cases h1 : a1 = b1 <;> by_cases h2 : a2 = b2 <;> simp [h1, h2, tl_iff]
theorem eqgn_rw (x y : Operand) (a b : Rw) (w : World) : (eqGuard .neq 94 x y (.agg #[.string a.1, .string a.2]) (.agg #[.string b.1, .string b.2])).run Tryz.prog w = .ok () w :=
  run_eqGuard_agg _ _ _ _ _ _ _ (by kernel_rfl)
theorem eqge_rw (x y : Operand) (a b : Rw) (w : World) : (eqGuard .eql 94 x y (.agg #[.string a.1, .string a.2]) (.agg #[.string b.1, .string b.2])).run Tryz.prog w = .ok () w :=
  run_eqGuard_agg _ _ _ _ _ _ _ (by kernel_rfl)
attribute [local go_sem] eqgn_rw eqge_rw
attribute [local go_sem ↓] neq_rw eql_rw
end Go.Proofs.YtcnliipkfccohabGreat
end
section
namespace Go.Proofs.YtcnliipkfccohabGreat
open Go.ChangeShapes Go.WideShapes Go.ChangeAt Go.RowKit
open SetM
attribute [local go_sem ↓] Go.wp_at_zero Go.wp_at_succ
attribute [local go_sem] later_cell later_frozen
theorem lt_bl (a b : ByteArray) : Op.bytesLess a.toList b.toList = bl a b := rfl
theorem le_bl (a b : ByteArray) : (bl a b || a.toList == b.toList) = !bl b a := le_or a b
attribute [local go_sem] lt_bl le_bl
def rowB (s : Rw) : Bool := properB s.1.data.toList && properB s.2.data.toList && !bl s.2 s.1
def Short (s : Rw) : Prop := s.1.size ≤ 100000 ∧ s.2.size ≤ 100000
set_option maxRecDepth 100000 in
set_option maxHeartbeats 1000000 in
theorem may_any (s : Rw) (r : Bool) (w : World) (hs : Short s) (hr : rowB s = r) :
    Calls Tryz.prog 72 #[.agg #[.string s.1, .string s.2]] w fun e w' => e = .returned (.bool r) ∧ Below w.heap.size w w' := by
  obtain ⟨s1, s2⟩ := s
  obtain ⟨hs1, hs2⟩ := hs
  try simp only at hs1 hs2
  obtain ⟨p1, hp1⟩ : ∃ p, properB s1.data.toList = p := ⟨_, rfl⟩
  obtain ⟨p2, hp2⟩ : ∃ p, properB s2.data.toList = p := ⟨_, rfl⟩
  obtain ⟨p3, hp3⟩ : ∃ p, bl s2 s1 = p := ⟨_, rfl⟩
  have hr2 : r = (p1 && p2 && !p3) := by rw [← hr, ← hp1, ← hp2, ← hp3]; rfl
  have HP1 := hide hp1
  have HP2 := hide hp2
  have HR := hide hr2
  clear hp1 hp2 hr2 hr
  go_enter Tryz.func72, Tryz.ntmps72
  go_wp2_with fail
  refine (properq_any s1 p1 _ (by omega) HP1.out).mono ?_
  rintro e w1 ⟨rfl, hb1⟩
  have c1 : w1.cell? ⟨w.heap.size, 0, none⟩ = some (.string s1) := by rw [(bl_cell hb1).1 _ _ (by simp)]; go_simp
  have c2 : w1.cell? ⟨w.heap.size, 1, none⟩ = some (.string s2) := by rw [(bl_cell hb1).1 _ _ (by simp)]; go_simp
  have hbl1 := bl_trans (bl_alloc (bl_refl w) _) hb1
  clear hb1
  cases p1
  · clear hp3
    go_wp2
    go_ret
    exact ⟨ret_bool HR.out.symm, hbl1⟩
  · go_wp2_with fail
    refine (properq_any s2 p2 _ (by omega) HP2.out).mono ?_
    rintro e w2 ⟨rfl, hb2⟩
    have d1 := cell_later hb2 c1
    have d2 := cell_later hb2 c2
    have hbl2 := bl_trans hbl1 hb2
    clear hb2 hbl1 c1 c2
    cases p2
    · clear hp3
      go_wp2
      go_ret
      exact ⟨ret_bool HR.out.symm, hbl2⟩
    · cases p3
      all_goals
        go_wp2
        go_ret
        exact ⟨ret_bool HR.out.symm, hbl2⟩
theorem inB_next (l : List Rw) (k : Nat) (h : k < l.length) (c : ByteArray) : inB (l.take (k + 1)) c = (inB (l.take k) c || (!bl c l[k].1 && !bl l[k].2 c)) := by
  rw [List.take_succ_eq_append_getElem h, inB_app]; simp [inB]
theorem inB_yes (l : List Rw) (k : Nat) (h : k < l.length) (c : ByteArray) (h1 : bl c l[k].1 = false) (h2 : bl l[k].2 c = false) : inB l c = true := by
  rw [inB_iff]; exact ⟨l[k], List.getElem_mem h, h1, h2⟩
set_option maxRecDepth 100000 in
set_option maxHeartbeats 2000000 in
theorem has_any (v : Value) (l : List Rw) (c : ByteArray) (r : Bool) (w : World) (h : RwAt w v l) (hl : l.length ≤ 1000) (hr : inB l c = r) :
    Calls Tryz.prog 105 #[v, .string c] w fun e w' => e = .returned (.bool r) ∧ Below w.heap.size w w' := by
  have HW := hide h
  obtain ⟨aA, cA, rfl⟩ := rwat_len h
  have HR := hide hr
  clear h hr
  go_enter Tryz.func105, Tryz.ntmps105
  go_wp2
  go_loopw [9] (fun i wr => ∃ j : Nat, j ≤ l.length ∧ i = .int .i64 j ∧ Hid (inB (l.take j) c = false) ∧ Below w.heap.size w wr)
    (fun i _ => l.length - (intOf i).toNat)
  case atStart => exact ⟨0, Nat.zero_le _, rfl, hide (by simp [inB]), bl_refl w⟩
  case round =>
    obtain ⟨j, hj, rfl, HT, hbl⟩ := hrel
    by_cases hlt : j < l.length
    · obtain ⟨b1, o1, c1, hv1, hc1, hm1, hlb1, hcell1⟩ := rwat_some (rwat_below HW.out hbl) (by omega)
      injection hv1 with hv1 _ hv1c
      subst hv1 hv1c
      unfold maxLen at hm1
      obtain ⟨x1, x2⟩ := hcell1 j hlt
      have HN := hide (inB_next l j hlt c)
      have HY := hide (inB_yes l j hlt c)
      clear hcell1
      generalize l[j] = s at *
      obtain ⟨s1, s2⟩ := s
      try simp only at x1 x2 HN HY
      have hbl2 := bl_alloc hbl (.cells #[.string s1, .string s2] 94)
      cases h1 : bl c s1
      · cases h2 : bl s2 c
        · have hy := HY.out h1 h2
          have HF : Hid (r = true) := hide (by rw [← HR.out]; exact hy)
          clear hy HY HN HT HR
          go_wp2
          go_ret
          exact ⟨ret_bool HF.out.symm, hbl2⟩
        · have HT2 : Hid (inB (l.take (j + 1)) c = false) := hide (by rw [HN.out, HT.out, h1, h2]; rfl)
          clear HY HN HT
          go_wp2
          refine ⟨?_, by first | (simp [intOf]; done) | (simp [intOf]; omega)⟩
          first
            | exact ⟨j + 1, by omega, by go_num, HT2, hbl2⟩
            | ((repeat apply Exists.intro); exact ⟨⟨j + 1, by omega, by go_num, HT2, hbl2⟩, rfl⟩)
      · have HT2 : Hid (inB (l.take (j + 1)) c = false) := hide (by rw [HN.out, HT.out, h1]; rfl)
        clear HY HN HT
        go_wp2
        refine ⟨?_, by first | (simp [intOf]; done) | (simp [intOf]; omega)⟩
        first
          | exact ⟨j + 1, by omega, by go_num, HT2, hbl2⟩
          | ((repeat apply Exists.intro); exact ⟨⟨j + 1, by omega, by go_num, HT2, hbl2⟩, rfl⟩)
    · have HF : Hid (r = false) := hide (by
        rw [← HR.out]; have := HT.out; rwa [List.take_of_length_le (by omega)] at this)
      clear HT HR
      go_wp2
      go_ret
      exact ⟨ret_bool HF.out.symm, hbl⟩
end Go.Proofs.YtcnliipkfccohabGreat
end
section
namespace Go.Proofs.YtcnliipkfccohabGreat
open Go.ChangeShapes Go.WideShapes Go.ChangeAt Go.RowKit
open SetM
attribute [local go_sem ↓] Go.wp_at_zero Go.wp_at_succ
attribute [local go_sem] later_cell later_frozen lt_bl le_bl
def mayF : List Rw → Bool
  | [] => true
  | [a] => rowB a
  | a :: b :: r => rowB a && bl a.2 b.1 && mayF (b :: r)
theorem mayF_at (l : List Rw) : mayF l = true ↔ ∀ i (h : i < l.length), rowB l[i] = true ∧ ∀ j (hj : i = j + 1), bl (l[j]'(by omega)).2 l[i].1 = true := by
  induction l with
  | nil => simp [mayF]
  | cons a r ih =>
    cases r with
    | nil =>
      simp only [mayF]
      constructor
      · intro h i hi
        have : i = 0 := by simpa using hi
        subst this
        exact ⟨h, fun j hj => by omega⟩
      · intro h
        exact (h 0 (by simp)).1
    | cons b r =>
      rw [mayF, Bool.and_eq_true, Bool.and_eq_true, ih]
      constructor
      · rintro ⟨⟨h1, h2⟩, h3⟩ i hi
        cases i with
        | zero => exact ⟨h1, fun j hj => by omega⟩
        | succ i =>
          have h4 := h3 i (by simpa using hi)
          refine ⟨h4.1, fun j hj => ?_⟩
          obtain rfl : j = i := by omega
          cases j with
          | zero => exact h2
          | succ j => exact h4.2 j rfl
      · intro h
        refine ⟨⟨(h 0 (by simp)).1, (h 1 (by simp)).2 0 rfl⟩, fun i hi => ?_⟩
        have h4 := h (i + 1) (by simp at hi ⊢; omega)
        exact ⟨h4.1, fun j hj => h4.2 (j + 1) (by omega)⟩
theorem mayF_no1 (l : List Rw) (i : Nat) (h : i < l.length) (hn : rowB l[i] = false) : mayF l = false := by
  cases ha : mayF l
  · rfl
  · have := ((mayF_at l).1 ha i h).1; rw [hn] at this; cases this
theorem mayF_no2 (l : List Rw) (j : Nat) (h : j + 1 < l.length) (hn : bl (l[j]'(by omega)).2 l[j + 1].1 = false) : mayF l = false := by
  cases ha : mayF l
  · rfl
  · have := ((mayF_at l).1 ha (j + 1) h).2 j rfl; rw [hn] at this; cases this
def upto (l : List Rw) (k : Nat) : Prop := ∀ i (h : i < l.length), i < k → rowB l[i] = true ∧ ∀ j (hj : i = j + 1), bl (l[j]'(by omega)).2 l[i].1 = true
theorem upto_next (l : List Rw) (k : Nat) (h : upto l k) (hk : k < l.length) (hb : rowB l[k] = true) (hj : ∀ j (hj : k = j + 1), bl (l[j]'(by omega)).2 l[k].1 = true) : upto l (k + 1) := by
  intro i hi hik
  by_cases e : i = k
  · subst e; exact ⟨hb, hj⟩
  · exact h i hi (by omega)
theorem upto_all (l : List Rw) (h : upto l l.length) : mayF l = true := (mayF_at l).2 (fun i hi => h i hi hi)
set_option maxRecDepth 100000 in
set_option maxHeartbeats 4000000 in
theorem mays_any (v : Value) (l : List Rw) (r : Bool) (w : World) (h : RwAt w v l) (hl : l.length ≤ 100000) (hsh : ∀ s ∈ l, Short s) (hr : mayF l = r) :
    Calls Tryz.prog 50 #[v] w fun e w' => e = .returned (.bool r) ∧ Below w.heap.size w w' := by
  have HW := hide h
  have HSH := hide hsh
  have HR := hide hr
  obtain ⟨aA, cA, rfl⟩ := rwat_len h
  clear h hsh hr
  go_enter Tryz.func50, Tryz.ntmps50
  go_wp2
  go_loopw [7] (fun i wr => ∃ k : Nat, i = .int .i64 k ∧ k ≤ l.length ∧ Hid (upto l k) ∧ Below w.heap.size w wr) (fun i _ => l.length - (intOf i).toNat)
  case atStart => exact ⟨0, rfl, Nat.zero_le _, hide (fun i h1 h2 => by omega), bl_refl w⟩
  case round =>
    obtain ⟨k, rfl, hk, HT, hbl⟩ := hrel
    by_cases hlt : k < l.length
    · obtain ⟨b1, o1, c1, hv1, hc1, hm1, hlb1, hcell1⟩ := rwat_some (rwat_below HW.out hbl) (by omega)
      injection hv1 with hv1 _ hv1c
      subst hv1 hv1c
      unfold maxLen at hm1
      obtain ⟨x1, x2⟩ := hcell1 k hlt
      have hss := HSH.out l[k] (List.getElem_mem hlt)
      obtain ⟨p, hp⟩ : ∃ p, rowB l[k] = p := ⟨_, rfl⟩
      have hbl2 := bl_alloc hbl (.cells #[.string l[k].1, .string l[k].2] 94)
      have HP := hide hp
      clear hp
      cases p
      · have HF := hide (HR.out.symm.trans (mayF_no1 l k hlt HP.out))
        have HM := hide (fun W : World => may_any l[k] false W hss HP.out)
        clear hcell1 HT HR HP hss
        generalize l[k] = s at *
        go_wp2
        refine wp_region_later (by kernel_rfl) (by kernel_rfl) ?_
        repeat (go_big_quiet_step (first | (go_at_call 72; exact later_call (HM.out _)) | exact rfl))
        refine wpQuiet_nil ?_
        rintro w9 ⟨⟨_, hb9⟩, rfl⟩
        go_wp2
        go_ret
        exact ⟨ret_bool HF.out.symm, bl_trans hbl2 hb9⟩
      · rcases Nat.eq_zero_or_pos k with hk0 | hk0
        · subst hk0
          have HT2 := hide (upto_next l 0 HT.out hlt HP.out (fun j hj => by omega))
          have HM := hide (fun W : World => may_any l[0] true W hss HP.out)
          clear hcell1 HT HR HP hss
          rw [Nat.zero_mul, Nat.add_zero] at x1 x2
          generalize l[0] = s at *
          go_wp2
          refine wp_region_later (by kernel_rfl) (by kernel_rfl) ?_
          repeat (go_big_quiet_step (first | (go_at_call 72; exact later_call (HM.out _)) | exact rfl))
          refine wpQuiet_nil ?_
          rintro w9 ⟨⟨_, hb9⟩, rfl⟩
          have hb10 := bl_trans hbl2 hb9
          go_wp2
          refine ⟨?_, by first | (simp [intOf]; done) | (simp [intOf]; omega)⟩
          first
            | exact ⟨0 + 1, by go_num, by omega, HT2, hb10⟩
            | ((repeat apply Exists.intro); exact ⟨⟨0 + 1, by go_num, by omega, HT2, hb10⟩, rfl⟩)
        · obtain ⟨j, rfl⟩ : ∃ j, k = j + 1 := ⟨k - 1, by omega⟩
          obtain ⟨y1, y2⟩ := hcell1 j (by omega)
          have HM := hide (fun W : World => may_any l[j + 1] true W hss HP.out)
          have hj0 : decide ((0 : Int) < (j : Int) + 1) = true := by first | (simp; done) | (simp; omega)
          obtain ⟨q, hq⟩ : ∃ q, bl l[j].2 l[j + 1].1 = q := ⟨_, rfl⟩
          have HNX := hide (show q = false → r = false from fun e => HR.out.symm.trans (mayF_no2 l j hlt (hq.trans e)))
          have HYES := hide (show q = true → upto l (j + 1 + 1) from fun e => upto_next l (j + 1) HT.out hlt HP.out (fun j' hj' => by
            obtain rfl : j' = j := by omega
            exact hq.trans e))
          clear hcell1 HT HP hss HR
          generalize l[j + 1] = s at *
          generalize l[j] = t at *
          cases q
          · have HF := hide (HNX.out rfl)
            clear HNX HYES
            go_wp2
            refine wp_region_later (by kernel_rfl) (by kernel_rfl) ?_
            repeat (go_big_quiet_step (first | (go_at_call 72; exact later_call (HM.out _)) | exact rfl))
            refine wpQuiet_nil ?_
            rintro w9 ⟨⟨_, hb9⟩, rfl⟩
            go_wp2
            go_ret
            exact ⟨ret_bool HF.out.symm, bl_trans hbl2 hb9⟩
          · have HT2 := hide (HYES.out rfl)
            clear HNX HYES
            go_wp2
            refine wp_region_later (by kernel_rfl) (by kernel_rfl) ?_
            repeat (go_big_quiet_step (first | (go_at_call 72; exact later_call (HM.out _)) | exact rfl))
            refine wpQuiet_nil ?_
            rintro w9 ⟨⟨_, hb9⟩, rfl⟩
            have hb10 := bl_trans hbl2 hb9
            go_wp2
            refine ⟨?_, by first | (simp [intOf]; done) | (simp [intOf]; omega)⟩
            first
              | exact ⟨j + 1 + 1, by go_num, by omega, HT2, hb10⟩
              | ((repeat apply Exists.intro); exact ⟨⟨j + 1 + 1, by go_num, by omega, HT2, hb10⟩, rfl⟩)
    · obtain rfl : k = l.length := by omega
      have HF := hide (HR.out.symm.trans (upto_all l HT.out))
      clear HT HR hlt
      go_wp2
      go_ret
      exact ⟨ret_bool HF.out.symm, hbl⟩
end Go.Proofs.YtcnliipkfccohabGreat
end
section
namespace Go.Proofs.YtcnliipkfccohabGreat
open Go.ChangeShapes Go.WideShapes Go.ChangeAt Go.RowKit
open SetM
attribute [local go_sem ↓] Go.wp_at_zero Go.wp_at_succ
attribute [local go_sem] later_cell later_frozen lt_bl le_bl
theorem eachu_any (s X : ByteArray) (w : World) (hs : s.size ≤ 1000000) (hX : mapS upB s = X) :
    Calls Tryz.prog 103 #[.string s, .func (.func 106) #[] #[]] w fun e w' => e = .returned (.string X) ∧ Below w.heap.size w w' := by
  subst hX; exact each_up s w hs
def hasF (l : List Rw) (no fold : Bool) (c : ByteArray) : Bool := (inB l c || (fold && (inB l (mapS downB c) || inB l (mapS upB c)))) != no
set_option maxRecDepth 100000 in
set_option maxHeartbeats 4000000 in
theorem hass_any (v : Value) (l : List Rw) (no fold : Bool) (c : ByteArray) (r : Bool) (w : World) (h : RwAt w v l) (hl : l.length ≤ 1000) (hc : c.size ≤ 100000) (hr : hasF l no fold c = r) :
    Calls Tryz.prog 89 #[v, .bool no, .bool fold, .string c] w fun e w' => e = .returned (.bool r) ∧ Below w.heap.size w w' := by
  have HW := hide h
  obtain ⟨r0, hr0⟩ : ∃ p, inB l c = p := ⟨_, rfl⟩
  obtain ⟨r1, hr1⟩ : ∃ p, inB l (mapS downB c) = p := ⟨_, rfl⟩
  obtain ⟨r2, hr2⟩ : ∃ p, inB l (mapS upB c) = p := ⟨_, rfl⟩
  obtain ⟨d, hd⟩ : ∃ d, mapS downB c = d := ⟨_, rfl⟩
  obtain ⟨u, hu⟩ : ∃ u, mapS upB c = u := ⟨_, rfl⟩
  have HR := hide (show r = ((r0 || (fold && (r1 || r2))) != no) by rw [← hr, ← hr0, ← hr1, ← hr2]; rfl)
  rw [hd] at hr1
  rw [hu] at hr2
  have HR0 := hide hr0
  have HR1 := hide hr1
  have HR2 := hide hr2
  have HU := hide hu
  have HD := hide hd
  obtain ⟨aA, cA, rfl⟩ := rwat_len h
  clear h hr hr0 hr1 hr2 hd hu
  go_enter Tryz.func89, Tryz.ntmps89
  go_wp2_with fail
  refine (has_any _ l c r0 _ HW.out hl HR0.out).mono ?_
  rintro e w1 ⟨rfl, hb1⟩
  cases r0
  · cases fold
    · cases no
      all_goals
        go_wp2
        go_ret
        exact ⟨ret_bool HR.out.symm, hb1⟩
    · have HW1 := hide (rwat_below HW.out hb1)
      go_wp2_with fail
      refine (folde_any c d _ (by omega) HD.out).mono ?_
      rintro e w2 ⟨rfl, hb2⟩
      have HW2 := hide (rwat_below HW1.out hb2)
      go_wp2_with fail
      refine (has_any _ l d r1 _ HW2.out hl HR1.out).mono ?_
      rintro e w3 ⟨rfl, hb3⟩
      have HW3 := hide (rwat_below HW2.out hb3)
      have hb13 := bl_trans (bl_trans hb1 hb2) hb3
      cases r1
      · go_wp2_with fail
        refine (eachu_any c u _ (by omega) HU.out).mono ?_
        rintro e w4 ⟨rfl, hb4⟩
        have HW4 := hide (rwat_below HW3.out hb4)
        go_wp2_with fail
        refine (has_any _ l u r2 _ HW4.out hl HR2.out).mono ?_
        rintro e w5 ⟨rfl, hb5⟩
        cases r2 <;> cases no
        all_goals
          go_wp2
          go_ret
          exact ⟨ret_bool HR.out.symm, bl_trans (bl_trans hb13 hb4) hb5⟩
      · cases no
        all_goals
          go_wp2
          go_ret
          exact ⟨ret_bool (by rw [HR.out]; cases r2 <;> rfl), hb13⟩
  · cases fold <;> cases no
    all_goals
      go_wp2
      go_ret
      exact ⟨ret_bool (by rw [HR.out]; rfl), hb1⟩
end Go.Proofs.YtcnliipkfccohabGreat
end
section
namespace Go.Proofs.YtcnliipkfccohabGreat
open Go.ChangeShapes Go.WideShapes Go.ChangeAt Go.RowKit
open SetM
attribute [local go_sem ↓] Go.wp_at_zero Go.wp_at_succ
set_option maxRecDepth 100000
set_option linter.unusedVariables false
mutual
  def pM : Rt → Nat
    | .mk _ _ _ _ _ _ _ _ _ l => 1 + pL l
  def pL : List Rt → Nat
    | [] => 0
    | t :: l => pM t + pL l
end
mutual
  def gM : Rt → Nat
    | .mk k _ _ _ _ _ _ _ _ l => (if k = 5 then 1 else 0) + gL l
  def gL : List Rt → Nat
    | [] => 0
    | t :: l => gM t + gL l
end
mutual
  def dM : Rt → Nat
    | .mk k _ _ _ _ _ _ _ _ l => dL l + (if k = 5 ∨ k = 6 then 1 else 0)
  def dL : List Rt → Nat
    | [] => 0
    | t :: l => max (dM t) (dL l)
end
theorem pM_eq (t : Rt) : pM t = 1 + pL t.kids := by cases t; rw [pM]; rfl
theorem gM_eq (t : Rt) : gM t = (if t.k = 5 then 1 else 0) + gL t.kids := by cases t; rw [gM]; rfl
theorem dM_eq (t : Rt) : dM t = dL t.kids + (if t.k = 5 ∨ t.k = 6 then 1 else 0) := by cases t; rw [dM]; rfl
theorem pL_app (l m : List Rt) : pL (l ++ m) = pL l + pL m := by
  induction l with
  | nil => simp [pL]
  | cons a l ih => simp only [List.cons_append, pL, ih]; omega
theorem gL_app (l m : List Rt) : gL (l ++ m) = gL l + gL m := by
  induction l with
  | nil => simp [gL]
  | cons a l ih => simp only [List.cons_append, gL, ih]; omega
theorem dL_app (l m : List Rt) : dL (l ++ m) = max (dL l) (dL m) := by
  induction l with
  | nil => simp [dL]
  | cons a l ih => simp only [List.cons_append, dL, ih]; omega
theorem pL_snoc (l : List Rt) (k : Nat) (h : k < l.length) : pL (l.take (k + 1)) = pL (l.take k) + pM l[k] := by
  rw [List.take_succ_eq_append_getElem h, pL_app]; simp [pL]
theorem gL_snoc (l : List Rt) (k : Nat) (h : k < l.length) : gL (l.take (k + 1)) = gL (l.take k) + gM l[k] := by
  rw [List.take_succ_eq_append_getElem h, gL_app]; simp [gL]
theorem dL_snoc (l : List Rt) (k : Nat) (h : k < l.length) : dL (l.take (k + 1)) = max (dL (l.take k)) (dM l[k]) := by
  rw [List.take_succ_eq_append_getElem h, dL_app]; simp [dL]
theorem pM_pos (t : Rt) : 1 ≤ pM t := by rw [pM_eq]; omega
theorem len_pL (l : List Rt) : l.length ≤ pL l := by
  induction l with
  | nil => simp
  | cons a l ih => rw [pL, List.length_cons]; have := pM_pos a; omega
mutual
  theorem gM_le : ∀ t, gM t ≤ pM t
    | .mk k _ _ _ _ _ _ _ _ l => by rw [gM, pM]; have := gL_le l; split <;> omega
  theorem gL_le : ∀ l, gL l ≤ pL l
    | [] => by simp [gL]
    | t :: l => by rw [gL, pL]; have := gM_le t; have := gL_le l; omega
end
theorem isg_any (k : Int) (r : Bool) (hr : decide (k = 5 ∨ k = 6) = r) (w : World) : Calls Tryz.prog 29 #[.int .i64 k] w fun e w' => e = .returned (.bool r) ∧ w = w' := by
  by_cases h5 : k = 5
  · have z5 : (k == 5) = true := beq_iff_eq.2 h5
    obtain rfl : r = true := by rw [← hr]; exact decide_eq_true (.inl h5)
    clear hr h5
    go_enter Tryz.func29, Tryz.ntmps29
    go_wp2
    go_ret
    exact ⟨rfl, rfl⟩
  · have z5 : (k == 5) = false := beq_eq_false_iff_ne.2 h5
    by_cases h6 : k = 6
    · have z6 : (k == 6) = true := beq_iff_eq.2 h6
      obtain rfl : r = true := by rw [← hr]; exact decide_eq_true (.inr h6)
      clear hr h5 h6
      go_enter Tryz.func29, Tryz.ntmps29
      go_wp2
      go_ret
      exact ⟨rfl, rfl⟩
    · have z6 : (k == 6) = false := beq_eq_false_iff_ne.2 h6
      obtain rfl : r = false := by rw [← hr]; exact decide_eq_false (by omega)
      clear hr h5 h6
      go_enter Tryz.func29, Tryz.ntmps29
      go_wp2
      go_ret
      exact ⟨rfl, rfl⟩
end Go.Proofs.YtcnliipkfccohabGreat
end
section
namespace Go.Proofs.YtcnliipkfccohabGreat
open Go.ChangeShapes Go.WideShapes Go.ChangeAt Go.RowKit
open SetM
attribute [local go_sem ↓] Go.wp_at_zero Go.wp_at_succ
set_option maxRecDepth 100000
set_option linter.unusedVariables false
def rwS : List Rw → Nat
  | [] => 0
  | s :: l => 1 + s.1.size + s.2.size + rwS l
mutual
  def sM : Rt → Nat
    | .mk _ c _ _ r _ _ _ _ l => 1 + c.size + rwS r + sL l
  def sL : List Rt → Nat
    | [] => 0
    | t :: l => sM t + sL l
end
theorem sM_eq (t : Rt) : sM t = 1 + t.ch.size + rwS t.rows + sL t.kids := by cases t; rw [sM]; rfl
theorem rwS_app (l m : List Rw) : rwS (l ++ m) = rwS l + rwS m := by
  induction l with
  | nil => simp [rwS]
  | cons a l ih => simp only [List.cons_append, rwS, ih]; omega
theorem sL_app (l m : List Rt) : sL (l ++ m) = sL l + sL m := by
  induction l with
  | nil => simp [sL]
  | cons a l ih => simp only [List.cons_append, sL, ih]; omega
theorem sL_snoc (l : List Rt) (k : Nat) (h : k < l.length) : sL (l.take (k + 1)) = sL (l.take k) + sM l[k] := by
  rw [List.take_succ_eq_append_getElem h, sL_app]; simp [sL]
theorem sL_kid (l : List Rt) (k : Nat) (h : k < l.length) : sM l[k] ≤ sL l := by
  have h1 := sL_snoc l k h
  have h2 : sL l = sL (l.take (k + 1)) + sL (l.drop (k + 1)) := by rw [← sL_app, List.take_append_drop]
  omega
theorem rwS_len (l : List Rw) : l.length ≤ rwS l := by
  induction l with
  | nil => simp
  | cons a l ih => rw [rwS, List.length_cons]; omega
theorem rwS_in (l : List Rw) : ∀ s ∈ l, s.1.size + s.2.size ≤ rwS l := by
  induction l with
  | nil => intro s hs; cases hs
  | cons a l ih =>
    intro s hs
    rw [rwS]
    rcases List.mem_cons.1 hs with rfl | hs
    · omega
    · have := ih s hs; omega
mutual
  theorem pM_sM : ∀ t, pM t ≤ sM t
    | .mk k _ _ _ _ _ _ _ _ l => by rw [pM, sM]; have := pL_sL l; omega
  theorem pL_sL : ∀ l, pL l ≤ sL l
    | [] => by simp [pL]
    | t :: l => by rw [pL, sL]; have := pM_sM t; have := pL_sL l; omega
end
end Go.Proofs.YtcnliipkfccohabGreat
end
section
namespace Go.Proofs.YtcnliipkfccohabGreat
open Go.ChangeShapes Go.WideShapes Go.ChangeAt Go.RowKit
open SetM
attribute [local go_sem ↓] Go.wp_at_zero Go.wp_at_succ
set_option maxRecDepth 100000
set_option linter.unusedVariables false
def SmPost (b : Bool) (w : World) : Ending → World → Prop := fun e w' => e = .returned (.bool b) ∧ Below w.heap.size w w'
end Go.Proofs.YtcnliipkfccohabGreat
end
section
namespace Go.Proofs.YtcnliipkfccohabGreat
open Go.ChangeShapes Go.WideShapes Go.ChangeAt Go.RowKit
open SetM
attribute [local go_sem ↓] Go.wp_at_zero Go.wp_at_succ
set_option maxRecDepth 100000
set_option linter.unusedVariables false
set_option linter.unusedSimpArgs false
theorem tleq (a b : ByteArray) (r : Bool) (h : decide (a = b) = r) : (a.toList == b.toList) = r := by
  rw [← h]; by_cases e : a = b <;> simp [e, tl_iff]
theorem cells_lit2 (w0 : World) (arr : Array Value) (e : TypeId) (j : Nat) (u : Value) (hu : arr.toList[j]? = some u) {n : Nat} (hn : w0.heap.size = n) : (w0.alloc (.cells arr e)).cell? ((⟨n, 0, none⟩ : Addr).add j) = some u := by
  subst hn; exact cells_lit w0 arr e j u hu
end Go.Proofs.YtcnliipkfccohabGreat
end
section
namespace Go.Proofs.YtcnliipkfccohabGreat
open Go.ChangeShapes Go.WideShapes Go.ChangeAt Go.RowKit
open SetM
attribute [local go_sem ↓] Go.wp_at_zero Go.wp_at_succ
set_option maxRecDepth 100000
set_option linter.unusedVariables false
def fillR (l : List Rw) (k : Nat) : List Rw := l.take k ++ List.replicate (l.length - k) (⟨#[]⟩, ⟨#[]⟩)
theorem fillR_len (l : List Rw) (k : Nat) (hk : k ≤ l.length) : (fillR l k).length = l.length := by unfold fillR; simp; omega
theorem fillR_succ (l : List Rw) (k : Nat) (h : k < l.length) : (fillR l k).set k l[k] = fillR l (k + 1) := by
  unfold fillR
  have hl : (l.take k).length = k := by simp; omega
  rw [List.set_append_right _ _ (by omega), hl, Nat.sub_self, List.take_succ_eq_append_getElem h, show l.length - k = (l.length - (k + 1)) + 1 by omega, List.replicate_succ, List.set_cons_zero, List.append_assoc]
  rfl
theorem fillR_all (l : List Rw) : fillR l l.length = l := by unfold fillR; simp
theorem flatR_set2 (l : List Rw) (i : Nat) (h : i < l.length) (s : Rw) : ((flatR l).set (i * 2) (.string s.1)).set (i * 2 + 1) (.string s.2) = flatR (l.set i s) := by
  induction l generalizing i with
  | nil => simp at h
  | cons a r ih =>
    cases i with
    | zero => rfl
    | succ i =>
      have e : ∀ (b : Rw) (q : List Rw), flatR (b :: q) = .string b.1 :: .string b.2 :: flatR q := fun _ _ => rfl
      have h1 : (i + 1) * 2 = i * 2 + 1 + 1 := by omega
      rw [e, h1, List.set_cons_succ, List.set_cons_succ, List.set_cons_succ, List.set_cons_succ, ih i (by simpa using h), List.set_cons_succ, e]
theorem own_putR {w : World} {base g n c : Nat} {l : List Rw} (h : w.ownsRow base 94 2 (.slice (some ⟨g, 0, none⟩) n c) n (flatR l)) (i : Nat) (hi : i < l.length) (s : Rw) :
    ((w.setCell ⟨g, i * 2, none⟩ (.string s.1)).setCell ⟨g, i * 2 + 1, none⟩ (.string s.2)).ownsRow base 94 2 (.slice (some ⟨g, 0, none⟩) n c) n (flatR (l.set i s)) := by
  have h1 := (World.ownsRow.stored h (i * 2) (.string s.1)).1
  have h2 := (World.ownsRow.stored h1 (i * 2 + 1) (.string s.2)).1
  rw [flatR_set2 l i hi s] at h2
  exact h2
theorem made_flatR (n : Nat) : (madeCells #[Value.string ⟨#[]⟩, Value.string ⟨#[]⟩] (n * 2)).toList = flatR (List.replicate n (⟨#[]⟩, ⟨#[]⟩)) := by
  apply List.ext_getElem
  · rw [flatR_len]; simp [madeCells]
  · intro i h1 h2
    have hi : i < n * 2 := by simpa [madeCells] using h1
    have hf := flatR_at (List.replicate n ((⟨#[]⟩ : ByteArray), (⟨#[]⟩ : ByteArray))) (i / 2) (by simp; omega)
    have e1 : (madeCells #[Value.string ⟨#[]⟩, Value.string ⟨#[]⟩] (n * 2)).toList[i] = .string ⟨#[]⟩ := by
      simp only [madeCells, Array.toList_map, Array.toList_range, List.getElem_map, List.getElem_range]
      rcases Nat.mod_two_eq_zero_or_one i with h | h <;> simp [h]
    rw [e1]
    simp only [List.getElem_replicate] at hf
    rcases Nat.mod_two_eq_zero_or_one i with h | h
    · have ht : i / 2 * 2 = i := by omega
      rw [ht, List.getElem?_eq_getElem h2] at hf
      exact (Option.some.inj hf.1).symm
    · have ht : i / 2 * 2 + 1 = i := by omega
      rw [ht, List.getElem?_eq_getElem h2] at hf
      exact (Option.some.inj hf.2).symm
theorem results_cell1 {fn : Func} {p : Tmp} {ty : TypeId} (h : fn.results = #[.cell p ty]) (tmps : Array Value) (P : Program) (w : World) :
    (results fn tmps).run P w = ((asAddr (tmps.getD p undef)).run P w).andThen fun a w₁ => (loadVar ty a).run P w₁ := by
  simp only [results, h]
  simp [Sem.run_bind, Result.andThen]
theorem idrow_any (a b : ByteArray) (w : World) : Calls Tryz.prog 71 #[.agg #[.string a, .string b]] w fun e w' => e = .returned (.agg #[.string a, .string b]) ∧ Below w.heap.size w w' := by
  have hb := hide (fun o1 o2 => bl_alloc (bl_alloc (bl_refl w) o1) o2)
  go_enter Tryz.func71, Tryz.ntmps71
  go_wp2
  refine bodyPost_ret (v := .agg #[.string a, .string b]) ?_ rfl ⟨rfl, hb.out _ _⟩
  rw [results_cell1 rfl]
  go_simp
def FrV (n : Nat) (v : Value) : Prop := ∀ x len c, v = .slice (some x) len c → n ≤ x.block
def RwPost (w : World) (l : List Rw) : Ending → World → Prop := fun e w' => ∃ v', e = .returned v' ∧ Below w.heap.size w w' ∧ RwAt w' v' l ∧ FrV w.heap.size v'
def RInv (l : List Rw) (w1 : World) (i : Value) (wr : World) : Prop :=
  ∃ k : Nat, i = .int .i64 k ∧ k ≤ l.length ∧ Hid (wr.ownsRow w1.heap.size 94 2 (.slice (some ⟨w1.heap.size, 0, none⟩) l.length l.length) l.length (flatR (fillR l k))) ∧ Hid (Below w1.heap.size w1 wr) ∧ w1.heap.size < wr.heap.size
set_option maxHeartbeats 8000000 in
theorem eachrows_any (v : Value) (l : List Rw) (w : World) (h : RwAt w v l) (hl : l.length ≤ 100000) :
    Calls Tryz.prog 70 #[v, .func (.func 71) #[] #[]] w (RwPost w l) := by
  obtain ⟨i0, hi0, hz0', hz1, hz2⟩ := info_parts info_rw
  obtain ⟨vA, vc, rfl⟩ := rwat_len h
  have H := hide h
  unfold RwPost
  rcases l with _ | ⟨s0, lr⟩
  · clear h hl H
    simp only [List.length_nil] at *
    go_enter Tryz.func70, Tryz.ntmps70
    go_wp2
    go_ret
    exact ⟨_, rfl, bl_refl w, .inl ⟨rfl, rfl⟩, fun x len c h => by cases h⟩
  obtain ⟨l, hll⟩ : ∃ l, s0 :: lr = l := ⟨_, rfl⟩
  have hpos : 0 < l.length := by rw [← hll]; simp
  rw [hll] at H h hl ⊢
  clear hll h
  have gz : ((l.length : Int) == 0) = false := beq_eq_false_iff_ne.2 (by omega)
  go_enter Tryz.func70, Tryz.ntmps70
  go_wp2_with (refine wpList_make_full _ rfl (.tmp 12) (.tmp 12) 22 rfl w.heap.size 94 i0 (.agg #[.string ⟨#[]⟩, .string ⟨#[]⟩]) 2 Tryz.underlying22 hi0 hz0' hz1 .i64 .i64 l.length l.length l.length rfl rfl rfl rfl (by rw [hz2]; omega) (by unfold maxLen; omega) (Nat.le_refl _) ?_; intro w2 ho2 hg2)
  have hb2 : Below w.heap.size w w2 := bl_grown (bl_refl w) hg2 (fun k hk => by cases hk)
  have hst : RInv l w (.int .i64 0) w2 := ⟨0, rfl, Nat.zero_le _, hide (by
    have e : (madeCells (Value.agg #[.string ⟨#[]⟩, .string ⟨#[]⟩]).cells (l.length * 2)).toList = flatR (fillR l 0) := by
      have := made_flatR l.length
      unfold fillR
      simpa [Value.cells] using this
    rw [← e]; exact ho2), hide hb2, (World.ownsRow.lt ho2 _ rfl).2⟩
  have HST0 := hide hst
  clear hst ho2 hg2 hb2
  go_wp2
  go_loopw [16] (fun i wr => RInv l w i wr) (fun i _ => l.length - (intOf i).toNat)
  case atStart => exact HST0.out
  case round =>
    obtain ⟨k, rfl, hk, HROW, HBL, hlt1⟩ := hrel
    by_cases hlt : k < l.length
    · obtain ⟨b1, o1, c1', hv1, hc1, hm1, hlb1, hcell1⟩ := rwat_some (rwat_below H.out HBL.out) (by omega)
      injection hv1 with hv1 _ hv1c
      subst hv1 hv1c
      unfold maxLen at hm1
      obtain ⟨x1, x2⟩ := hcell1 k hlt
      have hfl := fillR_len l k hk
      have hsu := fillR_succ l k hlt
      clear hcell1
      generalize l[k] = s at *
      obtain ⟨s1, s2⟩ := s
      have HSU := hide hsu
      have z1 : wr.cell? ⟨w.heap.size, k * 2, none⟩ = some (.string (fillR l k)[k].1) := by rw [World.ownsRow.cellAt HROW.out (k * 2) (by omega)]; exact (flatR_at _ k (by omega)).1
      have z2 : wr.cell? ⟨w.heap.size, k * 2 + 1, none⟩ = some (.string (fillR l k)[k].2) := by rw [World.ownsRow.cellAt HROW.out (k * 2 + 1) (by omega)]; exact (flatR_at _ k (by omega)).2
      generalize (fillR l k)[k].1 = q1 at z1
      generalize (fillR l k)[k].2 = q2 at z2
      have HFL := hide hfl
      clear hfl hsu
      have gl : decide (k < l.length) = true := decide_eq_true hlt
      have gl' : decide ((k : Int) < (l.length : Int)) = true := decide_eq_true (by omega)
      have e5 : IntKind.i64.wrap ((k : Int) + 1) = (k : Int) + 1 := by rw [IntKind.wrap_i64]; omega
      have hfin := fun W (hh : Below wr.heap.size wr W) => own_putR (own_below HROW.out hh) k (by rw [HFL.out]; exact hlt) (s1, s2)
      rw [HSU.out] at hfin
      have HFIN := hide hfin
      have HFZ := hide (fun W (hh : Below wr.heap.size wr W) => World.ownsRow.frozenAt (own_below HROW.out hh))
      have HC := hide (fun W => idrow_any s1 s2 W)
      clear hfin HSU
      go_wp2_with fail
      refine (HC.out _).mono ?_
      rintro e w2 ⟨rfl, hb2⟩
      have hba := bl_trans (bl_alloc (bl_refl wr) _) hb2
      have y1 := cell_later hba z1
      have y2 := cell_later hba z2
      have va3 := HFZ.out _ hba (k * 2)
      have va4 := HFZ.out _ hba (k * 2 + 1)
      have HBB := hide hba
      have hsz := hba.size
      clear hba hb2 x1 x2 z1 z2
      go_wp2
      refine ⟨?_, by first | (simp [intOf]; done) | (simp [intOf]; omega)⟩
      refine ⟨k + 1, by go_num, by omega, hide ?_, hide ?_, ?_⟩
      · exact HFIN.out _ HBB.out
      · exact bl_set (bl_set (bl_trans HBL.out HBB.out) (Nat.le_refl _) _) (Nat.le_refl _) _
      · simp [World.setCell]; omega
    · obtain rfl : k = l.length := by omega
      have ho := own_base HROW.out (Nat.le_refl _)
      rw [fillR_all] at ho
      have HO := hide (own_rwat ho)
      have gl : decide (l.length < l.length) = false := by simp
      have gl' : decide ((l.length : Int) < (l.length : Int)) = false := by simp
      clear ho
      go_wp2
      go_ret
      exact ⟨_, rfl, HBL.out, HO.out, fun x len c h => by cases h; exact Nat.le_refl _⟩
theorem listrows_any (v : Value) (l : List Rw) (w : World) (h : RwAt w v l) (hl : l.length ≤ 100000) :
    Calls Tryz.prog 47 #[v] w (RwPost w l) := by
  have HC := hide (eachrows_any v l w h hl)
  clear h hl
  unfold RwPost at *
  go_enter Tryz.func47, Tryz.ntmps47
  go_wp2_with fail
  refine HC.out.mono ?_
  rintro e w2 ⟨v', rfl, hb2, hr, hf⟩
  have HB := hide hb2
  have HR := hide (And.intro hr hf)
  clear hb2 hr hf
  go_wp2
  go_ret
  exact ⟨_, rfl, HB.out, HR.out⟩
end Go.Proofs.YtcnliipkfccohabGreat
end
section
namespace Go.Proofs.YtcnliipkfccohabGreat
open Go.ChangeShapes Go.WideShapes Go.ChangeAt Go.RowKit
open SetM
attribute [local go_sem ↓] Go.wp_at_zero Go.wp_at_succ
set_option maxRecDepth 100000
set_option linter.unusedVariables false
mutual
  def er : Rt → Rt
    | .mk k ch nt _ rows mi ma lz _ l => .mk k ch nt (.slice none 0 0) rows mi ma lz (.slice none 0 0) (erL l)
  def erL : List Rt → List Rt
    | [] => []
    | t :: l => er t :: erL l
end
theorem erL_map (l : List Rt) : erL l = l.map er := by
  induction l with
  | nil => rfl
  | cons a l ih => rw [erL, ih]; rfl
theorem er_eq (t : Rt) : er t = .mk t.k t.ch t.nt (.slice none 0 0) t.rows t.mi t.ma t.lz (.slice none 0 0) (t.kids.map er) := by
  cases t; rw [er, erL_map]; rfl
inductive Fr (n : Nat) : Rt → Prop
  | mk (t : Rt) (hr : FrV n t.rv) (hk : FrV n t.kv) (hs : ∀ x ∈ t.kids, Fr n x) : Fr n t
theorem Fr.mono {n m : Nat} {t : Rt} (h : Fr m t) (hm : n ≤ m) : Fr n t := by
  induction h with
  | mk t hr hk hs ih => exact .mk t (fun x len c e => Nat.le_trans hm (hr x len c e)) (fun x len c e => Nat.le_trans hm (hk x len c e)) ih
theorem FrV.mono {n m : Nat} {v : Value} (h : FrV m v) (hm : n ≤ m) : FrV n v := fun x len c e => Nat.le_trans hm (h x len c e)
def Kept (n : Nat) (w w' : World) : Prop := ∀ (p : Addr) (v : Value), n ≤ p.block → w.cell? p = some v → w'.cell? p = some v
theorem addr_blk (x : Addr) (j : Nat) : (x.add j).block = x.block := by unfold Addr.add; split <;> rfl
theorem rwat_kept {n : Nat} {w w' : World} {v : Value} {l : List Rw} (h : RwAt w v l) (hf : FrV n v) (hw : Kept n w w') : RwAt w' v l := by
  rcases h with h | ⟨x, c, rfl, h1, h2, h3⟩
  · exact .inl h
  · have hx := hf x _ _ rfl
    exact .inr ⟨x, c, rfl, h1, h2, fun i hi => ⟨hw _ _ (by rw [addr_blk]; exact hx) (h3 i hi).1, hw _ _ (by rw [addr_blk]; exact hx) (h3 i hi).2⟩⟩
theorem ksat_kept {n : Nat} {w w' : World} {v : Value} {l : List Rt} (h : KsAt w v l) (hf : FrV n v) (hw : Kept n w w') : KsAt w' v l := by
  rcases h with h | ⟨x, c, rfl, h1, h2, h3⟩
  · exact .inl h
  · have hx := hf x _ _ rfl
    exact .inr ⟨x, c, rfl, h1, h2, fun i hi j u hu => hw _ _ (by rw [addr_blk]; exact hx) (h3 i hi j u hu)⟩
theorem rx_kept {n : Nat} {w w' : World} {t : Rt} (h : RxAt w t) (hf : Fr n t) (hw : Kept n w w') : RxAt w' t := by
  induction h with
  | mk t hr hk hs ih =>
    obtain ⟨_, f1, f2, f3⟩ := hf
    exact .mk t (rwat_kept hr f1 hw) (ksat_kept hk f2 hw) (fun i hi => ih i hi (f3 _ (List.getElem_mem hi)))
theorem kept_set (w : World) {n : Nat} {p : Addr} (hp : p.block < n) (u : Value) : Kept n w (w.setCell p u) := by
  intro q v hq hc
  rw [World.cell?_of_block (w := w)]
  · exact hc
  · exact Below.heap_setCell w p u _ (by omega)
theorem kept_trans {n : Nat} {a b c : World} (h : Kept n a b) (g : Kept n b c) : Kept n a c := fun p v hp hc => g p v hp (h p v hp hc)
theorem kept_below {n : Nat} {a b : World} (h : Below a.heap.size a b) : Kept n a b := fun p v _ hc => cell_later h hc
def flatX (l : List Rt) : List Value := l.flatMap Rt.cs
theorem flatX_len (l : List Rt) : (flatX l).length = l.length * 8 := by
  induction l with
  | nil => rfl
  | cons a r ih => simp only [flatX, List.flatMap_cons, List.length_append, List.length_cons] at *; simp only [Rt.cs, List.length_cons, List.length_nil]; omega
theorem flatX_at (l : List Rt) (i : Nat) (h : i < l.length) (j : Nat) (u : Value) (hu : (l[i].cs)[j]? = some u) : (flatX l)[i * 8 + j]? = some u := by
  induction l generalizing i with
  | nil => simp at h
  | cons a r ih =>
    have e : flatX (a :: r) = a.cs ++ flatX r := rfl
    have hl : a.cs.length = 8 := rfl
    cases i with
    | zero =>
      rw [e, List.getElem?_append_left (by have := (List.getElem?_eq_some_iff.1 hu).1; simp only [List.getElem_cons_zero] at this; omega)]
      simpa using hu
    | succ i =>
      rw [e, List.getElem?_append_right (by omega), hl, show (i + 1) * 8 + j - 8 = i * 8 + j by omega]
      exact ih i (by simpa using h) (by simpa using hu)
theorem flatX_set8 (l : List Rt) (i : Nat) (h : i < l.length) (t : Rt) : ((((((((flatX l).set (i * 8) (.int .i64 t.k)).set (i * 8 + 1) (.string t.ch)).set (i * 8 + 2) (.bool t.nt)).set (i * 8 + 3) t.rv).set (i * 8 + 4) (.int .i64 t.mi)).set (i * 8 + 5) (.int .i64 t.ma)).set (i * 8 + 6) (.bool t.lz)).set (i * 8 + 7) t.kv = flatX (l.set i t) := by
  induction l generalizing i with
  | nil => simp at h
  | cons a r ih =>
    cases i with
    | zero => rfl
    | succ i =>
      have e : ∀ (b : Rt) (q : List Rt), flatX (b :: q) = .int .i64 b.k :: .string b.ch :: .bool b.nt :: b.rv :: .int .i64 b.mi :: .int .i64 b.ma :: .bool b.lz :: b.kv :: flatX q := fun _ _ => rfl
      have h1 : (i + 1) * 8 = i * 8 + 1 + 1 + 1 + 1 + 1 + 1 + 1 + 1 := by omega
      have h2 : ∀ m, i * 8 + 1 + 1 + 1 + 1 + 1 + 1 + 1 + 1 + m = i * 8 + m + 1 + 1 + 1 + 1 + 1 + 1 + 1 + 1 := by intro m; omega
      rw [e, h1]
      simp only [h2, List.set_cons_succ]
      rw [ih i (by simpa using h), e]
theorem own_putX {w : World} {base g n c : Nat} {l : List Rt} (h : w.ownsRow base 25 8 (.slice (some ⟨g, 0, none⟩) n c) n (flatX l)) (i : Nat) (hi : i < l.length) (t : Rt) :
    ((((((((w.setCell ⟨g, i * 8, none⟩ (.int .i64 t.k)).setCell ⟨g, i * 8 + 1, none⟩ (.string t.ch)).setCell ⟨g, i * 8 + 2, none⟩ (.bool t.nt)).setCell ⟨g, i * 8 + 3, none⟩ t.rv).setCell ⟨g, i * 8 + 4, none⟩ (.int .i64 t.mi)).setCell ⟨g, i * 8 + 5, none⟩ (.int .i64 t.ma)).setCell ⟨g, i * 8 + 6, none⟩ (.bool t.lz)).setCell ⟨g, i * 8 + 7, none⟩ t.kv).ownsRow base 25 8 (.slice (some ⟨g, 0, none⟩) n c) n (flatX (l.set i t)) := by
  have h1 := (World.ownsRow.stored h (i * 8) (.int .i64 t.k)).1
  have h2 := (World.ownsRow.stored h1 (i * 8 + 1) (.string t.ch)).1
  have h3 := (World.ownsRow.stored h2 (i * 8 + 2) (.bool t.nt)).1
  have h4 := (World.ownsRow.stored h3 (i * 8 + 3) t.rv).1
  have h5 := (World.ownsRow.stored h4 (i * 8 + 4) (.int .i64 t.mi)).1
  have h6 := (World.ownsRow.stored h5 (i * 8 + 5) (.int .i64 t.ma)).1
  have h7 := (World.ownsRow.stored h6 (i * 8 + 6) (.bool t.lz)).1
  have h8 := (World.ownsRow.stored h7 (i * 8 + 7) t.kv).1
  rw [flatX_set8 l i hi t] at h8
  exact h8
theorem own_ksat {w : World} {base : Nat} {v : Value} {l : List Rt} (h : w.ownsRow base 25 8 v l.length (flatX l)) : KsAt w v l := by
  rcases own_form h with ⟨rfl, h1, h2⟩ | ⟨g, c, rfl, h1, h2, h3, h4, h5⟩
  · exact .inl ⟨rfl, List.eq_nil_of_length_eq_zero h1⟩
  · refine .inr ⟨_, c, rfl, h3, h4, fun i hi j u hu => ?_⟩
    rw [addr_add]
    simp only [Nat.zero_add]
    exact h5 _ _ (flatX_at l i hi j u hu)
def rt0 : Rt := .mk 0 ⟨#[]⟩ false (.slice none 0 0) [] 0 0 false (.slice none 0 0) []
theorem info_rx : (Tryz.prog.info? 25).map (fun i => (i.zero, i.size, i.bytes)) = some (some rt0.v, 8, 104) := by kernel_rfl
theorem made_flatX (n : Nat) : (madeCells rt0.cs.toArray (n * 8)).toList = flatX (List.replicate n rt0) := by
  apply List.ext_getElem
  · rw [flatX_len]; simp [madeCells]
  · intro i h1 h2
    have hi : i < n * 8 := by simpa [madeCells] using h1
    have hl : rt0.cs.length = 8 := rfl
    have hj : i % 8 < rt0.cs.length := by omega
    have hf := flatX_at (List.replicate n rt0) (i / 8) (by simp; omega) (i % 8) rt0.cs[i % 8] (by simp)
    have ht : i / 8 * 8 + i % 8 = i := by omega
    rw [ht, List.getElem?_eq_getElem h2] at hf
    rw [Option.some.inj hf]
    simp only [madeCells, Array.toList_map, Array.toList_range, List.getElem_map, List.getElem_range]
    simp [hl]
    rw [List.getElem?_eq_getElem hj]
    rfl
end Go.Proofs.YtcnliipkfccohabGreat
end
section
namespace Go.Proofs.YtcnliipkfccohabGreat
open Go.ChangeShapes Go.WideShapes Go.ChangeAt Go.RowKit
open SetM
attribute [local go_sem ↓] Go.wp_at_zero Go.wp_at_succ
set_option maxRecDepth 100000
set_option linter.unusedVariables false
def DpPost (t : Rt) (w : World) : Ending → World → Prop := fun e w' => ∃ t', e = .returned t'.v ∧ Below w.heap.size w w' ∧ RxAt w' t' ∧ Fr w.heap.size t' ∧ er t' = er t
def EpPost (l : List Rt) (w : World) : Ending → World → Prop := fun e w' => ∃ v' L, e = .returned v' ∧ Below w.heap.size w w' ∧ KsAt w' v' L ∧ FrV w.heap.size v' ∧ (∀ x ∈ L, RxAt w' x) ∧ (∀ x ∈ L, Fr w.heap.size x) ∧ L.map er = l.map er
def EInv (l : List Rt) (w1 : World) (i : Value) (wr : World) : Prop :=
  ∃ (k : Nat) (L : List Rt), i = .int .i64 k ∧ k ≤ l.length ∧ L.length = l.length ∧ Hid (wr.ownsRow w1.heap.size 25 8 (.slice (some ⟨w1.heap.size, 0, none⟩) l.length l.length) l.length (flatX L)) ∧ Hid (Below w1.heap.size w1 wr) ∧ w1.heap.size < wr.heap.size ∧ Hid (∀ i (h : i < k) (h1 : i < L.length) (h2 : i < l.length), er L[i] = er l[i] ∧ RxAt wr L[i] ∧ Fr (w1.heap.size + 1) L[i])
theorem kept8 (w : World) {n g : Nat} (hg : g < n) (o0 : Nat) (u0 : Value) (o1 : Nat) (u1 : Value) (o2 : Nat) (u2 : Value) (o3 : Nat) (u3 : Value) (o4 : Nat) (u4 : Value) (o5 : Nat) (u5 : Value) (o6 : Nat) (u6 : Value) (o7 : Nat) (u7 : Value) : Kept n w ((((((((w.setCell ⟨g, o0, none⟩ u0).setCell ⟨g, o1, none⟩ u1).setCell ⟨g, o2, none⟩ u2).setCell ⟨g, o3, none⟩ u3).setCell ⟨g, o4, none⟩ u4).setCell ⟨g, o5, none⟩ u5).setCell ⟨g, o6, none⟩ u6).setCell ⟨g, o7, none⟩ u7) :=
  kept_trans (kept_trans (kept_trans (kept_trans (kept_trans (kept_trans (kept_trans (kept_set _ hg _) (kept_set _ hg _)) (kept_set _ hg _)) (kept_set _ hg _)) (kept_set _ hg _)) (kept_set _ hg _)) (kept_set _ hg _)) (kept_set _ hg _)
theorem bl8 {a w : World} {g : Nat} (h : Below a.heap.size a w) (hg : a.heap.size ≤ g) (o0 : Nat) (u0 : Value) (o1 : Nat) (u1 : Value) (o2 : Nat) (u2 : Value) (o3 : Nat) (u3 : Value) (o4 : Nat) (u4 : Value) (o5 : Nat) (u5 : Value) (o6 : Nat) (u6 : Value) (o7 : Nat) (u7 : Value) : Below a.heap.size a ((((((((w.setCell ⟨g, o0, none⟩ u0).setCell ⟨g, o1, none⟩ u1).setCell ⟨g, o2, none⟩ u2).setCell ⟨g, o3, none⟩ u3).setCell ⟨g, o4, none⟩ u4).setCell ⟨g, o5, none⟩ u5).setCell ⟨g, o6, none⟩ u6).setCell ⟨g, o7, none⟩ u7) :=
  bl_set (bl_set (bl_set (bl_set (bl_set (bl_set (bl_set (bl_set h hg _) hg _) hg _) hg _) hg _) hg _) hg _) hg _
set_option maxHeartbeats 16000000 in
theorem eachrx_any (v : Value) (l : List Rt) (w0 : World) (h : KsAt w0 v l) (hx : ∀ i (hi : i < l.length), RxAt w0 l[i]) (hl : l.length ≤ 100000)
    (HF : ∀ i (hi : i < l.length) W, Below w0.heap.size w0 W → Calls Tryz.prog 28 #[l[i].v] W (DpPost l[i] W)) (w : World) (hb0 : Below w0.heap.size w0 w) :
    Calls Tryz.prog 48 #[v, .func (.func 28) #[] #[]] w (EpPost l w) := by
  obtain ⟨i0, hi0, hz0', hz1, hz2⟩ := info_parts info_rx
  obtain ⟨vA, vc, rfl⟩ := ksat_len h
  have H := hide h
  have HB0 := hide hb0
  have HX := hide hx
  have HF2 := hide HF
  unfold EpPost
  by_cases hpos : 0 < l.length
  case neg =>
    have hl0 : l = [] := List.eq_nil_of_length_eq_zero (by omega)
    subst hl0
    clear h hl H hx HF HX HF2 hpos
    simp only [List.length_nil] at *
    go_enter Tryz.func48, Tryz.ntmps48
    go_wp2
    go_ret
    exact ⟨_, [], rfl, bl_refl w, .inl ⟨rfl, rfl⟩, (fun x len c h => by cases h), (fun x hx => by cases hx), (fun x hx => by cases hx), rfl⟩
  clear h hx HF hb0
  have gz : ((l.length : Int) == 0) = false := beq_eq_false_iff_ne.2 (by omega)
  go_enter Tryz.func48, Tryz.ntmps48
  go_wp2_with (refine wpList_make_full _ rfl (.tmp 12) (.tmp 12) 23 rfl w.heap.size 25 i0 rt0.v 8 Tryz.underlying23 hi0 hz0' hz1 .i64 .i64 l.length l.length l.length rfl rfl rfl rfl (by rw [hz2]; omega) (by unfold maxLen; omega) (Nat.le_refl _) ?_; intro w2 ho2 hg2)
  have hb2 : Below w.heap.size w w2 := bl_grown (bl_refl w) hg2 (fun k hk => by cases hk)
  have hst : EInv l w (.int .i64 0) w2 := ⟨0, List.replicate l.length rt0, rfl, Nat.zero_le _, by simp, hide (by
    have e : (madeCells rt0.v.cells (l.length * 8)).toList = flatX (List.replicate l.length rt0) := by
      have := made_flatX l.length
      simpa [Value.cells, Rt.v] using this
    rw [← e]; exact ho2), hide hb2, (World.ownsRow.lt ho2 _ rfl).2, hide (fun i h => absurd h (Nat.not_lt_zero _))⟩
  have HST0 := hide hst
  clear hst ho2 hg2 hb2
  go_wp2
  go_loopw [16] (fun i wr => EInv l w i wr) (fun i _ => l.length - (intOf i).toNat)
  case atStart => exact HST0.out
  case round =>
    obtain ⟨k, L, rfl, hk, hL, HROW, HBL, hlt1, HALL⟩ := hrel
    by_cases hlt : k < l.length
    · have HBW := hide (bl_trans HB0.out HBL.out)
      obtain ⟨b1, o1, c1', hv1, hc1, hm1, hlb1, hcell1⟩ := ksat_8 (ksat_below H.out HBW.out) (by omega)
      injection hv1 with hv1 _ hv1c
      subst hv1 hv1c
      unfold maxLen at hm1
      obtain ⟨x0, x1, x2, x3, x4, x5, x6, x7⟩ := hcell1 k hlt
      have HC := fun W hb => HF2.out k hlt W hb
      have hxp := HX.out k hlt
      clear hcell1
      have HLK := hide (show ∃ x, x = l[k] from ⟨_, rfl⟩)
      obtain ⟨p, hp⟩ : ∃ p, l[k] = p := ⟨_, rfl⟩
      rw [hp] at x0 x1 x2 x3 x4 x5 x6 x7 HC hxp
      obtain ⟨pA, pc, hprv⟩ := rwat_len hxp.rows
      obtain ⟨pB, pd, hpkv⟩ := ksat_len hxp.ks
      unfold DpPost at HC
      rw [show p.v = .agg #[.int .i64 p.k, .string p.ch, .bool p.nt, .slice pA p.rows.length pc, .int .i64 p.mi, .int .i64 p.ma, .bool p.lz, .slice pB p.kids.length pd] by unfold Rt.v Rt.cs; rw [hprv, hpkv]] at HC
      rw [hprv] at x3
      rw [hpkv] at x7
      have HP := hide hp
      clear hxp hprv hpkv hp HLK
      have hLk : k < L.length := by omega
      have zz := fun j u (hu : (L[k].cs)[j]? = some u) => (show wr.cell? ⟨w.heap.size, k * 8 + j, none⟩ = some u by have hj8 : j < 8 := (List.getElem?_eq_some_iff.1 hu).1; rw [World.ownsRow.cellAt HROW.out (k * 8 + j) (by omega)]; exact flatX_at L k hLk j u hu)
      have z0 : wr.cell? ⟨w.heap.size, k * 8, none⟩ = some (.int .i64 L[k].k) := zz 0 _ rfl
      have z1 := zz 1 _ rfl
      have z2 := zz 2 _ rfl
      have z3 := zz 3 _ rfl
      have z4 := zz 4 _ rfl
      have z5 := zz 5 _ rfl
      have z6 := zz 6 _ rfl
      have z7 := zz 7 _ rfl
      clear zz
      generalize L[k] = q at z0 z1 z2 z3 z4 z5 z6 z7
      have HFIN := hide (fun W (hh : Below wr.heap.size wr W) (t' : Rt) => own_putX (own_below HROW.out hh) k hLk t')
      have HFZ := hide (fun W (hh : Below wr.heap.size wr W) => World.ownsRow.frozenAt (own_below HROW.out hh))
      have HC2 := hide HC
      have HLL := hide (And.intro hL hLk)
      have gl : decide (k < l.length) = true := decide_eq_true hlt
      have gl' : decide ((k : Int) < (l.length : Int)) = true := decide_eq_true (by omega)
      have e5 : IntKind.i64.wrap ((k : Int) + 1) = (k : Int) + 1 := by rw [IntKind.wrap_i64]; omega
      clear HC hL hLk
      go_wp2_with fail
      refine (HC2.out _ (bl_trans HBW.out (bl_alloc (bl_refl wr) _))).mono ?_
      rintro e w2 ⟨t', rfl, hb2, hrx, hfr, her⟩
      have hba := bl_trans (bl_alloc (bl_refl wr) _) hb2
      have y0 := cell_later hba z0
      have y1 := cell_later hba z1
      have y2 := cell_later hba z2
      have y3 := cell_later hba z3
      have y4 := cell_later hba z4
      have y5 := cell_later hba z5
      have y6 := cell_later hba z6
      have y7 := cell_later hba z7
      have v0 := HFZ.out _ hba (k * 8)
      have v1 := HFZ.out _ hba (k * 8 + 1)
      have v2 := HFZ.out _ hba (k * 8 + 2)
      have v3 := HFZ.out _ hba (k * 8 + 3)
      have v4 := HFZ.out _ hba (k * 8 + 4)
      have v5 := HFZ.out _ hba (k * 8 + 5)
      have v6 := HFZ.out _ hba (k * 8 + 6)
      have v7 := HFZ.out _ hba (k * 8 + 7)
      obtain ⟨tA, tc, htrv⟩ := rwat_len hrx.rows
      obtain ⟨tB, td, htkv⟩ := ksat_len hrx.ks
      have hfin := HFIN.out _ hba t'
      rw [htrv, htkv] at hfin
      rw [show t'.v = .agg #[.int .i64 t'.k, .string t'.ch, .bool t'.nt, .slice tA t'.rows.length tc, .int .i64 t'.mi, .int .i64 t'.ma, .bool t'.lz, .slice tB t'.kids.length td] by unfold Rt.v Rt.cs; rw [htrv, htkv]]
      have HFN := hide hfin
      have HBB := hide hba
      have HFR := hide (hfr.mono (show w.heap.size + 1 ≤ (wr.alloc _).heap.size by simp; omega))
      have HRX := hide hrx
      have HER := hide her
      have hsz := hba.size
      clear hba hb2 hfin hfr hrx her htrv htkv x0 x1 x2 x3 x4 x5 x6 x7 z0 z1 z2 z3 z4 z5 z6 z7
      go_wp2
      refine ⟨?_, by first | (simp [intOf]; done) | (simp [intOf]; omega)⟩
      refine ⟨k + 1, L.set k t', by go_num, by omega, by simp [HLL.out.1], hide HFN.out, hide ?_, ?_, hide ?_⟩
      · exact bl8 (bl_trans HBL.out HBB.out) (Nat.le_refl _) _ _ _ _ _ _ _ _ _ _ _ _ _ _ _ _
      · simp [World.setCell]; omega
      · intro i h1 h2 h3
        by_cases hik : i = k
        · subst hik
          simp only [List.getElem_set_self]
          exact ⟨HER.out.trans (by rw [HP.out]), rx_kept HRX.out HFR.out (kept8 _ (Nat.lt_succ_self _) _ _ _ _ _ _ _ _ _ _ _ _ _ _ _ _), HFR.out⟩
        · have hik2 : k ≠ i := fun e => hik e.symm
          simp only [List.getElem_set_ne hik2]
          obtain ⟨a1, a2, a3⟩ := HALL.out i (by omega) (by simpa using h2) h3
          exact ⟨a1, rx_kept a2 a3 (kept_trans (kept_below HBB.out) (kept8 _ (Nat.lt_succ_self _) _ _ _ _ _ _ _ _ _ _ _ _ _ _ _ _)), a3⟩
    · obtain rfl : k = l.length := by omega
      have ho := HROW.out
      have HAL := hide (fun i (h1 : i < L.length) => HALL.out i (by omega) h1 (by omega))
      have gl : decide (l.length < l.length) = false := by simp
      have gl' : decide ((l.length : Int) < (l.length : Int)) = false := by simp
      have HKS := hide (show KsAt wr (.slice (some ⟨w.heap.size, 0, none⟩) l.length l.length) L from own_ksat (base := w.heap.size) (by rw [hL]; exact ho))
      clear ho
      go_wp2
      go_ret
      refine ⟨_, L, rfl, HBL.out, HKS.out, (fun x len c h => by cases h; exact Nat.le_refl _), fun x hx => ?_, fun x hx => ?_, ?_⟩
      · obtain ⟨i, hi, rfl⟩ := List.mem_iff_getElem.1 hx
        exact (HAL.out i hi).2.1
      · obtain ⟨i, hi, rfl⟩ := List.mem_iff_getElem.1 hx
        exact (HAL.out i hi).2.2.mono (Nat.le_succ _)
      · apply List.ext_getElem
        · simp [hL]
        · intro i h1 h2
          simp only [List.getElem_map]
          exact (HAL.out i (by simpa using h1)).1
end Go.Proofs.YtcnliipkfccohabGreat
end
section
namespace Go.Proofs.YtcnliipkfccohabGreat
open Go.ChangeShapes Go.WideShapes Go.ChangeAt Go.RowKit
open SetM
attribute [local go_sem ↓] Go.wp_at_zero Go.wp_at_succ
set_option maxRecDepth 100000
set_option linter.unusedVariables false
theorem sM_pos (t : Rt) : 1 ≤ sM t := by rw [sM_eq]; omega
theorem sL_len (l : List Rt) : l.length ≤ sL l := by
  induction l with
  | nil => simp
  | cons a l ih => rw [sL, List.length_cons]; have := sM_pos a; omega
set_option maxHeartbeats 16000000 in
theorem deeprx_any {w0 : World} {t : Rt} (h : RxAt w0 t) : sM t ≤ 100000 → ∀ w, Below w0.heap.size w0 w → Calls Tryz.prog 28 #[t.v] w (DpPost t w) := by
  induction h with
  | mk t hr hk hs ih =>
    intro hz w hb0
    have hM := sM_eq t
    have hl1 := rwS_len t.rows
    have hl2 := sL_len t.kids
    have HRC := hide (fun W (hb : Below w0.heap.size w0 W) => listrows_any _ _ W (rwat_below hr hb) (by omega))
    have HKC := hide (fun W (hb : Below w0.heap.size w0 W) => eachrx_any _ _ w0 hk hs (by omega) (fun i hi W2 hb2 => ih i hi (by have := sL_kid t.kids i hi; omega) W2 hb2) W hb)
    have HB0 := hide hb0
    have HBO := hide (fun o1 o2 => bl_alloc (bl_alloc (bl_refl w) o1) o2)
    have hsz0 := hb0.size
    obtain ⟨A, c, hkv⟩ := ksat_len hk
    obtain ⟨RA, rc, hrv⟩ := rwat_len hr
    rw [hkv] at HKC
    rw [hrv] at HRC
    unfold DpPost
    unfold RwPost at HRC
    unfold EpPost at HKC
    rw [show t.v = .agg #[.int .i64 t.k, .string t.ch, .bool t.nt, .slice RA t.rows.length rc, .int .i64 t.mi, .int .i64 t.ma, .bool t.lz, .slice A t.kids.length c] by unfold Rt.v Rt.cs; rw [hkv, hrv]]
    have FJ := hide (fun o2 j u (hu : (#[Value.int .i64 t.k, .string t.ch, .bool t.nt, .slice RA t.rows.length rc, .int .i64 t.mi, .int .i64 t.ma, .bool t.lz, .slice A t.kids.length c] : Array Value).toList[j]? = some u) => cell_later (bl_alloc (bl_refl _) o2) (cells_lit w _ 25 j u hu))
    clear hr hk hs ih hb0 hz hM hl1 hl2 hkv hrv
    go_enter Tryz.func28, Tryz.ntmps28
    go_wp2_with fail
    refine (HRC.out _ (bl_trans HB0.out (HBO.out _ _))).mono ?_
    rintro e w2 ⟨rv', rfl, hb2, hrw, hfv⟩
    obtain ⟨nA, nc, rfl⟩ := rwat_len hrw
    have c0 : w2.cell? ⟨w.heap.size, 0, none⟩ = some (.int .i64 t.k) := cell_later hb2 (FJ.out _ 0 _ rfl)
    have c1 : w2.cell? ⟨w.heap.size, 1, none⟩ = some (.string t.ch) := cell_later hb2 (FJ.out _ 1 _ rfl)
    have c2 : w2.cell? ⟨w.heap.size, 2, none⟩ = some (.bool t.nt) := cell_later hb2 (FJ.out _ 2 _ rfl)
    have c3 : w2.cell? ⟨w.heap.size, 3, none⟩ = some (.slice RA t.rows.length rc) := cell_later hb2 (FJ.out _ 3 _ rfl)
    have c4 : w2.cell? ⟨w.heap.size, 4, none⟩ = some (.int .i64 t.mi) := cell_later hb2 (FJ.out _ 4 _ rfl)
    have c5 : w2.cell? ⟨w.heap.size, 5, none⟩ = some (.int .i64 t.ma) := cell_later hb2 (FJ.out _ 5 _ rfl)
    have c6 : w2.cell? ⟨w.heap.size, 6, none⟩ = some (.bool t.lz) := cell_later hb2 (FJ.out _ 6 _ rfl)
    have c7 : w2.cell? ⟨w.heap.size, 7, none⟩ = some (.slice A t.kids.length c) := cell_later hb2 (FJ.out _ 7 _ rfl)
    have z0 : w2.cell? ⟨w.heap.size + 1, 0, none⟩ = some (.int .i64 0) := cell_later hb2 (cells_lit2 _ _ _ 0 _ rfl (by simp))
    have z1 : w2.cell? ⟨w.heap.size + 1, 1, none⟩ = some (.string ⟨#[]⟩) := cell_later hb2 (cells_lit2 _ _ _ 1 _ rfl (by simp))
    have z2 : w2.cell? ⟨w.heap.size + 1, 2, none⟩ = some (.bool false) := cell_later hb2 (cells_lit2 _ _ _ 2 _ rfl (by simp))
    have z3 : w2.cell? ⟨w.heap.size + 1, 3, none⟩ = some (.slice none 0 0) := cell_later hb2 (cells_lit2 _ _ _ 3 _ rfl (by simp))
    have z4 : w2.cell? ⟨w.heap.size + 1, 4, none⟩ = some (.int .i64 0) := cell_later hb2 (cells_lit2 _ _ _ 4 _ rfl (by simp))
    have z5 : w2.cell? ⟨w.heap.size + 1, 5, none⟩ = some (.int .i64 0) := cell_later hb2 (cells_lit2 _ _ _ 5 _ rfl (by simp))
    have z6 : w2.cell? ⟨w.heap.size + 1, 6, none⟩ = some (.bool false) := cell_later hb2 (cells_lit2 _ _ _ 6 _ rfl (by simp))
    have z7 : w2.cell? ⟨w.heap.size + 1, 7, none⟩ = some (.slice none 0 0) := cell_later hb2 (cells_lit2 _ _ _ 7 _ rfl (by simp))
    have hf1 : ∀ o, w2.frozen? ⟨w.heap.size, o, none⟩ = false := fun o => (hb2.frozen (p := ⟨w.heap.size, o, none⟩) (by simp; omega)).trans (by go_simp)
    have hf2 : ∀ o, w2.frozen? ⟨w.heap.size + 1, o, none⟩ = false := fun o => (hb2.frozen (p := ⟨w.heap.size + 1, o, none⟩) (by simp)).trans (by go_simp)
    have HB2 := hide (bl_trans (HBO.out _ _) hb2)
    have HRW := hide hrw
    have HFV := hide (hfv.mono (show w.heap.size + 2 ≤ _ by simp))
    have hs2 : w.heap.size + 1 < w2.heap.size := by have := hb2.size; simp at this; omega
    clear hb2 hrw hfv FJ HRC
    go_wp2_with fail
    have HBS := hide (show Below w.heap.size w (w2.setCell ⟨w.heap.size, 3, none⟩ (.slice nA t.rows.length nc)) from bl_set HB2.out (Nat.le_refl _) _)
    refine (HKC.out _ (bl_trans HB0.out HBS.out)).mono ?_
    rintro e w3 ⟨kv', L, rfl, hb3, hks, hfk, hrl, hfl, hel⟩
    obtain ⟨kA, kc, rfl⟩ := ksat_len hks
    have d0 : w3.cell? ⟨w.heap.size, 0, none⟩ = some (.int .i64 t.k) := cell_later hb3 (by go_simp)
    have d1 : w3.cell? ⟨w.heap.size, 1, none⟩ = some (.string t.ch) := cell_later hb3 (by go_simp)
    have d2 : w3.cell? ⟨w.heap.size, 2, none⟩ = some (.bool t.nt) := cell_later hb3 (by go_simp)
    have d3 : w3.cell? ⟨w.heap.size, 3, none⟩ = some (.slice nA t.rows.length nc) := cell_later hb3 (by go_simp)
    have d4 : w3.cell? ⟨w.heap.size, 4, none⟩ = some (.int .i64 t.mi) := cell_later hb3 (by go_simp)
    have d5 : w3.cell? ⟨w.heap.size, 5, none⟩ = some (.int .i64 t.ma) := cell_later hb3 (by go_simp)
    have d6 : w3.cell? ⟨w.heap.size, 6, none⟩ = some (.bool t.lz) := cell_later hb3 (by go_simp)
    have d7 : w3.cell? ⟨w.heap.size, 7, none⟩ = some (.slice A t.kids.length c) := cell_later hb3 (by go_simp)
    have y0 : w3.cell? ⟨w.heap.size + 1, 0, none⟩ = some (.int .i64 0) := cell_later hb3 (by go_simp)
    have y1 : w3.cell? ⟨w.heap.size + 1, 1, none⟩ = some (.string ⟨#[]⟩) := cell_later hb3 (by go_simp)
    have y2 : w3.cell? ⟨w.heap.size + 1, 2, none⟩ = some (.bool false) := cell_later hb3 (by go_simp)
    have y3 : w3.cell? ⟨w.heap.size + 1, 3, none⟩ = some (.slice none 0 0) := cell_later hb3 (by go_simp)
    have y4 : w3.cell? ⟨w.heap.size + 1, 4, none⟩ = some (.int .i64 0) := cell_later hb3 (by go_simp)
    have y5 : w3.cell? ⟨w.heap.size + 1, 5, none⟩ = some (.int .i64 0) := cell_later hb3 (by go_simp)
    have y6 : w3.cell? ⟨w.heap.size + 1, 6, none⟩ = some (.bool false) := cell_later hb3 (by go_simp)
    have y7 : w3.cell? ⟨w.heap.size + 1, 7, none⟩ = some (.slice none 0 0) := cell_later hb3 (by go_simp)
    have g1 : ∀ o, w3.frozen? ⟨w.heap.size, o, none⟩ = false := fun o => (hb3.frozen (p := ⟨w.heap.size, o, none⟩) (by simp [World.setCell]; omega)).trans (by go_simp)
    have g2 : ∀ o, w3.frozen? ⟨w.heap.size + 1, o, none⟩ = false := fun o => (hb3.frozen (p := ⟨w.heap.size + 1, o, none⟩) (by simp [World.setCell]; omega)).trans (by go_simp)
    have HB3 := hide (bl_trans HBS.out hb3)
    have hsz3 : w.heap.size + 2 ≤ (w2.setCell ⟨w.heap.size, 3, none⟩ (.slice nA t.rows.length nc)).heap.size := by simp [World.setCell]; omega
    have HRW3 := hide (show RwAt w3 (.slice nA t.rows.length nc) t.rows from rwat_kept HRW.out HFV.out (kept_trans (kept_set w2 (show w.heap.size < w.heap.size + 2 by omega) _) (kept_below hb3)))
    have HKS := hide hks
    have HFK := hide (hfk.mono hsz3)
    have HRL := hide hrl
    have HFL := hide (fun x hx => (hfl x hx).mono hsz3)
    have HEL := hide hel
    clear hb3 hks hfk hrl hfl hel hsz3 hf1 hf2 c0 c1 c2 c3 c4 c5 c6 c7 z0 z1 z2 z3 z4 z5 z6 z7 HKC HRW
    go_wp2
    refine bodyPost_ret (v := .agg #[.int .i64 t.k, .string t.ch, .bool t.nt, .slice nA t.rows.length nc, .int .i64 t.mi, .int .i64 t.ma, .bool t.lz, .slice kA L.length kc]) ?_ rfl ⟨Rt.mk t.k t.ch t.nt (.slice nA t.rows.length nc) t.rows t.mi t.ma t.lz (.slice kA L.length kc) L, rfl, ?_, ?_, ?_, ?_⟩
    · rw [results_cell1 rfl]
      go_simp
    · exact bl8 (bl_set HB3.out (Nat.le_refl _) _) (Nat.le_succ _) _ _ _ _ _ _ _ _ _ _ _ _ _ _ _ _
    · have hkp := fun o0 u0 o1 u1 o2 u2 o3 u3 o4 u4 o5 u5 o6 u6 o7 u7 uu => kept_trans (kept_set w3 (p := ⟨w.heap.size, 7, none⟩) (n := w.heap.size + 2) (show w.heap.size < w.heap.size + 2 by omega) uu) (kept8 _ (show w.heap.size + 1 < w.heap.size + 2 by omega) o0 u0 o1 u1 o2 u2 o3 u3 o4 u4 o5 u5 o6 u6 o7 u7)
      exact .mk _ (rwat_kept HRW3.out HFV.out (hkp _ _ _ _ _ _ _ _ _ _ _ _ _ _ _ _ _)) (ksat_kept HKS.out HFK.out (hkp _ _ _ _ _ _ _ _ _ _ _ _ _ _ _ _ _)) (fun i hi => rx_kept (HRL.out _ (List.getElem_mem hi)) (HFL.out _ (List.getElem_mem hi)) (hkp _ _ _ _ _ _ _ _ _ _ _ _ _ _ _ _ _))
    · exact .mk _ (HFV.out.mono (by omega)) (HFK.out.mono (by omega)) (fun x hx => (HFL.out x hx).mono (by omega))
    · rw [er_eq t, er_eq]
      show Rt.mk _ _ _ _ _ _ _ _ _ (L.map er) = _
      rw [HEL.out]
      rfl
end Go.Proofs.YtcnliipkfccohabGreat
end
section
namespace Go.Proofs.YtcnliipkfccohabGreat
open Go.ChangeShapes Go.WideShapes Go.ChangeAt Go.RowKit
open SetM
set_option linter.unusedVariables false
def OffV (g : Nat) (v : Value) : Prop := ∀ x len c, v = .slice (some x) len c → 0 < len → x.block ≠ g
inductive Off (g : Nat) : Rt → Prop
  | mk (t : Rt) (hr : OffV g t.rv) (hk : OffV g t.kv) (hs : ∀ x ∈ t.kids, Off g x) : Off g t
theorem off_fr {n g : Nat} {t : Rt} (h : Fr n t) (hg : g < n) : Off g t := by
  induction h with
  | mk t hr hk hs ih => exact .mk t (fun x len c e _ => by have := hr x len c e; omega) (fun x len c e _ => by have := hk x len c e; omega) ih
theorem off_new {w : World} {g : Nat} {t : Rt} (h : RxAt w t) (hg : w.heap.size ≤ g) : Off g t := by
  induction h with
  | mk t hr hk hs ih =>
    refine .mk t (fun x len c e hp => ?_) (fun x len c e hp => ?_) (fun x hx => ?_)
    · obtain ⟨A, c', hv⟩ := rwat_len hr
      rw [e] at hv
      injection hv with _ hl _
      obtain ⟨b, off, c2, hv2, _, _, hlt, _⟩ := rwat_some hr (by omega)
      rw [e] at hv2
      injection hv2 with hx _ _
      injection hx with hx
      subst hx
      show b ≠ g
      omega
    · obtain ⟨A, c', hv⟩ := ksat_len hk
      rw [e] at hv
      injection hv with _ hl _
      obtain ⟨b, off, c2, hv2, _, _, hlt, _⟩ := ksat_some hk (by omega)
      rw [e] at hv2
      injection hv2 with hx _ _
      injection hx with hx
      subst hx
      show b ≠ g
      omega
    · obtain ⟨i, hi, rfl⟩ := List.mem_iff_getElem.1 hx
      exact ih i hi
theorem cell_off {w w' : World} {g : Nat} (hw : w.grownBy w' (some g)) {p : Addr} {v : Value} (hp : p.block ≠ g) (hc : w.cell? p = some v) : w'.cell? p = some v := by
  rw [World.cell?_of_block (w := w) (hw.block p.block (World.block_lt_of_cell? w p hc) (fun e => hp (by cases e; rfl)))]
  exact hc
theorem rwat_off {w w' : World} {g : Nat} {v : Value} {l : List Rw} (h : RwAt w v l) (hf : OffV g v) (hw : w.grownBy w' (some g)) : RwAt w' v l := by
  rcases h with h | ⟨x, c, rfl, h1, h2, h3⟩
  · exact .inl h
  · refine .inr ⟨x, c, rfl, h1, h2, fun i hi => ?_⟩
    have hx := hf x _ _ rfl (by omega)
    exact ⟨cell_off hw (by rw [addr_blk]; exact hx) (h3 i hi).1, cell_off hw (by rw [addr_blk]; exact hx) (h3 i hi).2⟩
theorem ksat_off {w w' : World} {g : Nat} {v : Value} {l : List Rt} (h : KsAt w v l) (hf : OffV g v) (hw : w.grownBy w' (some g)) : KsAt w' v l := by
  rcases h with h | ⟨x, c, rfl, h1, h2, h3⟩
  · exact .inl h
  · refine .inr ⟨x, c, rfl, h1, h2, fun i hi j u hu => ?_⟩
    have hx := hf x _ _ rfl (by omega)
    exact cell_off hw (by rw [addr_blk]; exact hx) (h3 i hi j u hu)
theorem rx_off {w w' : World} {g : Nat} {t : Rt} (h : RxAt w t) (hf : Off g t) (hw : w.grownBy w' (some g)) : RxAt w' t := by
  induction h with
  | mk t hr hk hs ih =>
    obtain ⟨_, f1, f2, f3⟩ := hf
    exact .mk t (rwat_off hr f1 hw) (ksat_off hk f2 hw) (fun i hi => ih i hi (f3 _ (List.getElem_mem hi)))
theorem ksat_src {w : World} {A : Option Addr} {c : Nat} {l : List Rt} (h : KsAt w (.slice A l.length c) l) : Src w 8 A l.length (flatX l) := by
  refine ⟨flatX_len l, ?_⟩
  rcases h with ⟨_, rfl⟩ | ⟨x, c', hv, _, _, hc⟩
  · exact .inl rfl
  · injection hv with hv _ _
    refine .inr ⟨x, hv, fun j u hu => ?_⟩
    have hj : j < l.length * 8 := by have := (List.getElem?_eq_some_iff.1 hu).1; rwa [flatX_len] at this
    have hq : j / 8 < l.length := by omega
    have hr8 : j % 8 < (l[j / 8].cs).length := by show j % 8 < 8; omega
    have h1 := flatX_at l (j / 8) hq (j % 8) _ (List.getElem?_eq_getElem hr8)
    have h2 := hc (j / 8) hq (j % 8) _ (List.getElem?_eq_getElem hr8)
    rw [show j / 8 * 8 + j % 8 = j by omega] at h1 h2
    rw [hu] at h1
    rw [Option.some.inj h1]
    exact h2
end Go.Proofs.YtcnliipkfccohabGreat
end
section
namespace Go.Proofs.YtcnliipkfccohabGreat
open Go.ChangeShapes Go.WideShapes Go.ChangeAt Go.RowKit
open SetM
attribute [local go_sem ↓] Go.wp_at_zero Go.wp_at_succ
set_option maxRecDepth 100000
set_option linter.unusedVariables false
section
variable {P : Program}
theorem run_app_src5 (w : World) (base : Nat) (t ty e : TypeId) (i : TypeInfo) (z : Value) (size bytes : Nat) (ht : P.underlying t = some (.slice e)) (hi : P.info? e = some i) (hz : i.zero = some z)
    (hsize : i.size = size) (hby : i.bytes = bytes) (hzs : z.cells.size = size) (hsz : 0 < size)
    (v : Value) (n : Nat) (xs : List Value) (hown : w.ownsRow base e size v n xs)
    (A : Option Addr) (m c : Nat) (news : List Value) (hr : Src w size A m news) (h1 : ∀ u ∈ news, u.oneCell' = true)
    (h63 : n + m ≤ 100000000) (hbytes : bytes ≤ 1000) (hbase : base ≤ w.heap.size) :
    ∃ v' w', (Builtin.append_ #[t, t] ty #[v, .slice A m c]).run P w = .ok v' w' ∧ w'.ownsRow base e size v' (n + m) (xs ++ news) ∧ w.grownBy w' v.ownBlock ∧ (v'.ownBlock = v.ownBlock ∨ ∃ k, v'.ownBlock = some k ∧ w.heap.size ≤ k) := by
  have hb2 : (n + m) * bytes ≤ 100000000 * 1000 := Nat.mul_le_mul h63 hbytes
  cases A with
  | none =>
    rcases hr.2 with rfl | ⟨ad, hA, _⟩
    · have hn : news = [] := List.eq_nil_of_length_eq_zero (by rw [hr.1]; omega)
      subst hn
      refine ⟨v, w, ?_, by simpa using hown, grown_refl w _, .inl rfl⟩
      rcases own_form hown with ⟨rfl, _⟩ | ⟨g, cap, rfl, _, _, hnc, _⟩
      · simp [Builtin.append_, run_underlying ht, sizeOf, typeInfo, hi, Builtin.lenOf, Builtin.firstCells]
      · simp [Builtin.append_, run_underlying ht, sizeOf, typeInfo, hi, Builtin.lenOf, Builtin.firstCells, hnc, storeCells]
    · cases hA
  | some ad =>
    have hc : ∀ j u, news[j]? = some u → w.cell? (ad.add j) = some u := by
      rcases hr.2 with rfl | ⟨ad', hA, hc⟩
      · have hn : news = [] := List.eq_nil_of_length_eq_zero (by rw [hr.1]; omega)
        subst hn
        intro j u hu; simp at hu
      · injection hA with hA
        subst hA; exact hc
    obtain ⟨v', w', h2, h3, h4, h5⟩ := run_append_own_at (P := P) w base t ty e i z size bytes ht hi hz hsize hby hzs hsz v n xs hown ad m c news hr.1 hc h1 (by simp only [maxLen]; omega) (by omega) hbase
    refine ⟨v', w', h2, h3, h4, ?_⟩
    first
      | exact h5
      | exact h5.2
      | (rcases h5.2 with h | h; exact .inl h; exact .inr ⟨_, h, Nat.le_refl _⟩)
      | (rcases h5 with h | h; exact .inl h; exact .inr ⟨_, h, Nat.le_refl _⟩)
theorem wpList_src5 {ops : Array Oper} {rest : List Oper} {o : Oper} {a : Act} {Q : Exit → Act → World → Prop} (w : World) (hgd : o.guard = none) (s x : Operand) (t : TypeId)
    (ho : o.op = .call { callee := .builtin .append, args := #[s, x], argTypes := #[t, t] })
    (base : Nat) (e : TypeId) (i : TypeInfo) (z : Value) (size bytes : Nat) (ht : P.underlying t = some (.slice e)) (hi : P.info? e = some i) (hz : i.zero = some z)
    (hsize : i.size = size) (hby : i.bytes = bytes) (hzs : z.cells.size = size) (hsz : 0 < size)
    (v : Value) (n : Nat) (xs : List Value) (hs : a.eval s = v) (hown : w.ownsRow base e size v n xs)
    (A : Option Addr) (m c : Nat) (news : List Value) (hx : a.eval x = .slice A m c) (hr : Src w size A m news) (h1 : ∀ u ∈ news, u.oneCell' = true)
    (h63 : n + m ≤ 100000000) (hbytes : bytes ≤ 1000) (hbase : base ≤ w.heap.size)
    (h : ∀ v' w', w'.ownsRow base e size v' (n + m) (xs ++ news) → w.grownBy w' v.ownBlock → (v'.ownBlock = v.ownBlock ∨ ∃ k, v'.ownBlock = some k ∧ w.heap.size ≤ k) → wpList P ops Q rest (a.put o.dst v') w') : wpList P ops Q (o :: rest) a w :=
  wpList_plain hgd fun _ hK => by
    obtain ⟨v', w', hrun, h2, h3, h5⟩ := run_app_src5 (P := P) w base t o.type e i z size bytes ht hi hz hsize hby hzs hsz v n xs hown A m c news hr h1 h63 hbytes hbase
    unfold Oper.wp execOp
    simp only [ho, resolve, invoke, builtin, Sem.run_bind, Sem.run_pure, Result.andThen_ok, List.map_toArray, List.map_cons, List.map_nil, hs, hx, hrun]
    exact hK _ _ (h v' w' h2 h3 h5)
end
theorem rx_row {w w' : World} {row : Option Nat} {t : Rt} (h : RxAt w t) (hf : ∀ g, row = some g → Off g t) (hw : w.grownBy w' row) : RxAt w' t := by
  cases row with
  | none => exact rx_below h (bl_grown (bl_refl w) hw (fun k hk => by cases hk))
  | some g => exact rx_off h (hf g rfl) hw
theorem er_k {a b : Rt} (h : er a = er b) : a.k = b.k ∧ a.kids.map er = b.kids.map er ∧ a.kids.length = b.kids.length := by
  rw [er_eq, er_eq] at h
  injection h with h1 h2 h3 h4 h5 h6 h7 h8 h9 h10
  exact ⟨h1, h10, by simpa using congrArg List.length h10⟩
def flK (kind : Int) (l : List Rt) : List Rt := l.flatMap (fun t => if t.k = kind then t.kids.map er else [er t])
theorem flK_snoc (kind : Int) (l : List Rt) (k : Nat) (h : k < l.length) : flK kind (l.take (k + 1)) = flK kind (l.take k) ++ (if l[k].k = kind then l[k].kids.map er else [er l[k]]) := by
  unfold flK; rw [List.take_succ_eq_append_getElem h, List.flatMap_append]; simp only [List.flatMap_cons, List.flatMap_nil, List.append_nil]
theorem flatX_app (l m : List Rt) : flatX (l ++ m) = flatX l ++ flatX m := by simp [flatX]
theorem one_cellX {w : World} (l : List Rt) (hl : ∀ x ∈ l, RxAt w x) : ∀ u ∈ flatX l, u.oneCell' = true := by
  intro u hu
  simp only [flatX, List.mem_flatMap] at hu
  obtain ⟨t, ht, hu⟩ := hu
  obtain ⟨A, c, h1⟩ := rwat_len (hl t ht).rows
  obtain ⟨B, d, h2⟩ := ksat_len (hl t ht).ks
  unfold Rt.cs at hu
  rw [h1, h2] at hu
  simp at hu
  rcases hu with rfl | rfl | rfl | rfl | rfl | rfl | rfl | rfl <;> rfl
def FpPost (kind : Int) (l : List Rt) (w : World) : Ending → World → Prop := fun e w' => ∃ v' L, e = .returned v' ∧ Below w.heap.size w w' ∧ KsAt w' v' L ∧ FrV w.heap.size v' ∧ (∀ x ∈ L, RxAt w' x) ∧ (∀ x ∈ L, Fr w.heap.size x) ∧ L.map er = flK kind l
def FInv (Q : Rt → Prop) (kind : Int) (l : List Rt) (w : World) (s i : Value) (wr : World) : Prop :=
  ∃ (k : Nat) (L : List Rt) (A : Option Addr) (c : Nat), i = .int .i64 k ∧ s = .slice A L.length c ∧ k ≤ l.length ∧ L.length ≤ sL (l.take k) ∧ Hid (wr.ownsRow w.heap.size 25 8 (.slice A L.length c) L.length (flatX L)) ∧ Hid (Below w.heap.size w wr) ∧ Hid (∀ x ∈ L, (RxAt wr x ∧ ∀ g, (Value.slice A L.length c).ownBlock = some g → Off g x) ∧ Q x) ∧ Hid (L.map er = flK kind (l.take k))
theorem finv_step {Q : Rt → Prop} {kind : Int} {l : List Rt} {w w3 w4 : World} {k : Nat} (hk : k < l.length) {L M : List Rt} {A : Option Addr} {c : Nat} {v' : Value}
    (hL : ∀ x ∈ L, (RxAt w3 x ∧ ∀ g, (Value.slice A L.length c).ownBlock = some g → Off g x) ∧ Q x) (hM : ∀ x ∈ M, (RxAt w3 x ∧ ∀ g, (Value.slice A L.length c).ownBlock = some g → Off g x) ∧ Q x)
    (ho : w4.ownsRow w.heap.size 25 8 v' (L.length + M.length) (flatX L ++ flatX M)) (hg : w3.grownBy w4 (Value.slice A L.length c).ownBlock)
    (h5 : v'.ownBlock = (Value.slice A L.length c).ownBlock ∨ ∃ k, v'.ownBlock = some k ∧ w3.heap.size ≤ k) (hb : Below w.heap.size w w4) (hlen : L.length ≤ sL (l.take k)) (hm : M.length ≤ sM l[k])
    (hE : L.map er = flK kind (l.take k)) (hE2 : M.map er = if l[k].k = kind then l[k].kids.map er else [er l[k]]) : FInv Q kind l w v' (.int .i64 ((k : Int) + 1)) w4 := by
  obtain ⟨B, d, rfl⟩ := own_slice ho
  refine ⟨k + 1, L ++ M, B, d, by simp, by simp, by omega, ?_, hide ?_, hide hb, hide ?_, hide ?_⟩
  · rw [sL_snoc l k hk, List.length_append]; omega
  · rw [List.length_append, flatX_app]; exact ho
  · intro x hx
    have h6 : (RxAt w3 x ∧ ∀ g, (Value.slice A L.length c).ownBlock = some g → Off g x) ∧ Q x := by
      rcases List.mem_append.1 hx with h | h
      · exact hL x h
      · exact hM x h
    refine ⟨⟨rx_row h6.1.1 h6.1.2 hg, fun g hg2 => ?_⟩, h6.2⟩
    rw [List.length_append] at hg2
    rcases h5 with h5 | ⟨k2, h5, h7⟩
    · exact h6.1.2 g (by rw [← h5]; exact hg2)
    · rw [h5] at hg2
      injection hg2 with hg2
      subst hg2
      exact off_new h6.1.1 h7
  · rw [List.map_append, hE, hE2, flK_snoc kind l k hk]
end Go.Proofs.YtcnliipkfccohabGreat
end
section
namespace Go.Proofs.YtcnliipkfccohabGreat.SpanM
abbrev Sp := Int × Int
def less (a b : Sp) : Bool := decide (a.1 < b.1) || (decide (a.1 = b.1) && decide (a.2 < b.2))
def le (a b : Sp) : Prop := a.1 < b.1 ∨ (a.1 = b.1 ∧ a.2 ≤ b.2)
def touch (a b : Sp) : Bool := decide (max a.1 b.1 ≤ min a.2 b.2)
def stepU (acc : List Sp) (s : Sp) : List Sp :=
  if s.1 > s.2 then acc else
  match acc.getLast? with
  | none => [s]
  | some t => if touch t s then acc.dropLast ++ [(t.1, max t.2 s.2)] else acc ++ [s]
def uniF (l : List Sp) : List Sp := l.foldl stepU []
def Sorted (l : List Sp) : Prop := l.Pairwise le
def cov (l : List Sp) (x : Int) : Prop := ∃ s ∈ l, 2 * s.1 ≤ x ∧ x ≤ 2 * s.2
structure Norm (l : List Sp) : Prop where
  valid : ∀ s ∈ l, s.1 ≤ s.2
  apart : l.Pairwise fun a b => a.2 < b.1
theorem le_refl (a : Sp) : le a a := .inr ⟨rfl, Int.le_refl _⟩
theorem le_antisymm {a b : Sp} (h : le a b) (k : le b a) : a = b := by
  obtain ⟨a1, a2⟩ := a; obtain ⟨b1, b2⟩ := b
  unfold le at h k; simp only at h k
  have : a1 = b1 := by omega
  have : a2 = b2 := by omega
  simp_all
theorem uni_inv (l acc : List Sp) (hn : Norm acc) (hs : Sorted l) (hb : ∀ t ∈ acc.getLast?, ∀ s ∈ l, t.1 ≤ s.1) :
    Norm (l.foldl stepU acc) ∧ ∀ x, cov (l.foldl stepU acc) x ↔ (cov acc x ∨ cov l x) := by
  induction l generalizing acc with
  | nil => exact ⟨hn, fun x => by simp [cov]⟩
  | cons s r ih =>
    rw [List.foldl_cons]
    have hsr := List.pairwise_cons.1 hs
    by_cases hv : s.1 > s.2
    · have e : stepU acc s = acc := by unfold stepU; rw [if_pos hv]
      rw [e]
      obtain ⟨h1, h2⟩ := ih acc hn hsr.2 (fun t ht u hu => hb t ht u (List.mem_cons_of_mem _ hu))
      refine ⟨h1, fun x => (h2 x).trans ?_⟩
      constructor
      · rintro (h | ⟨u, hu, h⟩)
        · exact .inl h
        · exact .inr ⟨u, List.mem_cons_of_mem _ hu, h⟩
      · rintro (h | ⟨u, hu, h⟩)
        · exact .inl h
        · rcases List.mem_cons.1 hu with rfl | hu
          · omega
          · exact .inr ⟨u, hu, h⟩
    · have hfrom : ∀ u ∈ r, s.1 ≤ u.1 := fun u hu => by
        rcases hsr.1 u hu with h | h
        · omega
        · omega
      rcases List.eq_nil_or_concat acc with rfl | ⟨a0, t, rfl⟩
      · have e : stepU [] s = [s] := by unfold stepU; rw [if_neg hv]; rfl
        rw [e]
        obtain ⟨h1, h2⟩ := ih [s] ⟨by intro u hu; rw [List.mem_singleton] at hu; subst hu; omega, List.pairwise_singleton _ _⟩ hsr.2 (fun t ht u hu => by simp at ht; subst ht; exact hfrom u hu)
        refine ⟨h1, fun x => (h2 x).trans ?_⟩
        simp [cov]
      · rw [List.concat_eq_append] at *
        have hlast : (a0 ++ [t]).getLast? = some t := by simp
        have hts : t.1 ≤ s.1 := hb t (by rw [hlast]; rfl) s (by simp)
        have htv : t.1 ≤ t.2 := hn.valid t (by simp)
        have hpw := List.pairwise_append.1 hn.apart
        by_cases ht : touch t s = true
        · have e : stepU (a0 ++ [t]) s = a0 ++ [(t.1, max t.2 s.2)] := by unfold stepU; rw [if_neg hv, hlast]; simp [ht]
          rw [e]
          have ht' : max t.1 s.1 ≤ min t.2 s.2 := by simpa [touch] using ht
          obtain ⟨h1, h2⟩ := ih (a0 ++ [(t.1, max t.2 s.2)]) ⟨by
              intro u hu
              rcases List.mem_append.1 hu with hu | hu
              · exact hn.valid u (by simp [hu])
              · rw [List.mem_singleton] at hu; subst hu; show t.1 ≤ max t.2 s.2; omega, by
              refine List.pairwise_append.2 ⟨hpw.1, List.pairwise_singleton _ _, fun a ha b hb' => ?_⟩
              rw [List.mem_singleton] at hb'; subst hb'
              exact hpw.2.2 a ha t (by simp)⟩ hsr.2 (fun u hu v hv' => by simp at hu; subst hu; have := hfrom v hv'; show t.1 ≤ v.1; omega)
          refine ⟨h1, fun x => (h2 x).trans ?_⟩
          constructor
          · rintro (⟨u, hu, h⟩ | ⟨u, hu, h⟩)
            · rcases List.mem_append.1 hu with hu | hu
              · exact .inl ⟨u, by simp [hu], h⟩
              · rw [List.mem_singleton] at hu; subst hu
                simp only at h
                by_cases hx : x ≤ 2 * t.2
                · exact .inl ⟨t, by simp, by omega⟩
                · exact .inr ⟨s, by simp, by omega⟩
            · exact .inr ⟨u, List.mem_cons_of_mem _ hu, h⟩
          · rintro (⟨u, hu, h⟩ | ⟨u, hu, h⟩)
            · rcases List.mem_append.1 hu with hu | hu
              · exact .inl ⟨u, by simp [hu], h⟩
              · rw [List.mem_singleton] at hu; subst hu
                exact .inl ⟨(u.1, max u.2 s.2), by simp, by simp only; omega⟩
            · rcases List.mem_cons.1 hu with rfl | hu
              · exact .inl ⟨(t.1, max t.2 u.2), by simp, by simp only; omega⟩
              · exact .inr ⟨u, hu, h⟩
        · have e : stepU (a0 ++ [t]) s = a0 ++ [t] ++ [s] := by unfold stepU; rw [if_neg hv, hlast]; simp [ht]
          rw [e]
          have ht' : ¬ (max t.1 s.1 ≤ min t.2 s.2) := by simpa [touch] using ht
          have hlt : t.2 < s.1 := by omega
          obtain ⟨h1, h2⟩ := ih (a0 ++ [t] ++ [s]) ⟨by
              intro u hu
              rcases List.mem_append.1 hu with hu | hu
              · exact hn.valid u hu
              · rw [List.mem_singleton] at hu; subst hu; omega, by
              refine List.pairwise_append.2 ⟨hn.apart, List.pairwise_singleton _ _, fun a ha b hb' => ?_⟩
              rw [List.mem_singleton] at hb'; subst hb'
              rcases List.mem_append.1 ha with ha | ha
              · have := hpw.2.2 a ha t (by simp); omega
              · rw [List.mem_singleton] at ha; subst ha; exact hlt⟩ hsr.2 (fun u hu v hv' => by simp at hu; subst hu; exact hfrom v hv')
          refine ⟨h1, fun x => (h2 x).trans ?_⟩
          constructor
          · rintro (⟨u, hu, h⟩ | ⟨u, hu, h⟩)
            · rcases List.mem_append.1 hu with hu | hu
              · exact .inl ⟨u, hu, h⟩
              · rw [List.mem_singleton] at hu; subst hu
                exact .inr ⟨u, by simp, h⟩
            · exact .inr ⟨u, List.mem_cons_of_mem _ hu, h⟩
          · rintro (⟨u, hu, h⟩ | ⟨u, hu, h⟩)
            · exact .inl ⟨u, List.mem_append_left _ hu, h⟩
            · rcases List.mem_cons.1 hu with rfl | hu
              · exact .inl ⟨u, by simp, h⟩
              · exact .inr ⟨u, hu, h⟩
theorem uni_norm (l : List Sp) (h : Sorted l) : Norm (uniF l) := (uni_inv l [] ⟨by simp, .nil⟩ h (by simp)).1
def R (a b : Sp) : Prop := a.1 < b.1 ∧ a.2 ≤ b.1
instance (a b : Sp) : Decidable (R a b) := inferInstanceAs (Decidable (_ ∧ _))
end Go.Proofs.YtcnliipkfccohabGreat.SpanM
end
section
namespace Go.Proofs.YtcnliipkfccohabGreat
open Go.ChangeShapes Go.WideShapes Go.ChangeAt Go.RowKit
open SpanM
def encS (s : Sp) : List Value := [.int .i64 s.1, .int .i64 s.2]
def flat (l : List Sp) : List Value := l.flatMap encS
theorem flat_len (l : List Sp) : (flat l).length = l.length * 2 := by
  induction l with
  | nil => rfl
  | cons a r ih => simp only [flat, List.flatMap_cons, List.length_append, List.length_cons] at *; simp only [encS, List.length_cons, List.length_nil]; omega
theorem flat_app (l k : List Sp) : flat (l ++ k) = flat l ++ flat k := by simp [flat]
theorem flat_one (l : List Sp) : ∀ u ∈ flat l, u.oneCell' = true := by
  intro u hu
  simp only [flat, List.mem_flatMap, encS] at hu
  obtain ⟨s, _, hs⟩ := hu
  simp at hs
  rcases hs with rfl | rfl <;> rfl
theorem flat_at (l : List Sp) (i : Nat) (h : i < l.length) : (flat l)[i * 2]? = some (.int .i64 l[i].1) ∧ (flat l)[i * 2 + 1]? = some (.int .i64 l[i].2) := by
  induction l generalizing i with
  | nil => simp at h
  | cons a r ih =>
    cases i with
    | zero => exact ⟨rfl, rfl⟩
    | succ i =>
      have e : flat (a :: r) = .int .i64 a.1 :: .int .i64 a.2 :: flat r := rfl
      have h1 : (i + 1) * 2 = i * 2 + 1 + 1 := by omega
      have h2 := ih i (by simpa using h)
      rw [e, h1, List.getElem?_cons_succ, List.getElem?_cons_succ, List.getElem?_cons_succ, List.getElem?_cons_succ]
      exact h2
theorem flat_set1 (l : List Sp) (i : Nat) (h : i < l.length) (x : Int) : (flat l).set (i * 2 + 1) (.int .i64 x) = flat (l.set i (l[i].1, x)) := by
  induction l generalizing i with
  | nil => simp at h
  | cons a r ih =>
    cases i with
    | zero => rfl
    | succ i =>
      have e : ∀ (b : Sp) (q : List Sp), flat (b :: q) = .int .i64 b.1 :: .int .i64 b.2 :: flat q := fun _ _ => rfl
      have h1 : (i + 1) * 2 + 1 = (i * 2 + 1) + 1 + 1 := by omega
      rw [e, h1, List.set_cons_succ, List.set_cons_succ, ih i (by simpa using h), List.set_cons_succ, e]
      rfl
def SpAt (w : World) (v : Value) (l : List Sp) : Prop :=
  (v = .slice none 0 0 ∧ l = []) ∨
  ∃ x c, v = .slice (some x) l.length c ∧ l.length ≤ c ∧ c ≤ maxLen ∧ ∀ i (h : i < l.length), w.cell? (x.add (i * 2)) = some (.int .i64 l[i].1) ∧ w.cell? (x.add (i * 2 + 1)) = some (.int .i64 l[i].2)
theorem spat_len {w : World} {v : Value} {l : List Sp} (h : SpAt w v l) : ∃ a c, v = .slice a l.length c := by
  rcases h with ⟨rfl, rfl⟩ | ⟨x, c, rfl, _⟩
  · exact ⟨none, 0, rfl⟩
  · exact ⟨some x, c, rfl⟩
theorem spat_below {w w' : World} {v : Value} {l : List Sp} (h : SpAt w v l) (hb : Below w.heap.size w w') : SpAt w' v l := by
  rcases h with h | ⟨x, c, rfl, h1, h2, h3⟩
  · exact .inl h
  · exact .inr ⟨x, c, rfl, h1, h2, fun i hi => ⟨cell_later hb (h3 i hi).1, cell_later hb (h3 i hi).2⟩⟩
theorem spat_some {w : World} {v : Value} {l : List Sp} (h : SpAt w v l) (hp : 0 < l.length) :
    ∃ b off c, v = .slice (some ⟨b, off, none⟩) l.length c ∧ l.length ≤ c ∧ c ≤ maxLen ∧ b < w.heap.size ∧ ∀ i (h : i < l.length), w.cell? ⟨b, off + i * 2, none⟩ = some (.int .i64 l[i].1) ∧ w.cell? ⟨b, off + i * 2 + 1, none⟩ = some (.int .i64 l[i].2) := by
  rcases h with ⟨rfl, rfl⟩ | ⟨x, c, rfl, h1, h2, h3⟩
  · simp at hp
  · obtain ⟨b, off, spot⟩ := x
    have hc := (h3 0 hp).1
    have hspot : spot = none := by simpa [Addr.add] using World.cell?_spot hc
    subst hspot
    refine ⟨b, off, c, rfl, h1, h2, ?_, fun i hi => ?_⟩
    · have := World.block_lt_of_cell? w _ hc
      rw [addr_add] at this
      exact this
    · have := h3 i hi
      rw [addr_add, addr_add] at this
      exact this
theorem own_spat {w : World} {base : Nat} {v : Value} {l : List Sp} (h : w.ownsRow base 33 2 v l.length (flat l)) : SpAt w v l := by
  rcases own_form h with ⟨rfl, h1, h2⟩ | ⟨g, c, rfl, h1, h2, h3, h4, h5⟩
  · exact .inl ⟨rfl, List.eq_nil_of_length_eq_zero h1⟩
  · refine .inr ⟨_, c, rfl, h3, h4, fun i hi => ?_⟩
    rw [addr_add, addr_add]
    simp only [Nat.zero_add]
    exact ⟨h5 _ _ (flat_at l i hi).1, h5 _ _ (flat_at l i hi).2⟩
theorem info_sp : (Tryz.prog.info? 33).map (fun i => (i.zero, i.size, i.bytes)) = some (some (.agg #[.int .i64 0, .int .i64 0]), 2, 16) := by kernel_rfl
end Go.Proofs.YtcnliipkfccohabGreat
end
section
namespace Go.Proofs.YtcnliipkfccohabGreat
set_option linter.unusedVariables false
inductive Kt where
  | hold (x : Rt) (g : Nat)
  | ended (g b : Nat)
  | again (x : Rt) (g many b : Nat)
inductive Ro where
  | found (i : Nat) (p : List (Int × Int)) (f : Nat)
  | fail (f : Nat)
  | dry
def Ro.left : Ro → Nat
  | .found _ _ f => f
  | .fail f => f
  | .dry => 0
def holdsK : List Rt → Nat → List Kt
  | [], _ => []
  | x :: l, g => .hold x g :: holdsK l (g + gM x)
def clearP (p : List (Int × Int)) (g n : Nat) : List (Int × Int) := p.mapIdx fun j s => if g ≤ j ∧ j < g + n then (-1, -1) else s
section
variable (offs : Nat → Int) (takes : Rt → Nat → Option Nat)
mutual
  /-- What is to be done comes to a result: by fuel f, from place i on, with parts p. -/
  inductive On : Nat → List Kt → Nat → List (Int × Int) → Ro → Prop
    | nil (f i p) : On f [] i p (.found i p f)
    | ended (f g b ks i p r) (h : On f ks i (p.set g (offs b, offs i)) r) : On f (.ended g b :: ks) i p r
    | stuck (f x g many b ks i p) (h1 : x.mi < ((many : Nat) : Int)) (h2 : i = b) : On f (.again x g many b :: ks) i p (.fail f)
    | again (f x g many b ks i p r) (h1 : ¬ (x.mi < ((many : Nat) : Int) ∧ i = b)) (h : OnR f x g many ks i p r) : On f (.again x g many b :: ks) i p r
    | seq (f x g ks i p r) (hk : x.k = 0) (h : On f (holdsK x.kids g ++ ks) i p r) : On f (.hold x g :: ks) i p r
    | alt (f x g ks i p r) (hk : x.k = 1) (h : OnA f x.kids g ks i p r) : On f (.hold x g :: ks) i p r
    | rep (f x g ks i p r) (hk : x.k = 7) (h : OnR f x g 0 ks i p r) : On f (.hold x g :: ks) i p r
    | dry (x g ks i p) (hk : x.k ≠ 0 ∧ x.k ≠ 1 ∧ x.k ≠ 7) : On 0 (.hold x g :: ks) i p .dry
    | group (f x y g ks i p r) (hk : x.k = 5) (hy : x.kids = [y]) (h : On f (.hold y (g + 1) :: .ended g i :: ks) i p r) : On (f + 1) (.hold x g :: ks) i p r
    | bare (f x y g ks i p r) (hk : x.k = 6) (hy : x.kids = [y]) (h : On f (.hold y g :: ks) i p r) : On (f + 1) (.hold x g :: ks) i p r
    | no (f x g ks i p) (hk : x.k ≠ 0 ∧ x.k ≠ 1 ∧ x.k ≠ 7 ∧ x.k ≠ 5 ∧ x.k ≠ 6) (ht : takes x i = none) : On (f + 1) (.hold x g :: ks) i p (.fail f)
    | yes (f x g ks i p n r) (hk : x.k ≠ 0 ∧ x.k ≠ 1 ∧ x.k ≠ 7 ∧ x.k ≠ 5 ∧ x.k ≠ 6) (ht : takes x i = some n) (h : On f ks (i + n) p r) : On (f + 1) (.hold x g :: ks) i p r
  /-- Alternatives, one behind the other. -/
  inductive OnA : Nat → List Rt → Nat → List Kt → Nat → List (Int × Int) → Ro → Prop
    | nil (f g ks i p) : OnA f [] g ks i p (.fail f)
    | done (f x l g ks i p r) (h : On f (.hold x g :: ks) i p r) (hr : ∀ f', r ≠ .fail f') : OnA f (x :: l) g ks i p r
    | next (f f' x l g ks i p r) (h : On f (.hold x g :: ks) i p (.fail f')) (h2 : OnA f' l (g + gM x) ks i p r) : OnA f (x :: l) g ks i p r
  /-- A repeat that had many times. -/
  inductive OnR : Nat → Rt → Nat → Nat → List Kt → Nat → List (Int × Int) → Ro → Prop
    | must (f x g many ks i p r) (h1 : ((many : Nat) : Int) < x.mi) (h : OnT f x g many ks i p r) : OnR f x g many ks i p r
    | full (f x g many ks i p r) (h1 : ¬ ((many : Nat) : Int) < x.mi) (h2 : x.ma ≠ -1 ∧ x.ma ≤ ((many : Nat) : Int)) (h : On f ks i p r) : OnR f x g many ks i p r
    | lazyD (f x g many ks i p r) (h1 : ¬ ((many : Nat) : Int) < x.mi) (h2 : ¬ (x.ma ≠ -1 ∧ x.ma ≤ ((many : Nat) : Int))) (hl : x.lz = true) (h : On f ks i p r) (hr : ∀ f', r ≠ .fail f') : OnR f x g many ks i p r
    | lazyN (f f' x g many ks i p r) (h1 : ¬ ((many : Nat) : Int) < x.mi) (h2 : ¬ (x.ma ≠ -1 ∧ x.ma ≤ ((many : Nat) : Int))) (hl : x.lz = true) (h : On f ks i p (.fail f')) (h3 : OnT f' x g many ks i p r) : OnR f x g many ks i p r
    | moreD (f x g many ks i p r) (h1 : ¬ ((many : Nat) : Int) < x.mi) (h2 : ¬ (x.ma ≠ -1 ∧ x.ma ≤ ((many : Nat) : Int))) (hl : x.lz = false) (h : OnT f x g many ks i p r) (hr : ∀ f', r ≠ .fail f') : OnR f x g many ks i p r
    | moreN (f f' x g many ks i p r) (h1 : ¬ ((many : Nat) : Int) < x.mi) (h2 : ¬ (x.ma ≠ -1 ∧ x.ma ≤ ((many : Nat) : Int))) (hl : x.lz = false) (h : OnT f x g many ks i p (.fail f')) (h3 : On f' ks i p r) : OnR f x g many ks i p r
  /-- One time more. -/
  inductive OnT : Nat → Rt → Nat → Nat → List Kt → Nat → List (Int × Int) → Ro → Prop
    | mk (f x y g many ks i p r) (hy : x.kids = [y]) (h : On f (.hold y g :: .again x g (many + 1) i :: ks) i (clearP p g (gM x)) r) : OnT f x g many ks i p r
end
mutual
  /-- Fuel only falls. -/
  theorem on_left : ∀ {f : Nat} {ks : List Kt} {i : Nat} {p : List (Int × Int)} {r : Ro}, On offs takes f ks i p r → r.left ≤ f
    | _, _, _, _, _, .nil .. => Nat.le_refl _
    | _, _, _, _, _, .ended _ _ _ _ _ _ _ h => on_left h
    | _, _, _, _, _, .stuck .. => Nat.le_refl _
    | _, _, _, _, _, .again _ _ _ _ _ _ _ _ _ _ h => onr_left h
    | _, _, _, _, _, .seq _ _ _ _ _ _ _ _ h => on_left h
    | _, _, _, _, _, .alt _ _ _ _ _ _ _ _ h => ona_left h
    | _, _, _, _, _, .rep _ _ _ _ _ _ _ _ h => onr_left h
    | _, _, _, _, _, .dry .. => Nat.le_refl _
    | _, _, _, _, _, .group _ _ _ _ _ _ _ _ _ _ h => Nat.le_succ_of_le (on_left h)
    | _, _, _, _, _, .bare _ _ _ _ _ _ _ _ _ _ h => Nat.le_succ_of_le (on_left h)
    | _, _, _, _, _, .no .. => Nat.le_succ _
    | _, _, _, _, _, .yes _ _ _ _ _ _ _ _ _ _ h => Nat.le_succ_of_le (on_left h)
  theorem ona_left : ∀ {f : Nat} {l : List Rt} {g : Nat} {ks : List Kt} {i : Nat} {p : List (Int × Int)} {r : Ro}, OnA offs takes f l g ks i p r → r.left ≤ f
    | _, _, _, _, _, _, _, .nil .. => Nat.le_refl _
    | _, _, _, _, _, _, _, .done _ _ _ _ _ _ _ _ h _ => on_left h
    | _, _, _, _, _, _, _, .next _ _ _ _ _ _ _ _ _ h h2 => Nat.le_trans (ona_left h2) (on_left h)
  theorem onr_left : ∀ {f : Nat} {x : Rt} {g many : Nat} {ks : List Kt} {i : Nat} {p : List (Int × Int)} {r : Ro}, OnR offs takes f x g many ks i p r → r.left ≤ f
    | _, _, _, _, _, _, _, _, .must _ _ _ _ _ _ _ _ _ h => ont_left h
    | _, _, _, _, _, _, _, _, .full _ _ _ _ _ _ _ _ _ _ h => on_left h
    | _, _, _, _, _, _, _, _, .lazyD _ _ _ _ _ _ _ _ _ _ _ h _ => on_left h
    | _, _, _, _, _, _, _, _, .lazyN _ _ _ _ _ _ _ _ _ _ _ _ h h3 => Nat.le_trans (ont_left h3) (on_left h)
    | _, _, _, _, _, _, _, _, .moreD _ _ _ _ _ _ _ _ _ _ _ h _ => ont_left h
    | _, _, _, _, _, _, _, _, .moreN _ _ _ _ _ _ _ _ _ _ _ _ h h3 => Nat.le_trans (on_left h3) (ont_left h)
  theorem ont_left : ∀ {f : Nat} {x : Rt} {g many : Nat} {ks : List Kt} {i : Nat} {p : List (Int × Int)} {r : Ro}, OnT offs takes f x g many ks i p r → r.left ≤ f
    | _, _, _, _, _, _, _, _, .mk _ _ _ _ _ _ _ _ _ _ h => on_left h
end
mutual
  /-- It comes to one result alone. -/
  theorem on_det : ∀ {f : Nat} {ks : List Kt} {i : Nat} {p : List (Int × Int)} {r r' : Ro}, On offs takes f ks i p r → On offs takes f ks i p r' → r = r'
    | _, _, _, _, _, _, .nil .., h2 => by cases h2; rfl
    | _, _, _, _, _, _, .ended _ _ _ _ _ _ _ h, h2 => by
      cases h2 with
      | ended _ _ _ _ _ _ _ h' => exact on_det h h'
    | _, _, _, _, _, _, .stuck _ _ _ _ _ _ _ _ h1 hi, h2 => by
      cases h2 with
      | stuck => rfl
      | again _ _ _ _ _ _ _ _ _ h3 _ => exact absurd ⟨h1, hi⟩ h3
    | _, _, _, _, _, _, .again _ _ _ _ _ _ _ _ _ h1 h, h2 => by
      cases h2 with
      | stuck _ _ _ _ _ _ _ _ h3 h4 => exact absurd ⟨h3, h4⟩ h1
      | again _ _ _ _ _ _ _ _ _ _ h' => exact onr_det h h'
    | _, _, _, _, _, _, .seq _ _ _ _ _ _ _ hk h, h2 => by
      cases h2 with
      | seq _ _ _ _ _ _ _ _ h' => exact on_det h h'
      | _ => exfalso; omega
    | _, _, _, _, _, _, .alt _ _ _ _ _ _ _ hk h, h2 => by
      cases h2 with
      | alt _ _ _ _ _ _ _ _ h' => exact ona_det h h'
      | _ => exfalso; omega
    | _, _, _, _, _, _, .rep _ _ _ _ _ _ _ hk h, h2 => by
      cases h2 with
      | rep _ _ _ _ _ _ _ _ h' => exact onr_det h h'
      | _ => exfalso; omega
    | _, _, _, _, _, _, .dry _ _ _ _ _ hk, h2 => by
      cases h2 with
      | dry => rfl
      | _ => exfalso; omega
    | _, _, _, _, _, _, .group _ _ _ _ _ _ _ _ hk hy h, h2 => by
      cases h2 with
      | group _ _ _ _ _ _ _ _ _ hy' h' =>
        rw [hy] at hy'
        injection hy' with hy' _
        subst hy'
        exact on_det h h'
      | _ => exfalso; omega
    | _, _, _, _, _, _, .bare _ _ _ _ _ _ _ _ hk hy h, h2 => by
      cases h2 with
      | bare _ _ _ _ _ _ _ _ _ hy' h' =>
        rw [hy] at hy'
        injection hy' with hy' _
        subst hy'
        exact on_det h h'
      | _ => exfalso; omega
    | _, _, _, _, _, _, .no _ _ _ _ _ _ hk ht, h2 => by
      cases h2 with
      | no => rfl
      | yes _ _ _ _ _ _ _ _ _ ht' _ => rw [ht] at ht'; cases ht'
      | _ => exfalso; omega
    | _, _, _, _, _, _, .yes _ _ _ _ _ _ _ _ hk ht h, h2 => by
      cases h2 with
      | yes _ _ _ _ _ _ _ _ _ ht' h' =>
        rw [ht] at ht'
        injection ht' with ht'
        subst ht'
        exact on_det h h'
      | no _ _ _ _ _ _ _ ht' => rw [ht] at ht'; cases ht'
      | _ => exfalso; omega
  termination_by structural _ _ _ _ _ _ h => h
  theorem ona_det : ∀ {f : Nat} {l : List Rt} {g : Nat} {ks : List Kt} {i : Nat} {p : List (Int × Int)} {r r' : Ro}, OnA offs takes f l g ks i p r → OnA offs takes f l g ks i p r' → r = r'
    | _, _, _, _, _, _, _, _, .nil .., h2 => by cases h2; rfl
    | _, _, _, _, _, _, _, _, .done _ _ _ _ _ _ _ _ h hr, h2 => by
      cases h2 with
      | done _ _ _ _ _ _ _ _ h' _ => exact on_det h h'
      | next _ _ _ _ _ _ _ _ _ h' _ => exact absurd (on_det h h') (hr _)
    | _, _, _, _, _, _, _, _, .next _ _ _ _ _ _ _ _ _ h h3, h2 => by
      cases h2 with
      | done _ _ _ _ _ _ _ _ h' hr => exact absurd (on_det h h').symm (hr _)
      | next _ _ _ _ _ _ _ _ _ h' h3' =>
        have e := on_det h h'
        injection e with e
        subst e
        exact ona_det h3 h3'
  termination_by structural _ _ _ _ _ _ _ _ h => h
  theorem onr_det : ∀ {f : Nat} {x : Rt} {g many : Nat} {ks : List Kt} {i : Nat} {p : List (Int × Int)} {r r' : Ro}, OnR offs takes f x g many ks i p r → OnR offs takes f x g many ks i p r' → r = r'
    | _, _, _, _, _, _, _, _, _, .must _ _ _ _ _ _ _ _ h1 h, h2 => by
      cases h2 with
      | must _ _ _ _ _ _ _ _ _ h' => exact ont_det h h'
      | _ => contradiction
    | _, _, _, _, _, _, _, _, _, .full _ _ _ _ _ _ _ _ h1 hm h, h2 => by
      cases h2 with
      | full _ _ _ _ _ _ _ _ _ _ h' => exact on_det h h'
      | _ => contradiction
    | _, _, _, _, _, _, _, _, _, .lazyD _ _ _ _ _ _ _ _ h1 hm hl h hr, h2 => by
      cases h2 with
      | lazyD _ _ _ _ _ _ _ _ _ _ _ h' _ => exact on_det h h'
      | lazyN _ _ _ _ _ _ _ _ _ _ _ _ h' _ => exact absurd (on_det h h') (hr _)
      | must => contradiction
      | full => contradiction
      | moreD _ _ _ _ _ _ _ _ _ _ hl' => rw [hl] at hl'; cases hl'
      | moreN _ _ _ _ _ _ _ _ _ _ _ hl' => rw [hl] at hl'; cases hl'
    | _, _, _, _, _, _, _, _, _, .lazyN _ _ _ _ _ _ _ _ _ h1 hm hl h h3, h2 => by
      cases h2 with
      | lazyD _ _ _ _ _ _ _ _ _ _ _ h' hr => exact absurd (on_det h h').symm (hr _)
      | lazyN _ _ _ _ _ _ _ _ _ _ _ _ h' h3' =>
        have e := on_det h h'
        injection e with e
        subst e
        exact ont_det h3 h3'
      | must => contradiction
      | full => contradiction
      | moreD _ _ _ _ _ _ _ _ _ _ hl' => rw [hl] at hl'; cases hl'
      | moreN _ _ _ _ _ _ _ _ _ _ _ hl' => rw [hl] at hl'; cases hl'
    | _, _, _, _, _, _, _, _, _, .moreD _ _ _ _ _ _ _ _ h1 hm hl h hr, h2 => by
      cases h2 with
      | moreD _ _ _ _ _ _ _ _ _ _ _ h' _ => exact ont_det h h'
      | moreN _ _ _ _ _ _ _ _ _ _ _ _ h' _ => exact absurd (ont_det h h') (hr _)
      | must => contradiction
      | full => contradiction
      | lazyD _ _ _ _ _ _ _ _ _ _ hl' => rw [hl] at hl'; cases hl'
      | lazyN _ _ _ _ _ _ _ _ _ _ _ hl' => rw [hl] at hl'; cases hl'
    | _, _, _, _, _, _, _, _, _, .moreN _ _ _ _ _ _ _ _ _ h1 hm hl h h3, h2 => by
      cases h2 with
      | moreD _ _ _ _ _ _ _ _ _ _ _ h' hr => exact absurd (ont_det h h').symm (hr _)
      | moreN _ _ _ _ _ _ _ _ _ _ _ _ h' h3' =>
        have e := ont_det h h'
        injection e with e
        subst e
        exact on_det h3 h3'
      | must => contradiction
      | full => contradiction
      | lazyD _ _ _ _ _ _ _ _ _ _ hl' => rw [hl] at hl'; cases hl'
      | lazyN _ _ _ _ _ _ _ _ _ _ _ hl' => rw [hl] at hl'; cases hl'
  termination_by structural _ _ _ _ _ _ _ _ _ h => h
  theorem ont_det : ∀ {f : Nat} {x : Rt} {g many : Nat} {ks : List Kt} {i : Nat} {p : List (Int × Int)} {r r' : Ro}, OnT offs takes f x g many ks i p r → OnT offs takes f x g many ks i p r' → r = r'
    | _, _, _, _, _, _, _, _, _, .mk _ _ _ _ _ _ _ _ _ hy h, h2 => by
      cases h2 with
      | mk _ _ _ _ _ _ _ _ _ hy' h' =>
        rw [hy] at hy'
        injection hy' with hy' _
        subst hy'
        exact on_det h h'
  termination_by structural _ _ _ _ _ _ _ _ _ h => h
end
end
end Go.Proofs.YtcnliipkfccohabGreat
end
section
namespace Go.Proofs.YtcnliipkfccohabGreat
set_option linter.unusedVariables false
inductive Sg : Rt → Prop
  | mk (t : Rt) (h : t.k = 5 ∨ t.k = 6 ∨ t.k = 7 → ∃ y, t.kids = [y]) (hs : ∀ x ∈ t.kids, Sg x) : Sg t
theorem Sg.one {t : Rt} (h : Sg t) (hk : t.k = 5 ∨ t.k = 6 ∨ t.k = 7) : ∃ y, t.kids = [y] ∧ Sg y := by
  cases h with
  | mk _ h hs =>
    obtain ⟨y, hy⟩ := h hk
    exact ⟨y, hy, hs y (by rw [hy]; exact List.mem_cons_self)⟩
theorem Sg.kid {t x : Rt} (h : Sg t) (hx : x ∈ t.kids) : Sg x := by cases h with | mk _ _ hs => exact hs x hx
def rpW (c m many : Nat) : Nat := (m - many + 1) * (c + 2)
mutual
  /-- How far a part leads without fuel. -/
  def wM : Rt → Nat
    | .mk k _ _ _ _ mi _ _ _ l => if k = 0 ∨ k = 1 then 1 + wL l else if k = 7 then 1 + rpW (wL l) mi.toNat 0 else 1
  def wL : List Rt → Nat
    | [] => 0
    | t :: l => wM t + wL l
end
theorem wM_eq (t : Rt) : wM t = if t.k = 0 ∨ t.k = 1 then 1 + wL t.kids else if t.k = 7 then 1 + rpW (wL t.kids) t.mi.toNat 0 else 1 := by cases t; rw [wM]; rfl
def wT (i : Nat) : Kt → Nat
  | .hold x _ => wM x
  | .ended _ _ => 1
  | .again x _ many b => if x.mi < ((many : Nat) : Int) ∧ i = b then 1 else 1 + rpW (wL x.kids) x.mi.toNat many
def wS (i : Nat) : List Kt → Nat
  | [] => 0
  | t :: l => wT i t + wS i l
theorem wS_holds (i : Nat) (l : List Rt) (g : Nat) (ks : List Kt) : wS i (holdsK l g ++ ks) = wL l + wS i ks := by
  induction l generalizing g with
  | nil => simp [holdsK, wL]
  | cons a l ih =>
    show wM a + wS i (holdsK l (g + gM a) ++ ks) = _
    rw [ih, wL]; omega
def SgT : Kt → Prop
  | .hold x _ => Sg x
  | .ended _ _ => True
  | .again x _ _ _ => Sg x ∧ ∃ y, x.kids = [y]
theorem holds_sg {l : List Rt} (h : ∀ x ∈ l, Sg x) (g : Nat) : ∀ t ∈ holdsK l g, SgT t := by
  induction l generalizing g with
  | nil => intro t ht; cases ht
  | cons a l ih =>
    intro t ht
    rcases List.mem_cons.1 ht with rfl | ht
    · exact h a List.mem_cons_self
    · exact ih (fun x hx => h x (List.mem_cons_of_mem _ hx)) _ t ht
theorem rW_next (c m many : Nat) : c + 1 + 1 ≤ rpW c m many ∧ (many < m → c + 1 + rpW c m (many + 1) < rpW c m many) := by
  unfold rpW
  constructor
  · have := Nat.le_mul_of_pos_left (c + 2) (Nat.succ_pos (m - many))
    omega
  · intro h
    obtain ⟨d, hd⟩ : ∃ d, m - many = d + 1 := ⟨m - many - 1, by omega⟩
    rw [hd, show m - (many + 1) = d by omega, Nat.succ_mul (d + 1)]
    omega
section
variable (offs : Nat → Int) (takes : Rt → Nat → Option Nat)
theorem on_total : ∀ (f : Nat) (n : Nat) (ks : List Kt) (i : Nat) (p : List (Int × Int)), (∀ t ∈ ks, SgT t) → wS i ks < n → ∃ r, On offs takes f ks i p r := by
  intro f
  induction f using Nat.strongRecOn with
  | ind f IHf =>
    intro n
    induction n with
    | zero => intro ks i p _ h; exact absurd h (Nat.not_lt_zero _)
    | succ n IHn =>
      intro ks i p hs hw
      have H : ∀ f', f' ≤ f → ∀ ks' p', (∀ t ∈ ks', SgT t) → wS i ks' < wS i ks → ∃ r, On offs takes f' ks' i p' r := by
        intro f' hf ks' p' hs' hw'
        rcases Nat.lt_or_ge f' f with h | h
        · exact IHf f' h _ ks' i p' hs' (Nat.lt_succ_self _)
        · obtain rfl : f' = f := by omega
          exact IHn ks' i p' hs' (by omega)
      have R : ∀ (x y : Rt) (g many : Nat) (ks' : List Kt) (p' : List (Int × Int)) f', f' ≤ f → Sg x → x.kids = [y] → (∀ t ∈ ks', SgT t) → rpW (wL x.kids) x.mi.toNat many + wS i ks' ≤ wS i ks → ∃ r, OnR offs takes f' x g many ks' i p' r := by
        intro x y g many ks' p' f' hf hx hy hs' hw'
        have hr := rW_next (wL x.kids) x.mi.toNat many
        have hc : wL x.kids = wM y := by rw [hy]; show wM y + 0 = _; omega
        have Tt : ∀ f'', f'' ≤ f → ∃ r, OnT offs takes f'' x g many ks' i p' r := by
          intro f'' hf2
          obtain ⟨r, hr2⟩ := H f'' hf2 (.hold y g :: .again x g (many + 1) i :: ks') (clearP p' g (gM x)) (fun t ht => by
            rcases List.mem_cons.1 ht with rfl | ht
            · exact hx.kid (by rw [hy]; exact List.mem_cons_self)
            rcases List.mem_cons.1 ht with rfl | ht
            · exact ⟨hx, y, hy⟩
            · exact hs' t ht) (by
            show wM y + ((if x.mi < ((many + 1 : Nat) : Int) ∧ i = i then 1 else 1 + rpW (wL x.kids) x.mi.toNat (many + 1)) + wS i ks') < wS i ks
            split
            · omega
            · rename_i h
              have h2 : many < x.mi.toNat := by
                have : ¬ (x.mi < ((many + 1 : Nat) : Int)) := fun q => h ⟨q, rfl⟩
                omega
              have := hr.2 h2
              omega)
          exact ⟨r, .mk _ _ _ _ _ _ _ _ _ hy hr2⟩
        have Rest : ∀ f'', f'' ≤ f → ∃ r, On offs takes f'' ks' i p' r := fun f'' h => H f'' h ks' p' hs' (by omega)
        by_cases h1 : ((many : Nat) : Int) < x.mi
        · obtain ⟨r, h⟩ := Tt f' hf
          exact ⟨r, .must _ _ _ _ _ _ _ _ h1 h⟩
        by_cases h2 : x.ma ≠ -1 ∧ x.ma ≤ ((many : Nat) : Int)
        · obtain ⟨r, h⟩ := Rest f' hf
          exact ⟨r, .full _ _ _ _ _ _ _ _ h1 h2 h⟩
        cases hl : x.lz
        · obtain ⟨r, h⟩ := Tt f' hf
          cases r with
          | found a b c => exact ⟨_, .moreD _ _ _ _ _ _ _ _ h1 h2 hl h (fun _ q => by cases q)⟩
          | dry => exact ⟨_, .moreD _ _ _ _ _ _ _ _ h1 h2 hl h (fun _ q => by cases q)⟩
          | fail f2 =>
            obtain ⟨r, h'⟩ := Rest f2 (Nat.le_trans (ont_left offs takes h) hf)
            exact ⟨r, .moreN _ _ _ _ _ _ _ _ _ h1 h2 hl h h'⟩
        · obtain ⟨r, h⟩ := Rest f' hf
          cases r with
          | found a b c => exact ⟨_, .lazyD _ _ _ _ _ _ _ _ h1 h2 hl h (fun _ q => by cases q)⟩
          | dry => exact ⟨_, .lazyD _ _ _ _ _ _ _ _ h1 h2 hl h (fun _ q => by cases q)⟩
          | fail f2 =>
            obtain ⟨r, h'⟩ := Tt f2 (Nat.le_trans (on_left offs takes h) hf)
            exact ⟨r, .lazyN _ _ _ _ _ _ _ _ _ h1 h2 hl h h'⟩
      have A : ∀ (l : List Rt) (g : Nat) (ks' : List Kt) (p' : List (Int × Int)) f', f' ≤ f → (∀ x ∈ l, Sg x) → (∀ t ∈ ks', SgT t) → wL l + wS i ks' < wS i ks → ∃ r, OnA offs takes f' l g ks' i p' r := by
        intro l
        induction l with
        | nil => intro g ks' p' f' _ _ _ _; exact ⟨_, .nil _ _ _ _ _⟩
        | cons x l ih =>
          intro g ks' p' f' hf hl hs' hw'
          have ew : wL (x :: l) = wM x + wL l := rfl
          obtain ⟨r, h⟩ := H f' hf (.hold x g :: ks') p' (fun t ht => by
            rcases List.mem_cons.1 ht with rfl | ht
            · exact hl x List.mem_cons_self
            · exact hs' t ht) (by show wM x + wS i ks' < _; omega)
          cases r with
          | found a b c => exact ⟨_, .done _ _ _ _ _ _ _ _ h (fun _ q => by cases q)⟩
          | dry => exact ⟨_, .done _ _ _ _ _ _ _ _ h (fun _ q => by cases q)⟩
          | fail f2 =>
            obtain ⟨r, h'⟩ := ih (g + gM x) ks' p' f2 (Nat.le_trans (on_left offs takes h) hf) (fun y hy => hl y (List.mem_cons_of_mem _ hy)) hs' (by omega)
            exact ⟨r, .next _ _ _ _ _ _ _ _ _ h h'⟩
      cases ks with
      | nil => exact ⟨_, .nil _ _ _⟩
      | cons t ks =>
        have hs' : ∀ t ∈ ks, SgT t := fun t ht => hs t (List.mem_cons_of_mem _ ht)
        have ht := hs t List.mem_cons_self
        cases t with
        | ended g b =>
          obtain ⟨r, h⟩ := H f (Nat.le_refl _) ks (p.set g (offs b, offs i)) hs' (by show wS i ks < 1 + wS i ks; omega)
          exact ⟨r, .ended _ _ _ _ _ _ _ h⟩
        | again x g many b =>
          by_cases hk : x.mi < ((many : Nat) : Int) ∧ i = b
          · exact ⟨_, .stuck _ _ _ _ _ _ _ _ hk.1 hk.2⟩
          · obtain ⟨hx, y, hy⟩ := ht
            obtain ⟨r, h⟩ := R x y g many ks p f (Nat.le_refl _) hx hy hs' (by
              show _ ≤ (if x.mi < ((many : Nat) : Int) ∧ i = b then 1 else 1 + rpW (wL x.kids) x.mi.toNat many) + wS i ks
              rw [if_neg hk]; omega)
            exact ⟨r, .again _ _ _ _ _ _ _ _ _ hk h⟩
        | hold x g =>
          have hx : Sg x := ht
          have hwm := wM_eq x
          have ews : wS i (.hold x g :: ks) = wM x + wS i ks := rfl
          by_cases h0 : x.k = 0
          · rw [if_pos (.inl h0)] at hwm
            obtain ⟨r, h⟩ := H f (Nat.le_refl _) (holdsK x.kids g ++ ks) p (fun t ht => by
              rcases List.mem_append.1 ht with ht | ht
              · exact holds_sg (fun y hy => hx.kid hy) g t ht
              · exact hs' t ht) (by rw [wS_holds]; omega)
            exact ⟨r, .seq _ _ _ _ _ _ _ h0 h⟩
          by_cases h1 : x.k = 1
          · rw [if_pos (.inr h1)] at hwm
            obtain ⟨r, h⟩ := A x.kids g ks p f (Nat.le_refl _) (fun y hy => hx.kid hy) hs' (by omega)
            exact ⟨r, .alt _ _ _ _ _ _ _ h1 h⟩
          by_cases h7 : x.k = 7
          · rw [if_neg (by omega), if_pos h7] at hwm
            obtain ⟨y, hy, _⟩ := hx.one (.inr (.inr h7))
            obtain ⟨r, h⟩ := R x y g 0 ks p f (Nat.le_refl _) hx hy hs' (by omega)
            exact ⟨r, .rep _ _ _ _ _ _ _ h7 h⟩
          cases f with
          | zero => exact ⟨_, .dry _ _ _ _ _ ⟨h0, h1, h7⟩⟩
          | succ f =>
            have B : ∀ ks' i' p', (∀ t ∈ ks', SgT t) → ∃ r, On offs takes f ks' i' p' r := fun ks' i' p' h => IHf f (Nat.lt_succ_self _) _ ks' i' p' h (Nat.lt_succ_self _)
            by_cases h5 : x.k = 5
            · obtain ⟨y, hy, hsy⟩ := hx.one (.inl h5)
              obtain ⟨r, h⟩ := B (.hold y (g + 1) :: .ended g i :: ks) i p (fun t ht => by
                rcases List.mem_cons.1 ht with rfl | ht
                · exact hsy
                rcases List.mem_cons.1 ht with rfl | ht
                · exact trivial
                · exact hs' t ht)
              exact ⟨r, .group _ _ _ _ _ _ _ _ h5 hy h⟩
            by_cases h6 : x.k = 6
            · obtain ⟨y, hy, hsy⟩ := hx.one (.inr (.inl h6))
              obtain ⟨r, h⟩ := B (.hold y g :: ks) i p (fun t ht => by
                rcases List.mem_cons.1 ht with rfl | ht
                · exact hsy
                · exact hs' t ht)
              exact ⟨r, .bare _ _ _ _ _ _ _ _ h6 hy h⟩
            cases ht : takes x i with
            | none => exact ⟨_, .no _ _ _ _ _ _ ⟨h0, h1, h7, h5, h6⟩ ht⟩
            | some n =>
              obtain ⟨r, h⟩ := B ks (i + n) p hs'
              exact ⟨r, .yes _ _ _ _ _ _ _ _ ⟨h0, h1, h7, h5, h6⟩ ht h⟩
end
end Go.Proofs.YtcnliipkfccohabGreat
end
section
namespace Go.Proofs.YtcnliipkfccohabGreat
set_option linter.unusedVariables false
inductive Tk where
  | enter (x : Rt) (g : Nat)
  | kids (l : List Rt) (g : Nat)
  | others (l : List Rt) (g : Nat)
  | again (x : Rt) (g n : Nat)
  | begin (x : Rt) (g n : Nat)
  | ended (x : Rt) (g n b : Nat)
  | shut (g b : Nat)
structure Ch where
  todo : List Tk
  i : Nat
  k : Nat
structure Ms where
  todo : List Tk
  i : Nat
  p : List (Int × Int)
  tr : List (Nat × (Int × Int))
  C : List Ch
  f : Nat
inductive Ds where
  | go (s : Ms)
  | failed (s : Ms)
  | dry
def undo (p : List (Int × Int)) (tr : List (Nat × (Int × Int))) (k : Nat) : List (Int × Int) := (tr.drop k).foldr (fun e q => q.set e.1 e.2) p
def setM (C : List Ch) (p : List (Int × Int)) (tr : List (Nat × (Int × Int))) (g : Nat) (v : Int × Int) : List (Int × Int) × List (Nat × (Int × Int)) :=
  (p.set g v, if C ≠ [] ∧ p.getD g (0, 0) ≠ v then tr ++ [(g, p.getD g (0, 0))] else tr)
def clrM (C : List Ch) : Nat → Nat → List (Int × Int) → List (Nat × (Int × Int)) → List (Int × Int) × List (Nat × (Int × Int))
  | _, 0, p, tr => (p, tr)
  | g, n + 1, p, tr => clrM C (g + 1) n (setM C p tr g (-1, -1)).1 (setM C p tr g (-1, -1)).2
section
variable (offs : Nat → Int) (takes : Rt → Nat → Option Nat)
def decM (x : Rt) (g n : Nat) (T : List Tk) (s : Ms) : Ms :=
  if ((n : Nat) : Int) < x.mi then { s with todo := .begin x g n :: T }
  else if x.ma ≠ -1 ∧ x.ma ≤ ((n : Nat) : Int) then { s with todo := T }
  else if x.lz then { s with todo := T, C := ⟨.begin x g n :: T, s.i, s.tr.length⟩ :: s.C }
  else { s with todo := .begin x g n :: T, C := ⟨T, s.i, s.tr.length⟩ :: s.C }
def entM (x : Rt) (g : Nat) (T : List Tk) (s : Ms) : Ds :=
  if x.k = 0 then .go { s with todo := .kids x.kids g :: T }
  else if x.k = 1 then .go { s with todo := .others x.kids g :: T }
  else if x.k = 7 then .go { s with todo := .again x g 0 :: T }
  else if s.f = 0 then .dry
  else if x.k = 5 then match x.kids with
    | [y] => .go { s with todo := .enter y (g + 1) :: .shut g s.i :: T, f := s.f - 1 }
    | _ => .dry
  else if x.k = 6 then match x.kids with
    | [y] => .go { s with todo := .enter y g :: T, f := s.f - 1 }
    | _ => .dry
  else match takes x s.i with
    | some n => .go { s with todo := T, i := s.i + n, f := s.f - 1 }
    | none => .failed { s with todo := T, f := s.f - 1 }
def doM (t : Tk) (T : List Tk) (s : Ms) : Ds :=
  match t with
  | .enter x g => entM takes x g T s
  | .kids [] g => .go { s with todo := T }
  | .kids [x] g => .go { s with todo := .enter x g :: T }
  | .kids (x :: y :: l) g => .go { s with todo := .enter x g :: .kids (y :: l) (g + gM x) :: T }
  | .others [] g => .failed { s with todo := T }
  | .others [x] g => .go { s with todo := .enter x g :: T }
  | .others (x :: y :: l) g => .go { s with todo := .enter x g :: T, C := ⟨.others (y :: l) (g + gM x) :: T, s.i, s.tr.length⟩ :: s.C }
  | .again x g n => .go (decM x g n T s)
  | .begin x g n => match x.kids with
    | [y] => .go { s with todo := .enter y g :: .ended x g n s.i :: T, p := (clrM s.C g (gM x) s.p s.tr).1, tr := (clrM s.C g (gM x) s.p s.tr).2 }
    | _ => .dry
  | .ended x g n b => if x.mi ≤ ((n : Nat) : Int) ∧ s.i = b then .failed { s with todo := T } else .go { s with todo := .again x g (n + 1) :: T }
  | .shut g b => .go { s with todo := T, p := (setM s.C s.p s.tr g (offs b, offs s.i)).1, tr := (setM s.C s.p s.tr g (offs b, offs s.i)).2 }
inductive Runs : Ms → Ro → Prop
  | found (i p tr C f) : Runs ⟨[], i, p, tr, C, f⟩ (.found i p f)
  | go (t T i p tr C f s' r) (h : doM offs takes t T ⟨t :: T, i, p, tr, C, f⟩ = .go s') (h2 : Runs s' r) : Runs ⟨t :: T, i, p, tr, C, f⟩ r
  | back (t T i p tr C f T' i' p' tr' c C' f' r) (h : doM offs takes t T ⟨t :: T, i, p, tr, C, f⟩ = .failed ⟨T', i', p', tr', c :: C', f'⟩)
      (h2 : Runs ⟨c.todo, c.i, undo p' tr' c.k, tr'.take c.k, C', f'⟩ r) : Runs ⟨t :: T, i, p, tr, C, f⟩ r
  | fail (t T i p tr C f T' i' p' tr' f') (h : doM offs takes t T ⟨t :: T, i, p, tr, C, f⟩ = .failed ⟨T', i', p', tr', [], f'⟩) : Runs ⟨t :: T, i, p, tr, C, f⟩ (.fail f')
  | dry (t T i p tr C f) (h : doM offs takes t T ⟨t :: T, i, p, tr, C, f⟩ = .dry) : Runs ⟨t :: T, i, p, tr, C, f⟩ .dry
inductive Tks : List Tk → List Kt → Prop
  | nil : Tks [] []
  | enter (x g T ks) (h : Tks T ks) : Tks (.enter x g :: T) (.hold x g :: ks)
  | kids (l g T ks) (h : Tks T ks) : Tks (.kids l g :: T) (holdsK l g ++ ks)
  | ended (x g n b T ks) (h : Tks T ks) : Tks (.ended x g n b :: T) (.again x g (n + 1) b :: ks)
  | shut (g b T ks) (h : Tks T ks) : Tks (.shut g b :: T) (.ended g b :: ks)
def WfC (C : List Ch) (tr : List (Nat × (Int × Int))) : Prop := match C with
  | [] => True
  | c :: _ => c.k ≤ tr.length
def FailsTo (C : List Ch) (p : List (Int × Int)) (tr : List (Nat × (Int × Int))) (f : Nat) (R : Ro) : Prop := match C with
  | [] => R = .fail f
  | c :: C' => Runs offs takes ⟨c.todo, c.i, undo p tr c.k, tr.take c.k, C', f⟩ R
def Fin' (C : List Ch) (p : List (Int × Int)) (tr : List (Nat × (Int × Int))) (r R : Ro) : Prop := match r with
  | .found i q f => R = .found i q f
  | .fail f => FailsTo offs takes C p tr f R
  | .dry => R = .dry
theorem undo_len (p : List (Int × Int)) (tr : List (Nat × (Int × Int))) : undo p tr tr.length = p := by simp [undo]
theorem set_back (p : List (Int × Int)) (g : Nat) (v : Int × Int) : (p.set g v).set g (p.getD g (0, 0)) = p := by
  rw [List.set_set]
  by_cases h : g < p.length
  · rw [List.getD_eq_getElem?_getD, List.getElem?_eq_getElem h, Option.getD_some]; exact List.set_getElem_self h
  · exact List.set_eq_of_length_le (by omega)
theorem set_same (p : List (Int × Int)) (g : Nat) (v : Int × Int) (h : p.getD g (0, 0) = v) : p.set g v = p := by
  have h2 := set_back p g v
  rwa [List.set_set, h] at h2
theorem setM_wf {C : List Ch} {p tr} (g v) (h : WfC C tr) : WfC C (setM C p tr g v).2 := by
  unfold setM
  cases C with
  | nil => trivial
  | cons c C =>
    have h : c.k ≤ tr.length := h
    show c.k ≤ _
    dsimp only
    split
    · rw [List.length_append]; omega
    · exact h
theorem setM_fails {C : List Ch} {p tr} (g v) {f R} (h : WfC C tr) (hF : FailsTo offs takes C p tr f R) : FailsTo offs takes C (setM C p tr g v).1 (setM C p tr g v).2 f R := by
  cases C with
  | nil => exact hF
  | cons c C =>
    have h : c.k ≤ tr.length := h
    have hF : Runs offs takes ⟨c.todo, c.i, undo p tr c.k, tr.take c.k, C, f⟩ R := hF
    show Runs offs takes ⟨c.todo, c.i, undo _ _ c.k, List.take c.k _, C, f⟩ R
    unfold setM
    dsimp only
    by_cases h2 : p.getD g (0, 0) = v
    · rw [if_neg (fun hh => hh.2 h2), set_same p g v h2]; exact hF
    · rw [if_pos ⟨by simp, h2⟩, List.take_append_of_le_length h]
      unfold undo
      rw [List.drop_append_of_le_length h, List.foldr_append]
      show Runs offs takes ⟨c.todo, c.i, List.foldr _ ((p.set g v).set g (p.getD g (0, 0))) _, _, C, f⟩ R
      rw [set_back]
      exact hF
theorem clrM_wf {C : List Ch} : ∀ (n g : Nat) (p : List (Int × Int)) (tr : List (Nat × (Int × Int))), WfC C tr → WfC C (clrM C g n p tr).2
  | 0, _, _, _, h => h
  | n + 1, g, p, tr, h => clrM_wf n (g + 1) _ _ (setM_wf g (-1, -1) h)
theorem clrM_fails {C : List Ch} {f R} : ∀ (n g : Nat) (p : List (Int × Int)) (tr : List (Nat × (Int × Int))), WfC C tr → FailsTo offs takes C p tr f R →
    FailsTo offs takes C (clrM C g n p tr).1 (clrM C g n p tr).2 f R
  | 0, _, _, _, _, h => h
  | n + 1, g, p, tr, hw, h => clrM_fails n (g + 1) _ _ (setM_wf g (-1, -1) hw) (setM_fails offs takes g (-1, -1) hw h)
theorem clr_zero (p : List (Int × Int)) (g : Nat) : clearP p g 0 = p := by
  unfold clearP
  apply List.ext_getElem (by simp)
  intro j h1 h2
  rw [List.getElem_mapIdx, if_neg (by omega)]
theorem clr_succ (p : List (Int × Int)) (g n : Nat) : clearP (p.set g (-1, -1)) (g + 1) n = clearP p g (n + 1) := by
  unfold clearP
  apply List.ext_getElem (by simp)
  intro j h1 h2
  rw [List.getElem_mapIdx, List.getElem_mapIdx, List.getElem_set]
  by_cases h3 : g = j
  · rw [if_neg (by omega), if_pos h3, if_pos (by omega)]
  · rw [if_neg h3]
    by_cases h4 : g + 1 ≤ j ∧ j < g + 1 + n
    · rw [if_pos h4, if_pos (by omega)]
    · rw [if_neg h4, if_neg (by omega)]
theorem clrM_p {C : List Ch} : ∀ (n g : Nat) (p : List (Int × Int)) (tr : List (Nat × (Int × Int))), (clrM C g n p tr).1 = clearP p g n
  | 0, g, p, tr => (clr_zero p g).symm
  | n + 1, g, p, tr => by rw [clrM, clrM_p n (g + 1)]; exact clr_succ p g n
theorem Fin'.mono {C : List Ch} {p tr p' tr' r R} (h : Fin' offs takes C p tr r R) (hF : ∀ f, FailsTo offs takes C p tr f R → FailsTo offs takes C p' tr' f R) : Fin' offs takes C p' tr' r R := by
  cases r with
  | found i q f => exact h
  | fail f => exact hF f h
  | dry => exact h
theorem Fin'.any {C C' : List Ch} {p tr p' tr' r R} (h : Fin' offs takes C p tr r R) (hr : ∀ f', r ≠ .fail f') : Fin' offs takes C' p' tr' r R := by
  cases r with
  | found i q f => exact h
  | fail f => exact absurd rfl (hr f)
  | dry => exact h
theorem tks_nil : ∀ {T : List Tk} {ks : List Kt}, Tks T ks → ks = [] → ∀ {i p tr C f R}, Runs offs takes ⟨[], i, p, tr, C, f⟩ R → Runs offs takes ⟨T, i, p, tr, C, f⟩ R
  | _, _, .nil, _, _, _, _, _, _, _, h => h
  | _, _, .enter .., he, _, _, _, _, _, _, _ => by simp at he
  | _, _, .kids [] g T ks h, he, _, _, _, _, _, _, h2 => .go _ _ _ _ _ _ _ _ _ rfl (tks_nil h he h2)
  | _, _, .kids (x :: l) g T ks h, he, _, _, _, _, _, _, h2 => by simp [holdsK] at he
  | _, _, .ended .., he, _, _, _, _, _, _, _ => by simp at he
  | _, _, .shut .., he, _, _, _, _, _, _, _ => by simp at he
theorem tks_hold {x : Rt} {g : Nat} {ks : List Kt} : ∀ {T : List Tk} {ks0 : List Kt}, Tks T ks0 → ks0 = .hold x g :: ks →
    ∃ T', Tks T' ks ∧ ∀ {i p tr C f R}, Runs offs takes ⟨.enter x g :: T', i, p, tr, C, f⟩ R → Runs offs takes ⟨T, i, p, tr, C, f⟩ R
  | _, _, .nil, he => by simp at he
  | _, _, .enter x' g' T ks' h, he => by
    injection he with h1 h2; injection h1 with h3 h4; subst h2 h3 h4
    exact ⟨T, h, fun h => h⟩
  | _, _, .kids [] g' T ks' h, he => by
    obtain ⟨T', h1, h2⟩ := tks_hold h he
    exact ⟨T', h1, fun h3 => .go _ _ _ _ _ _ _ _ _ rfl (h2 h3)⟩
  | _, _, .kids [y] g' T ks' h, he => by
    simp only [holdsK, List.cons_append, List.nil_append, List.cons.injEq, Kt.hold.injEq] at he
    obtain ⟨⟨h3, h4⟩, h2⟩ := he
    subst h3 h4 h2
    exact ⟨T, h, fun h3 => .go _ _ _ _ _ _ _ _ _ rfl h3⟩
  | _, _, .kids (y :: z :: l) g' T ks' h, he => by
    rw [holdsK, List.cons_append] at he
    injection he with h1 h2; injection h1 with h3 h4; subst h3 h4 h2
    exact ⟨_, .kids (z :: l) _ T ks' h, fun h3 => .go _ _ _ _ _ _ _ _ _ rfl h3⟩
  | _, _, .ended .., he => by simp at he
  | _, _, .shut .., he => by simp at he
theorem tks_ended {g b : Nat} {ks : List Kt} : ∀ {T : List Tk} {ks0 : List Kt}, Tks T ks0 → ks0 = .ended g b :: ks →
    ∃ T', Tks T' ks ∧ ∀ {i p tr C f R}, Runs offs takes ⟨.shut g b :: T', i, p, tr, C, f⟩ R → Runs offs takes ⟨T, i, p, tr, C, f⟩ R
  | _, _, .nil, he => by simp at he
  | _, _, .enter .., he => by simp at he
  | _, _, .kids [] g' T ks' h, he => by
    obtain ⟨T', h1, h2⟩ := tks_ended h he
    exact ⟨T', h1, fun h3 => .go _ _ _ _ _ _ _ _ _ rfl (h2 h3)⟩
  | _, _, .kids (y :: l) g' T ks' h, he => by simp [holdsK] at he
  | _, _, .ended .., he => by simp at he
  | _, _, .shut g' b' T ks' h, he => by
    injection he with h1 h2; injection h1 with h3 h4; subst h2 h3 h4
    exact ⟨T, h, fun h => h⟩
theorem tks_again {x : Rt} {g m b : Nat} {ks : List Kt} : ∀ {T : List Tk} {ks0 : List Kt}, Tks T ks0 → ks0 = .again x g m b :: ks →
    ∃ T' n, m = n + 1 ∧ Tks T' ks ∧ ∀ {i p tr C f R}, Runs offs takes ⟨.ended x g n b :: T', i, p, tr, C, f⟩ R → Runs offs takes ⟨T, i, p, tr, C, f⟩ R
  | _, _, .nil, he => by simp at he
  | _, _, .enter .., he => by simp at he
  | _, _, .kids [] g' T ks' h, he => by
    obtain ⟨T', n, h0, h1, h2⟩ := tks_again h he
    exact ⟨T', n, h0, h1, fun h3 => .go _ _ _ _ _ _ _ _ _ rfl (h2 h3)⟩
  | _, _, .kids (y :: l) g' T ks' h, he => by simp [holdsK] at he
  | _, _, .ended x' g' n' b' T ks' h, he => by
    injection he with h1 h2; injection h1 with h3 h4 h5 h6; subst h2 h3 h4 h6
    exact ⟨T, n', h5.symm, h, fun h => h⟩
  | _, _, .shut .., he => by simp at he
theorem fails_runs {t : Tk} {T : List Tk} {i p tr C f T' i' p' tr' f' R} (hd : doM offs takes t T ⟨t :: T, i, p, tr, C, f⟩ = .failed ⟨T', i', p', tr', C, f'⟩)
    (hF : FailsTo offs takes C p' tr' f' R) : Runs offs takes ⟨t :: T, i, p, tr, C, f⟩ R := by
  cases C with
  | nil => rw [show R = .fail f' from hF]; exact .fail _ _ _ _ _ _ _ _ _ _ _ _ hd
  | cons c C => exact .back _ _ _ _ _ _ _ _ _ _ _ _ _ _ _ hd hF
theorem doM_nil (T : List Tk) (g : Nat) (s : Ms) : doM offs takes (.others [] g) T s = .failed { s with todo := T } := rfl
mutual
  /-- What On says, the machine does: a match, a way back, or no fuel. -/
  theorem on_runs : ∀ {f : Nat} {ks : List Kt} {i : Nat} {p : List (Int × Int)} {r : Ro}, On offs takes f ks i p r →
      ∀ {T C tr R}, Tks T ks → WfC C tr → Fin' offs takes C p tr r R → Runs offs takes ⟨T, i, p, tr, C, f⟩ R
    | _, _, _, _, _, .nil f i p, T, C, tr, R, ht, hw, hF => by
      rw [show R = .found i p f from hF]
      exact tks_nil offs takes ht rfl (.found i p tr C f)
    | _, _, _, _, _, .ended f g b ks i p r h, T, C, tr, R, ht, hw, hF => by
      obtain ⟨T', h1, h2⟩ := tks_ended offs takes ht rfl
      exact h2 (.go _ _ _ _ _ _ _ _ _ rfl (on_runs h h1 (setM_wf g _ hw) (hF.mono offs takes fun f hf => setM_fails offs takes g _ hw hf)))
    | _, _, _, _, _, .stuck f x g many b ks i p h1 h2, T, C, tr, R, ht, hw, hF => by
      obtain ⟨T', n, h0, h3, h4⟩ := tks_again offs takes ht rfl
      refine h4 ?_
      have hd : doM offs takes (.ended x g n b) T' ⟨.ended x g n b :: T', i, p, tr, C, f⟩ = .failed ⟨T', i, p, tr, C, f⟩ := by
        show (if _ then _ else _) = _
        rw [if_pos ⟨by omega, h2⟩]
      exact fails_runs offs takes hd hF
    | _, _, _, _, _, .again f x g many b ks i p r h1 h, T, C, tr, R, ht, hw, hF => by
      obtain ⟨T', n, h0, h3, h4⟩ := tks_again offs takes ht rfl
      refine h4 (.go _ _ _ _ _ _ _ _ _ ?_ (onr_runs h h3 hw hF))
      show (if _ then _ else _) = _
      rw [if_neg (fun hh => h1 ⟨by omega, hh.2⟩), h0]
    | _, _, _, _, _, .seq f x g ks i p r hk h, T, C, tr, R, ht, hw, hF => by
      obtain ⟨T', h3, h4⟩ := tks_hold offs takes ht rfl
      refine h4 (.go _ _ _ _ _ _ _ _ _ ?_ (on_runs h (.kids x.kids g T' ks h3) hw hF))
      show entM takes x g T' _ = _
      unfold entM
      rw [if_pos hk]
    | _, _, _, _, _, .alt f x g ks i p r hk h, T, C, tr, R, ht, hw, hF => by
      obtain ⟨T', h3, h4⟩ := tks_hold offs takes ht rfl
      refine h4 (.go _ _ _ _ _ _ _ _ _ ?_ (ona_runs h h3 hw hF))
      show entM takes x g T' _ = _
      unfold entM
      rw [if_neg (by omega), if_pos hk]
    | _, _, _, _, _, .rep f x g ks i p r hk h, T, C, tr, R, ht, hw, hF => by
      obtain ⟨T', h3, h4⟩ := tks_hold offs takes ht rfl
      refine h4 (.go _ _ _ _ _ _ _ _ _ ?_ (onr_runs h h3 hw hF))
      show entM takes x g T' _ = _
      unfold entM
      rw [if_neg (by omega), if_neg (by omega), if_pos hk]
    | _, _, _, _, _, .dry x g ks i p hk, T, C, tr, R, ht, hw, hF => by
      obtain ⟨T', h3, h4⟩ := tks_hold offs takes ht rfl
      rw [show R = .dry from hF]
      refine h4 (.dry _ _ _ _ _ _ _ ?_)
      show entM takes x g T' _ = _
      unfold entM
      rw [if_neg hk.1, if_neg hk.2.1, if_neg hk.2.2, if_pos rfl]
    | _, _, _, _, _, .group f x y g ks i p r hk hy h, T, C, tr, R, ht, hw, hF => by
      obtain ⟨T', h3, h4⟩ := tks_hold offs takes ht rfl
      refine h4 (.go _ _ _ _ _ _ _ _ _ ?_ (on_runs h (.enter y (g + 1) _ _ (.shut g i T' ks h3)) hw hF))
      show entM takes x g T' _ = _
      unfold entM
      rw [if_neg (by omega), if_neg (by omega), if_neg (by omega), if_neg (by simp), if_pos hk, hy]
      rfl
    | _, _, _, _, _, .bare f x y g ks i p r hk hy h, T, C, tr, R, ht, hw, hF => by
      obtain ⟨T', h3, h4⟩ := tks_hold offs takes ht rfl
      refine h4 (.go _ _ _ _ _ _ _ _ _ ?_ (on_runs h (.enter y g _ _ h3) hw hF))
      show entM takes x g T' _ = _
      unfold entM
      rw [if_neg (by omega), if_neg (by omega), if_neg (by omega), if_neg (by simp), if_neg (by omega), if_pos hk, hy]
      rfl
    | _, _, _, _, _, .no f x g ks i p hk hn, T, C, tr, R, ht, hw, hF => by
      obtain ⟨T', h3, h4⟩ := tks_hold offs takes ht rfl
      refine h4 ?_
      have hd : doM offs takes (.enter x g) T' ⟨.enter x g :: T', i, p, tr, C, f + 1⟩ = .failed ⟨T', i, p, tr, C, f⟩ := by
        show entM takes x g T' _ = _
        unfold entM
        rw [if_neg hk.1, if_neg hk.2.1, if_neg hk.2.2.1, if_neg (by simp), if_neg hk.2.2.2.1, if_neg hk.2.2.2.2]
        dsimp only
        rw [hn]
        rfl
      exact fails_runs offs takes hd hF
    | _, _, _, _, _, .yes f x g ks i p n r hk hn h, T, C, tr, R, ht, hw, hF => by
      obtain ⟨T', h3, h4⟩ := tks_hold offs takes ht rfl
      refine h4 (.go _ _ _ _ _ _ _ _ _ ?_ (on_runs h h3 hw hF))
      show entM takes x g T' _ = _
      unfold entM
      rw [if_neg hk.1, if_neg hk.2.1, if_neg hk.2.2.1, if_neg (by simp), if_neg hk.2.2.2.1, if_neg hk.2.2.2.2]
      dsimp only
      rw [hn]
      rfl
  theorem ona_runs : ∀ {f : Nat} {l : List Rt} {g : Nat} {ks : List Kt} {i : Nat} {p : List (Int × Int)} {r : Ro}, OnA offs takes f l g ks i p r →
      ∀ {T C tr R}, Tks T ks → WfC C tr → Fin' offs takes C p tr r R → Runs offs takes ⟨.others l g :: T, i, p, tr, C, f⟩ R
    | _, _, _, _, _, _, _, .nil f g ks i p, T, C, tr, R, ht, hw, hF => fails_runs offs takes (doM_nil offs takes T g _) hF
    | _, _, _, _, _, _, _, .done f x [] g ks i p r h hr, T, C, tr, R, ht, hw, hF =>
      .go _ _ _ _ _ _ _ _ _ rfl (on_runs h (.enter x g _ _ ht) hw hF)
    | _, _, _, _, _, _, _, .done f x (y :: l) g ks i p r h hr, T, C, tr, R, ht, hw, hF =>
      .go _ _ _ _ _ _ _ _ _ rfl (on_runs h (.enter x g _ _ ht) (Nat.le_refl _) (hF.any offs takes hr))
    | _, _, _, _, _, _, _, .next f f' x [] g ks i p r h h2, T, C, tr, R, ht, hw, hF => by
      cases h2
      exact .go _ _ _ _ _ _ _ _ _ rfl (on_runs h (.enter x g _ _ ht) hw hF)
    | _, _, _, _, _, _, _, .next f f' x (y :: l) g ks i p r h h2, T, C, tr, R, ht, hw, hF => by
      refine .go _ _ _ _ _ _ _ _ _ rfl (on_runs h (.enter x g _ _ ht) (Nat.le_refl _) ?_)
      show Runs offs takes ⟨_, i, undo p tr tr.length, tr.take tr.length, C, f'⟩ R
      rw [undo_len, List.take_length]
      exact ona_runs h2 ht hw hF
  theorem onr_runs : ∀ {f : Nat} {x : Rt} {g many : Nat} {ks : List Kt} {i : Nat} {p : List (Int × Int)} {r : Ro}, OnR offs takes f x g many ks i p r →
      ∀ {T C tr R}, Tks T ks → WfC C tr → Fin' offs takes C p tr r R → Runs offs takes ⟨.again x g many :: T, i, p, tr, C, f⟩ R
    | _, _, _, _, _, _, _, _, .must f x g many ks i p r h1 h, T, C, tr, R, ht, hw, hF =>
      .go _ _ _ _ _ _ _ _ _ (congrArg Ds.go (by unfold decM; rw [if_pos h1])) (ont_runs h ht hw hF)
    | _, _, _, _, _, _, _, _, .full f x g many ks i p r h1 h2 h, T, C, tr, R, ht, hw, hF =>
      .go _ _ _ _ _ _ _ _ _ (congrArg Ds.go (by unfold decM; rw [if_neg h1, if_pos h2])) (on_runs h ht hw hF)
    | _, _, _, _, _, _, _, _, .lazyD f x g many ks i p r h1 h2 hl h hr, T, C, tr, R, ht, hw, hF =>
      .go _ _ _ _ _ _ _ _ _ (congrArg Ds.go (by unfold decM; rw [if_neg h1, if_neg h2, if_pos hl])) (on_runs h ht (Nat.le_refl _) (hF.any offs takes hr))
    | _, _, _, _, _, _, _, _, .lazyN f f' x g many ks i p r h1 h2 hl h h3, T, C, tr, R, ht, hw, hF => by
      refine .go _ _ _ _ _ _ _ _ _ (congrArg Ds.go (by unfold decM; rw [if_neg h1, if_neg h2, if_pos hl])) (on_runs h ht (Nat.le_refl _) ?_)
      show Runs offs takes ⟨_, i, undo p tr tr.length, tr.take tr.length, C, f'⟩ R
      rw [undo_len, List.take_length]
      exact ont_runs h3 ht hw hF
    | _, _, _, _, _, _, _, _, .moreD f x g many ks i p r h1 h2 hl h hr, T, C, tr, R, ht, hw, hF =>
      .go _ _ _ _ _ _ _ _ _ (congrArg Ds.go (by unfold decM; rw [if_neg h1, if_neg h2, if_neg (by rw [hl]; exact Bool.false_ne_true)])) (ont_runs h ht (Nat.le_refl _) (hF.any offs takes hr))
    | _, _, _, _, _, _, _, _, .moreN f f' x g many ks i p r h1 h2 hl h h3, T, C, tr, R, ht, hw, hF => by
      refine .go _ _ _ _ _ _ _ _ _ (congrArg Ds.go (by unfold decM; rw [if_neg h1, if_neg h2, if_neg (by rw [hl]; exact Bool.false_ne_true)])) (ont_runs h ht (Nat.le_refl _) ?_)
      show Runs offs takes ⟨_, i, undo p tr tr.length, tr.take tr.length, C, f'⟩ R
      rw [undo_len, List.take_length]
      exact on_runs h3 ht hw hF
  theorem ont_runs : ∀ {f : Nat} {x : Rt} {g many : Nat} {ks : List Kt} {i : Nat} {p : List (Int × Int)} {r : Ro}, OnT offs takes f x g many ks i p r →
      ∀ {T C tr R}, Tks T ks → WfC C tr → Fin' offs takes C p tr r R → Runs offs takes ⟨.begin x g many :: T, i, p, tr, C, f⟩ R
    | _, _, _, _, _, _, _, _, .mk f x y g many ks i p r hy h, T, C, tr, R, ht, hw, hF => by
      have hd : doM offs takes (.begin x g many) T ⟨.begin x g many :: T, i, p, tr, C, f⟩ = .go ⟨.enter y g :: .ended x g many i :: T, i, clearP p g (gM x), (clrM C g (gM x) p tr).2, C, f⟩ := by
        show (match x.kids with | [y] => _ | _ => _) = _
        rw [hy]
        dsimp only
        rw [clrM_p]
      refine .go _ _ _ _ _ _ _ _ _ hd (on_runs h (.enter y g _ _ (.ended x g many i T ks ht)) (clrM_wf _ _ _ _ hw) (hF.mono offs takes fun f hf => ?_))
      rw [← clrM_p (C := C) (gM x) g p tr]
      exact clrM_fails offs takes _ _ _ _ hw hf
end
end
end Go.Proofs.YtcnliipkfccohabGreat
end
section
namespace Go.Proofs.YtcnliipkfccohabGreat
set_option linter.unusedVariables false
section
variable (offs : Nat → Int) (takes : Rt → Nat → Option Nat)
inductive RunsN : Nat → Ms → Ro → Prop
  | found (i p tr C f) : RunsN 0 ⟨[], i, p, tr, C, f⟩ (.found i p f)
  | go (n t T i p tr C f s' r) (h : doM offs takes t T ⟨t :: T, i, p, tr, C, f⟩ = .go s') (h2 : RunsN n s' r) : RunsN (n + 1) ⟨t :: T, i, p, tr, C, f⟩ r
  | back (n t T i p tr C f T' i' p' tr' c C' f' r) (h : doM offs takes t T ⟨t :: T, i, p, tr, C, f⟩ = .failed ⟨T', i', p', tr', c :: C', f'⟩)
      (h2 : RunsN n ⟨c.todo, c.i, undo p' tr' c.k, tr'.take c.k, C', f'⟩ r) : RunsN (n + 1) ⟨t :: T, i, p, tr, C, f⟩ r
  | fail (t T i p tr C f T' i' p' tr' f') (h : doM offs takes t T ⟨t :: T, i, p, tr, C, f⟩ = .failed ⟨T', i', p', tr', [], f'⟩) : RunsN 0 ⟨t :: T, i, p, tr, C, f⟩ (.fail f')
  | dry (t T i p tr C f) (h : doM offs takes t T ⟨t :: T, i, p, tr, C, f⟩ = .dry) : RunsN 0 ⟨t :: T, i, p, tr, C, f⟩ .dry
theorem runs_n {s : Ms} {r : Ro} (h : Runs offs takes s r) : ∃ n, RunsN offs takes n s r := by
  induction h with
  | found i p tr C f => exact ⟨0, .found i p tr C f⟩
  | go t T i p tr C f s' r h h2 ih => obtain ⟨n, hn⟩ := ih; exact ⟨n + 1, .go _ _ _ _ _ _ _ _ _ _ h hn⟩
  | back t T i p tr C f T' i' p' tr' c C' f' r h h2 ih => obtain ⟨n, hn⟩ := ih; exact ⟨n + 1, .back _ _ _ _ _ _ _ _ _ _ _ _ _ _ _ _ h hn⟩
  | fail t T i p tr C f T' i' p' tr' f' h => exact ⟨0, .fail _ _ _ _ _ _ _ _ _ _ _ _ h⟩
  | dry t T i p tr C f h => exact ⟨0, .dry _ _ _ _ _ _ _ h⟩
theorem run_on {x : Rt} {g f i : Nat} {p : List (Int × Int)} {r : Ro} (h : On offs takes f [.hold x g] i p r) :
    ∃ n, RunsN offs takes n ⟨[.enter x g], i, p, [], [], f⟩ r := by
  refine runs_n offs takes (on_runs offs takes h (.enter x g _ _ .nil) trivial ?_)
  cases r with
  | found i q f => rfl
  | fail f => rfl
  | dry => rfl
theorem runsN_go {n : Nat} {t : Tk} {T : List Tk} {i p tr C f r s'} (h : RunsN offs takes n ⟨t :: T, i, p, tr, C, f⟩ r)
    (hd : doM offs takes t T ⟨t :: T, i, p, tr, C, f⟩ = .go s') : ∃ m, n = m + 1 ∧ RunsN offs takes m s' r := by
  cases h with
  | go n t T i p tr C f s2 r h h2 => rw [h] at hd; injection hd with hd; subst hd; exact ⟨n, rfl, h2⟩
  | back n t T i p tr C f T' i' p' tr' c C' f' r h h2 => rw [h] at hd; cases hd
  | fail t T i p tr C f T' i' p' tr' f' h => rw [h] at hd; cases hd
  | dry t T i p tr C f h => rw [h] at hd; cases hd
theorem runsN_back {n : Nat} {t : Tk} {T : List Tk} {i p tr C f r T' i' p' tr' c C' f'} (h : RunsN offs takes n ⟨t :: T, i, p, tr, C, f⟩ r)
    (hd : doM offs takes t T ⟨t :: T, i, p, tr, C, f⟩ = .failed ⟨T', i', p', tr', c :: C', f'⟩) :
    ∃ m, n = m + 1 ∧ RunsN offs takes m ⟨c.todo, c.i, undo p' tr' c.k, tr'.take c.k, C', f'⟩ r := by
  cases h with
  | go n t T i p tr C f s2 r h h2 => rw [h] at hd; cases hd
  | back n t T i p tr C f T2 i2 p2 tr2 c2 C2 f2 r h h2 => rw [h] at hd; cases hd; exact ⟨n, rfl, h2⟩
  | fail t T i p tr C f T2 i2 p2 tr2 f2 h => rw [h] at hd; cases hd
  | dry t T i p tr C f h => rw [h] at hd; cases hd
theorem runsN_fail {n : Nat} {t : Tk} {T : List Tk} {i p tr C f r T' i' p' tr' f'} (h : RunsN offs takes n ⟨t :: T, i, p, tr, C, f⟩ r)
    (hd : doM offs takes t T ⟨t :: T, i, p, tr, C, f⟩ = .failed ⟨T', i', p', tr', [], f'⟩) : r = .fail f' := by
  cases h with
  | go n t T i p tr C f s2 r h h2 => rw [h] at hd; cases hd
  | back n t T i p tr C f T2 i2 p2 tr2 c2 C2 f2 r h h2 => rw [h] at hd; cases hd
  | fail t T i p tr C f T2 i2 p2 tr2 f2 h => rw [h] at hd; cases hd; rfl
  | dry t T i p tr C f h => rw [h] at hd; cases hd
theorem runsN_dry {n : Nat} {t : Tk} {T : List Tk} {i p tr C f r} (h : RunsN offs takes n ⟨t :: T, i, p, tr, C, f⟩ r)
    (hd : doM offs takes t T ⟨t :: T, i, p, tr, C, f⟩ = .dry) : r = .dry := by
  cases h with
  | go n t T i p tr C f s2 r h h2 => rw [h] at hd; cases hd
  | back n t T i p tr C f T2 i2 p2 tr2 c2 C2 f2 r h h2 => rw [h] at hd; cases hd
  | fail t T i p tr C f T2 i2 p2 tr2 f2 h => rw [h] at hd; cases hd
  | dry t T i p tr C f h => rfl
theorem runsN_nil {n : Nat} {i p tr C f r} (h : RunsN offs takes n ⟨[], i, p, tr, C, f⟩ r) : r = .found i p f := by
  cases h with
  | found => rfl
end
end Go.Proofs.YtcnliipkfccohabGreat
end
