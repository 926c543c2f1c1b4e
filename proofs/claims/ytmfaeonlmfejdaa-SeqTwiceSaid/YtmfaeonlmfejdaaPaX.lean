/- Contracts: a place in a pattern that is read (rxread's position): its end, the character there, behind it, a sign taken. Condition: the place is in the text. Contracts: single bytes (octet); a number in a pattern (rxread's number); what a character behind a backslash stands for (escaped). Condition: the place is in the text. Contracts: what a character behind a backslash stands for; the bounds in braces; does a range begin (rxread). Condition: the place is in the text. Contract: does a range begin here (rxread's beginsRange). Condition: the place is in the text. Contracts: the named classes, with where their rows lie; an item of a class; an item or a range of a class (rxread). Condition: the place is in the text. Contract: an item or a range of a class (rxread's rows). Condition: the place is in the text. Two results, the first in a variable of its own; what a moved place leaves; plain facts of the rows of a class. No condition. What a reading function answers; contract: what stands behind a backslash (rxread's backslash). Condition: the place is in the text. Contract: a class (rxread's class). Condition: the place is in a text of at most 256 bytes. Contract: a quantifier behind a tree (rxread's quantified). Condition: the place is in the text. -/
import Derived.Test.YtmfaeonlmfejdaaSetC
import Derived.Test.YtmfaeonlmfejdaaLater
import Derived.Deep.DrawnRows
import Derived.BigQuiet
import Derived.Test.YtmfaeonlmfejdaaRowJ
import Derived.Test.YtmfaeonlmfejdaaRxI
import Derived.Test.YtmfaeonlmfejdaaRxF
import Derived.Test.YtmfaeonlmfejdaaRxJ
import Derived.Test.YtmfaeonlmfejdaaRowF
import Derived.Test.YtmfaeonlmfejdaaApp
import Derived.Test.YtmfaeonlmfejdaaRxP
import Derived.RegionTactic
namespace Go.Proofs.Ytmfaeonlmfejdaa
section
open Go.ChangeShapes Go.WideShapes Go.ChangeAt Go.RowKit
attribute [local go_sem ↓] Go.wp_at_zero Go.wp_at_succ
set_option maxRecDepth 100000
set_option linter.unusedVariables false
/-- The first character; what is behind it. -/
def hdC (l : List UInt8) : List UInt8 := l.take (firstN l)
def tlC (l : List UInt8) : List UInt8 := l.drop (firstN l)
theorem hdC_len (l : List UInt8) : (hdC l).length = firstN l := by rw [hdC, List.length_take]; exact Nat.min_eq_left (firstN_le l)
theorem hd_tl (l : List UInt8) : hdC l ++ tlC l = l := List.take_append_drop _ _
theorem tl_len (l : List UInt8) (h : l ≠ []) : (tlC l).length < l.length := by
  have h1 : 0 < l.length := List.length_pos_iff.2 h
  have := firstN_pos l h1
  rw [tlC, List.length_drop]; omega
theorem tl_le (l : List UInt8) : (tlC l).length ≤ l.length := by rw [tlC, List.length_drop]; omega
theorem hd_nil {l : List UInt8} : hdC l = [] ↔ l = [] := by
  constructor
  · intro h
    by_cases h0 : l = []
    · exact h0
    · have := firstN_pos l (List.length_pos_iff.2 h0)
      have h1 := hdC_len l
      rw [h] at h1
      simp at h1
      omega
  · rintro rfl; rfl
/-- A place in a text lies at an address. -/
def SpAtC (w : World) (b o : Nat) (s : ByteArray) (k : Nat) : Prop := w.cell? ⟨b, o, none⟩ = some (.string s) ∧ w.cell? ⟨b, o + 1, none⟩ = some (.int .i64 k)
/-- Of what was there only the place has changed: it is k now. -/
structure Mvd (w w' : World) (b o k : Nat) : Prop where
  grown : w.grownBy w' (some b)
  cells : ∀ q, q ≠ o + 1 → w'.cell? ⟨b, q, none⟩ = w.cell? ⟨b, q, none⟩
  pos : w'.cell? ⟨b, o + 1, none⟩ = some (.int .i64 k)
  froz : ∀ q, w'.frozen? ⟨b, q, none⟩ = w.frozen? ⟨b, q, none⟩
theorem mvd_bl {w w' : World} {b o k : Nat} (hb : Below w.heap.size w w') (h : w.cell? ⟨b, o + 1, none⟩ = some (.int .i64 k)) : Mvd w w' b o k := by
  have hl := World.block_lt_of_cell? _ _ h
  exact ⟨⟨hb.os, hb.tape, hb.output, hb.size, fun i hi _ => hb.block i hi⟩, fun q _ => hb.cell (p := ⟨b, q, none⟩) hl, cell_later hb h, fun q => hb.frozen (p := ⟨b, q, none⟩) hl⟩
theorem Mvd.lt {w w' : World} {b o k : Nat} (h : Mvd w w' b o k) : b < w'.heap.size := World.block_lt_of_cell? _ _ h.pos
theorem Mvd.trans {w w1 w2 : World} {b o k k2 : Nat} (h : Mvd w w1 b o k) (g : Mvd w1 w2 b o k2) : Mvd w w2 b o k2 :=
  ⟨⟨g.grown.os.trans h.grown.os, g.grown.tape.trans h.grown.tape, g.grown.output.trans h.grown.output, Nat.le_trans h.grown.size g.grown.size, fun i hi hn => (g.grown.block i (Nat.lt_of_lt_of_le hi h.grown.size) hn).trans (h.grown.block i hi hn)⟩,
    fun q hq => (g.cells q hq).trans (h.cells q hq), g.pos, fun q => (g.froz q).trans (h.froz q)⟩
theorem Mvd.bl {w w1 w2 : World} {b o k : Nat} (h : Mvd w w1 b o k) (hb : Below w1.heap.size w1 w2) : Mvd w w2 b o k := h.trans (mvd_bl hb h.pos)
theorem Mvd.set {w w1 : World} {b o k : Nat} (h : Mvd w w1 b o k) (k' : Nat) : Mvd w (w1.setCell ⟨b, o + 1, none⟩ (.int .i64 k')) b o k' :=
  ⟨grown_set h.grown _ _, fun q hq => (World.cell?_setCell_other _ _ _ _ (fun e => hq (by injection e with _ e; exact e.symm))).trans (h.cells q hq), World.cell?_setCell_same _ _ _ h.pos, fun q => by rw [World.frozen?_setCell]; exact h.froz q⟩
theorem Mvd.at {w w' : World} {b o k k0 : Nat} {s : ByteArray} (h : Mvd w w' b o k) (h0 : SpAtC w b o s k0) : SpAtC w' b o s k := ⟨(h.cells o (by omega)).trans h0.1, h.pos⟩
theorem spot_bl {w w' : World} {b o : Nat} {s : ByteArray} {k : Nat} (h : SpAtC w b o s k) (hb : Below w.heap.size w w') : SpAtC w' b o s k := ⟨cell_later hb h.1, cell_later hb h.2⟩
/-- At this place of the text these bytes are still to come. -/
structure Pl (w : World) (b : Nat) (s : ByteArray) (l : List UInt8) : Prop where
  mem : SpAtC w b 0 s (s.size - l.length)
  fz : w.frozen? ⟨b, 1, none⟩ = false
  suf : l <:+ s.data.toList
  sz : s.size ≤ 100000
theorem Pl.le {w : World} {b : Nat} {s : ByteArray} {l : List UInt8} (h : Pl w b s l) : l.length ≤ s.size := by have := h.suf.length_le; rwa [show s.data.toList.length = s.size from Array.length_toList] at this
theorem Pl.drop {w : World} {b : Nat} {s : ByteArray} {l : List UInt8} (h : Pl w b s l) : s.data.toList.drop (s.size - l.length) = l := by
  have := List.suffix_iff_eq_drop.1 h.suf
  rw [show s.data.toList.length = s.size from Array.length_toList] at this
  exact this.symm
theorem Pl.bl {w w' : World} {b : Nat} {s : ByteArray} {l : List UInt8} (h : Pl w b s l) (hb : Below w.heap.size w w') : Pl w' b s l :=
  ⟨spot_bl h.mem hb, (hb.frozen (p := ⟨b, 1, none⟩) (show b < w.heap.size from World.block_lt_of_cell? _ _ h.mem.1)).trans h.fz, h.suf, h.sz⟩
/-- Of what was there only the place has changed: these bytes are still to come now. -/
def Mv (w w' : World) (b : Nat) (s : ByteArray) (l : List UInt8) : Prop := Mvd w w' b 0 (s.size - l.length) ∧ l <:+ s.data.toList
theorem Mv.pl {w w' : World} {b : Nat} {s : ByteArray} {l l' : List UInt8} (h : Mv w w' b s l') (h0 : Pl w b s l) : Pl w' b s l' := ⟨h.1.at h0.mem, (h.1.froz 1).trans h0.fz, h.2, h0.sz⟩
theorem Mv.trans {w w1 w2 : World} {b : Nat} {s : ByteArray} {l l' : List UInt8} (h : Mv w w1 b s l) (g : Mv w1 w2 b s l') : Mv w w2 b s l' := ⟨h.1.trans g.1, g.2⟩
theorem Mv.bl {w w1 w2 : World} {b : Nat} {s : ByteArray} {l : List UInt8} (h : Mv w w1 b s l) (hb : Below w1.heap.size w1 w2) : Mv w w2 b s l := ⟨h.1.bl hb, h.2⟩
theorem Pl.self {w w' : World} {b : Nat} {s : ByteArray} {l : List UInt8} (h : Pl w b s l) (hb : Below w.heap.size w w') : Mv w w' b s l := ⟨mvd_bl hb h.mem.2, h.suf⟩
theorem tl_suf {l x : List UInt8} (h : l <:+ x) : tlC l <:+ x := (List.drop_suffix _ _).trans h
/-- The text of the character there. -/
def chS (s : ByteArray) (l : List UInt8) : ByteArray := (s.extract (s.size - l.length) s.size).extract 0 (firstN (s.extract (s.size - l.length) s.size).data.toList)
theorem rest_data {w : World} {b : Nat} {s : ByteArray} {l : List UInt8} (h : Pl w b s l) : (s.extract (s.size - l.length) s.size).data.toList = l := by
  rw [ext_data, List.take_of_length_le (by rw [show s.data.toList.length = s.size from Array.length_toList]; exact Nat.le_refl _)]; exact h.drop
theorem chS_data {w : World} {b : Nat} {s : ByteArray} {l : List UInt8} (h : Pl w b s l) : (chS s l).data.toList = hdC l := by
  rw [chS, ext_data, rest_data h]; simp [hdC]
theorem chS_size {w : World} {b : Nat} {s : ByteArray} {l : List UInt8} (h : Pl w b s l) : (chS s l).size = firstN l := by
  rw [← hdC_len, ← chS_data h]; exact (Array.length_toList).symm
attribute [local go_sem] later_cell later_frozen
end
section
open Go.ChangeShapes Go.WideShapes Go.ChangeAt Go.RowKit
attribute [local go_sem ↓] Go.wp_at_zero Go.wp_at_succ
set_option maxRecDepth 100000
set_option linter.unusedVariables false
def uppZ (n : Int) : Bool := decide (65 ≤ n) && decide (n ≤ 90)
def lowZ (n : Int) : Bool := decide (97 ≤ n) && decide (n ≤ 122)
def digZ (n : Int) : Bool := decide (48 ≤ n) && decide (n ≤ 57)
def letZ (n : Int) : Bool := uppZ n || lowZ n
/-- The digits that come, at most f of them: the number, how many, what is behind them. -/
def numR : Nat → Nat → Nat → List UInt8 → Nat × Nat × List UInt8
  | 0, n, k, l => (n, k, l)
  | f + 1, n, k, l => match hdC l with
    | [y] => if digZ y.toNat = true then numR f (n * 10 + (y.toNat - 48)) (k + 1) (tlC l) else (n, k, l)
    | _ => (n, k, l)
theorem numR_one {f n k : Nat} {l : List UInt8} {y : UInt8} (h : hdC l = [y]) (hd : digZ y.toNat = true) : numR (f + 1) n k l = numR f (n * 10 + (y.toNat - 48)) (k + 1) (tlC l) := by
  rw [numR, h]; simp [hd]
theorem numR_no {f n k : Nat} {l : List UInt8} {y : UInt8} (h : hdC l = [y]) (hd : digZ y.toNat = false) : numR f n k l = (n, k, l) := by
  cases f with
  | zero => rfl
  | succ f => rw [numR, h]; simp [hd]
theorem numR_ne {f n k : Nat} {l : List UInt8} (h : (hdC l).length ≠ 1) : numR f n k l = (n, k, l) := by
  cases f with
  | zero => rfl
  | succ f =>
    rw [numR]
    split
    · rename_i hy; rw [hy] at h; simp at h
    · rfl
def numOk (n k : Nat) : Bool := decide (1 ≤ k) && (decide (k ≤ 3) && decide (n ≤ 255))
def NmPost (w : World) (b : Nat) (s : ByteArray) (z : Nat × Nat × List UInt8) (e : Ending) (w' : World) : Prop :=
  e = .returned (.tuple #[.int .i64 z.1, .bool (numOk z.1 z.2.1)]) ∧ Mv w w' b s z.2.2
end
section
open Go.ChangeShapes Go.WideShapes Go.ChangeAt Go.RowKit
attribute [local go_sem ↓] Go.wp_at_zero Go.wp_at_succ
set_option maxRecDepth 100000
set_option linter.unusedVariables false
theorem lit_eq (c : ByteArray) (L : Array UInt8) (r : Bool) (h : (c.data.toList == L.toList) = r) : (c.toList == (⟨L⟩ : ByteArray).toList) = r ∧ (c.toList == L.toList) = r := by
  have : (⟨L⟩ : ByteArray).toList = L.toList := Go.ByteArray.toList_eq _
  rw [Go.ByteArray.toList_eq c, this]; exact ⟨h, h⟩
def escNo (c : ByteArray) : Bool := match c.data.toList with | [y] => letZ y.toNat || digZ y.toNat | _ => false
/-- What a character behind a backslash stands for. -/
def escP (c : ByteArray) : Option ByteArray :=
  if (c.data.toList == [110]) = true then some ⟨#[10]⟩ else if (c.data.toList == [114]) = true then some ⟨#[13]⟩ else if (c.data.toList == [116]) = true then some ⟨#[9]⟩
  else if (c.data.toList == [102]) = true then some ⟨#[12]⟩ else if (c.data.toList == [118]) = true then some ⟨#[11]⟩ else if (c.data.toList == []) = true then none else if escNo c = true then none else some c
def EsPost (w : World) (z : Option ByteArray) (e : Ending) (w' : World) : Prop := e = .returned (.tuple #[.string (z.getD ⟨#[]⟩), .bool z.isSome]) ∧ w = w'
/-- The bounds in braces, and what is behind them. -/
def bndP (l : List UInt8) : Option (Nat × Int × List UInt8) :=
  let z := numR 4 0 0 l
  if numOk z.1 z.2.1 = true then
    if (hdC z.2.2 == [44]) = true then
      if (hdC (tlC z.2.2) == [125]) = true then some (z.1, -1, tlC (tlC z.2.2))
      else
        let y := numR 4 0 0 (tlC z.2.2)
        if (numOk y.1 y.2.1 && (hdC y.2.2 == [125] && decide (z.1 ≤ y.1))) = true then some (z.1, (y.1 : Int), tlC y.2.2) else none
    else if (hdC z.2.2 == [125]) = true then some (z.1, (z.1 : Int), tlC z.2.2) else none
  else none
def BdPost (w : World) (b : Nat) (s : ByteArray) (o : Option (Nat × Int × List UInt8)) (e : Ending) (w' : World) : Prop :=
  ∃ (n m : Int) (r : List UInt8), e = .returned (.tuple #[.int .i64 n, .int .i64 m, .bool o.isSome]) ∧ Mv w w' b s r ∧ ∀ x, o = some x → n = x.1 ∧ m = x.2.1 ∧ r = x.2.2
end
section
open Go.ChangeShapes Go.WideShapes Go.ChangeAt Go.RowKit
attribute [local go_sem ↓] Go.wp_at_zero Go.wp_at_succ
set_option maxRecDepth 100000
set_option linter.unusedVariables false
def bsC (L : List UInt8) : ByteArray := ⟨L.toArray⟩
theorem bsC_data (L : List UInt8) : (bsC L).data.toList = L := by simp [bsC]
theorem chS_eq {w : World} {b : Nat} {s : ByteArray} {l : List UInt8} (h : Pl w b s l) : chS s l = bsC (hdC l) := by
  apply ByteArray.ext; apply Array.ext'
  rw [chS_data h, bsC_data]
/-- Does a range begin: a sign of it that is not the class's last character. -/
def rngP (l : List UInt8) : Bool := (hdC l == [45]) && (!(tlC l).isEmpty && !(hdC (tlC l) == [93]))
theorem mv_below {w w1 w2 : World} {g : Nat} {s : ByteArray} {l : List UInt8} (hb : Below w.heap.size w w1) (h : Mv w1 w2 g s l) (hg : w.heap.size ≤ g) : Below w.heap.size w w2 :=
  bl_grown hb h.1.grown (fun k hk => by injection hk with hk; omega)
end
section
open Go.ChangeShapes Go.WideShapes Go.ChangeAt Go.RowKit
open SetM
attribute [local go_sem ↓] Go.wp_at_zero Go.wp_at_succ
attribute [local go_sem] later_cell later_frozen lt_bl le_bl
set_option maxRecDepth 100000
set_option linter.unusedVariables false
theorem frv0 (n : Nat) : FrV n (.slice none 0 0) := fun x len c e => by cases e
def NmfPost (L : List Rw) (b : Bool) (w : World) (e : Ending) (w' : World) : Prop := ∃ v, e = .returned (.tuple #[v, .bool b]) ∧ Below w.heap.size w w' ∧ RwAt w' v L ∧ FrV w.heap.size v
theorem namf_alloc (L : List Rw) (n : Nat) (b : Bool) (w : World) (hl : L.length = n) (hn : n ≤ 1000) : NmfPost L b w (.returned (.tuple #[.slice (some ⟨w.heap.size, 0, none⟩) n n, .bool b])) (w.alloc (.cells (flatR L).toArray 43)) := by
  subst hl; exact ⟨_, rfl, bl_alloc (bl_refl w) _, alloc_rwat w L hn, fun x len c h => by injection h with h; injection h with h; subst h; exact Nat.le_refl _⟩
set_option maxHeartbeats 2000000 in
theorem rnamf_any (c : Int) (w : World) : Calls Try.prog 72 #[.int .u8 c] w (NmfPost (namR c) (namB c) w) := by
  by_cases h0 : c = 100
  · subst h0
    have e1 : namR 100 = rD := rfl
    have e2 : namB 100 = true := rfl
    rw [e1, e2]
    have H := hide (namf_alloc rD 1 true w rfl (by omega))
    clear e1 e2 
    go_enter Try.func72, Try.ntmps72
    go_wp2
    go_ret2
    exact H.out
  by_cases h1 : c = 119
  · subst h1
    have e1 : namR 119 = rW := rfl
    have e2 : namB 119 = true := rfl
    rw [e1, e2]
    have H := hide (namf_alloc rW 4 true w rfl (by omega))
    clear e1 e2 h0
    go_enter Try.func72, Try.ntmps72
    go_wp2
    go_ret2
    exact H.out
  by_cases h2 : c = 115
  · subst h2
    have e1 : namR 115 = rS := rfl
    have e2 : namB 115 = true := rfl
    rw [e1, e2]
    have H := hide (namf_alloc rS 2 true w rfl (by omega))
    clear e1 e2 h0 h1
    go_enter Try.func72, Try.ntmps72
    go_wp2
    go_ret2
    exact H.out
  have e1 : namR c = [] := by unfold namR; rw [if_neg h0, if_neg h1, if_neg h2]
  have e2 : namB c = false := by unfold namB; simp [h0, h1, h2]
  rw [e1, e2]
  have g1 : (c == 100) = false := by simp [h0]
  have g2 : (c == 119) = false := by simp [h1]
  have g3 : (c == 115) = false := by simp [h2]
  clear e1 e2 h0 h1 h2
  go_enter Try.func72, Try.ntmps72
  go_wp2
  go_ret2
  exact ⟨_, rfl, bl_refl w, .inl ⟨rfl, rfl⟩, fun x len c h => by cases h⟩
/-- An item of a class: a named one's rows, or a character; what is behind it. -/
def itemP (l : List UInt8) : Option (List Rw × ByteArray × List UInt8) :=
  if (hdC l == [92]) = true then
    if (hdC (tlC l) == [100]) = true then some (rD, ⟨#[]⟩, tlC (tlC l))
    else if (hdC (tlC l) == [119]) = true then some (rW, ⟨#[]⟩, tlC (tlC l))
    else if (hdC (tlC l) == [115]) = true then some (rS, ⟨#[]⟩, tlC (tlC l))
    else (escP (bsC (hdC (tlC l)))).map (fun d => ([], d, tlC (tlC l)))
  else if (hdC l == []) = true then none else some ([], bsC (hdC l), tlC l)
def ItPost (w : World) (b : Nat) (s : ByteArray) (o : Option (List Rw × ByteArray × List UInt8)) (e : Ending) (w' : World) : Prop :=
  ∃ (v : Value) (c : ByteArray) (r : List UInt8), e = .returned (.tuple #[v, .string c, .bool o.isSome]) ∧ Mv w w' b s r ∧ FrV w.heap.size v ∧ ∀ x, o = some x → RwAt w' v x.1 ∧ c = x.2.1 ∧ r = x.2.2
theorem bsC_size (L : List UInt8) : (bsC L).size = L.length := by
  rw [← show (bsC L).data.toList.length = (bsC L).size from Array.length_toList, bsC_data]
theorem bsC_0 {L : List UInt8} {y : UInt8} (h : L = [y]) (hp : 0 < (bsC L).size) : (((bsC L)[0]'hp).toNat : Int) = (y.toNat : Int) := by subst h; rfl
theorem Mv.fr {w w' : World} {b : Nat} {s : ByteArray} {l : List UInt8} (h : Mv w w' b s l) : w.heap.size ≤ w'.heap.size := h.1.grown.size
end
section
open Go.ChangeShapes Go.WideShapes Go.ChangeAt Go.RowKit
open SetM
attribute [local go_sem ↓] Go.wp_at_zero Go.wp_at_succ
attribute [local go_sem] later_cell later_frozen lt_bl le_bl
set_option maxRecDepth 100000
set_option linter.unusedVariables false
/-- An item or a range of a class: its rows; what is behind it. -/
def rowsP (l : List UInt8) : Option (List Rw × List UInt8) :=
  match itemP l with
  | none => none
  | some (L, c, r) =>
    if c.size = 0 then some (L, r)
    else if rngP r = true then
      match itemP (tlC r) with
      | none => none
      | some (_, d, r2) => if bl d c = true then none else some ([(c, d)], r2)
    else some ([(c, c)], r)
def RwsPost (w : World) (b : Nat) (s : ByteArray) (o : Option (List Rw × List UInt8)) (e : Ending) (w' : World) : Prop :=
  ∃ (v : Value) (r : List UInt8), e = .returned (.tuple #[v, .bool o.isSome]) ∧ Mv w w' b s r ∧ FrV w.heap.size v ∧ ∀ x, o = some x → RwAt w' v x.1 ∧ r = x.2
theorem row1_fr {w W : World} (h : w.heap.size ≤ W.heap.size) (n c : Nat) : FrV w.heap.size (.slice (some ⟨W.heap.size, 0, none⟩) n c) := fun x len c e => by
  injection e with e; injection e with e; subst e; exact h
end
section
open Go.ChangeShapes Go.WideShapes Go.ChangeAt Go.RowKit
open SetM
set_option maxRecDepth 100000
set_option linter.unusedVariables false
theorem results_cell2 {fn : Func} {p q : Tmp} {ty : TypeId} (h : fn.results = #[.cell p ty, .tmp q]) (tmps : Array Value) (P : Program) (w : World) :
    (results fn tmps).run P w = ((asAddr (tmps.getD p undef)).run P w).andThen fun a w₁ => ((loadVar ty a).run P w₁).andThen fun v w₂ => .ok (.tuple #[v, tmps.getD q undef]) w₂ := by
  simp only [results, h]
  simp [Sem.run_bind, Result.andThen]
theorem Mv.block {w w' : World} {b : Nat} {s : ByteArray} {l : List UInt8} (h : Mv w w' b s l) {i : Nat} (hi : i < w.heap.size) (hb : i ≠ b) : w'.heap[i]? = w.heap[i]? :=
  h.1.grown.block i hi (fun e => hb (by injection e))
theorem Mv.cell {w w' : World} {b : Nat} {s : ByteArray} {l : List UInt8} (h : Mv w w' b s l) {p : Addr} {v : Value} (hc : w.cell? p = some v) (hb : p.block ≠ b) : w'.cell? p = some v := by
  have hi := World.block_lt_of_cell? _ _ hc
  rw [← hc]
  have hbk := h.block hi hb
  simp only [World.cell?, hbk]
theorem Mv.append {w w1 w2 : World} {b g : Nat} {s : ByteArray} {l : List UInt8} (h : Mv w w1 b s l) (hg : w1.grownBy w2 (some g)) (hb : g ≠ b) (hw : w.heap.size ≤ g) : Mv w w2 b s l := by
  have hlt := h.1.lt
  have hbk : w2.heap[b]? = w1.heap[b]? := hg.block b hlt (fun e => hb (by injection e with e; exact e.symm))
  have hc : ∀ q, w2.cell? ⟨b, q, none⟩ = w1.cell? ⟨b, q, none⟩ := fun q => by simp only [World.cell?, hbk]
  have hf : ∀ q, w2.frozen? ⟨b, q, none⟩ = w1.frozen? ⟨b, q, none⟩ := fun q => by simp only [World.frozen?, hbk]
  refine ⟨⟨⟨hg.os.trans h.1.grown.os, hg.tape.trans h.1.grown.tape, hg.output.trans h.1.grown.output, Nat.le_trans h.1.grown.size hg.size, fun i hi hn => ?_⟩, fun q hq => (hc q).trans (h.1.cells q hq), (hc 1).trans h.1.pos, fun q => (hf q).trans (h.1.froz q)⟩, h.2⟩
  exact (hg.block i (Nat.lt_of_lt_of_le hi h.1.grown.size) (fun e => by injection e with e; omega)).trans (h.1.grown.block i hi hn)
theorem itemP_ok {l : List UInt8} {L : List Rw} {c : ByteArray} {r : List UInt8} (h : itemP l = some (L, c, r)) :
    r.length < l.length ∧ c.size ≤ l.length + 1 ∧ (L = [] ∨ (c.size = 0 ∧ L.length ≤ 4 ∧ r.length + 2 ≤ l.length ∧ ∀ x ∈ L, x.1.size ≤ 1 ∧ x.2.size ≤ 1)) := by
  have hne : ∀ {l : List UInt8} {y : UInt8}, (hdC l == [y]) = true → (tlC l).length < l.length := by
    intro l y h
    refine tl_len l (fun h0 => ?_)
    subst h0
    have := beq_iff_eq.1 h
    cases this
  have hsz : ∀ (l : List UInt8), (bsC (hdC l)).size ≤ l.length := fun l => by rw [bsC_size, hdC_len]; exact firstN_le l
  unfold itemP at h
  by_cases h1 : (hdC l == [92]) = true
  · rw [if_pos h1] at h
    have t1 := hne h1
    have named : ∀ (y : UInt8) (K : List Rw), (hdC (tlC l) == [y]) = true → K.length ≤ 4 → (∀ x ∈ K, x.1.size ≤ 1 ∧ x.2.size ≤ 1) → some (K, (⟨#[]⟩ : ByteArray), tlC (tlC l)) = some (L, c, r) → r.length < l.length ∧ c.size ≤ l.length + 1 ∧ (L = [] ∨ (c.size = 0 ∧ L.length ≤ 4 ∧ r.length + 2 ≤ l.length ∧ ∀ x ∈ L, x.1.size ≤ 1 ∧ x.2.size ≤ 1)) := by
      intro y K hy h4 hx he
      have t2 := hne hy
      cases he
      exact ⟨by omega, Nat.zero_le _, .inr ⟨rfl, h4, by omega, hx⟩⟩
    by_cases k0 : (hdC (tlC l) == [100]) = true
    · rw [if_pos k0] at h
      exact named 100 rD k0 (by decide) (by decide) h
    rw [if_neg k0] at h
    by_cases k1 : (hdC (tlC l) == [119]) = true
    · rw [if_pos k1] at h
      exact named 119 rW k1 (by decide) (by decide) h
    rw [if_neg k1] at h
    by_cases k2 : (hdC (tlC l) == [115]) = true
    · rw [if_pos k2] at h
      exact named 115 rS k2 (by decide) (by decide) h
    rw [if_neg k2] at h
    have t2 := tl_le (tlC l)
    have hs2 := hsz (tlC l)
    obtain ⟨z, hz⟩ : ∃ z, escP (bsC (hdC (tlC l))) = z := ⟨_, rfl⟩
    rw [hz] at h
    rcases z with _ | z
    · cases h
    · have h2 : ([] : List Rw) = L ∧ z = c ∧ tlC (tlC l) = r := by simpa using h
      obtain ⟨rfl, rfl, rfl⟩ := h2
      refine ⟨by omega, ?_, .inl rfl⟩
      have : z.size ≤ 1 ∨ z = bsC (hdC (tlC l)) := by
        unfold escP at hz
        repeat' split at hz
        all_goals first
          | (injection hz with hz; subst hz; exact .inl (by decide))
          | (injection hz with hz; exact .inr hz.symm)
          | cases hz
      rcases this with h3 | rfl <;> omega
  · rw [if_neg h1] at h
    by_cases h2 : (hdC l == []) = true
    · rw [if_pos h2] at h; cases h
    · rw [if_neg h2] at h
      cases h
      have hs := hsz l
      exact ⟨tl_len l (fun h0 => h2 (by subst h0; rfl)), by omega, .inl rfl⟩
theorem rowsP_ok {l : List UInt8} {L : List Rw} {r : List UInt8} (h : rowsP l = some (L, r)) :
    r.length < l.length ∧ L.length + 2 * r.length ≤ 2 * l.length ∧ ∀ x ∈ L, x.1.size ≤ l.length + 1 ∧ x.2.size ≤ l.length + 1 := by
  unfold rowsP at h
  split at h
  · cases h
  · rename_i L1 c r1 h1
    obtain ⟨a1, a2, a3⟩ := itemP_ok h1
    by_cases hc : c.size = 0
    · rw [if_pos hc] at h
      cases h
      rcases a3 with rfl | ⟨_, b1, b2, b3⟩
      · exact ⟨a1, by simp; omega, by simp⟩
      · exact ⟨a1, by omega, fun x hx => ⟨by have := (b3 x hx).1; omega, by have := (b3 x hx).2; omega⟩⟩
    · rw [if_neg hc] at h
      by_cases hq : rngP r1 = true
      · rw [if_pos hq] at h
        split at h
        · cases h
        · rename_i L2 d r2 h2
          obtain ⟨c1, c2, _⟩ := itemP_ok h2
          have t1 := tl_le r1
          split at h
          · cases h
          · cases h
            exact ⟨by omega, by simp; omega, by simp; omega⟩
      · rw [if_neg hq] at h
        cases h
        exact ⟨a1, by simp; omega, by simp; omega⟩
/-- The rows of a class up to its end. -/
def clsP : Nat → List Rw → List UInt8 → Option (List Rw × List UInt8)
  | 0, _, _ => none
  | f + 1, acc, l =>
    if (hdC l == [93]) = true then some (acc, tlC l)
    else match rowsP l with
      | none => none
      | some (L, r) => clsP f (acc ++ L) r
end
section
open Go.ChangeShapes Go.WideShapes Go.ChangeAt Go.RowKit
open SetM
attribute [local go_sem ↓] Go.wp_at_zero Go.wp_at_succ
attribute [local go_sem] later_cell later_frozen
set_option maxRecDepth 100000
set_option linter.unusedVariables false
/-- What is read: nothing yet, an error, or a tree and what is behind it. -/
inductive Res where
  | no
  | err (n : Int)
  | ok (x : Rt) (r : List UInt8)
def TrPost (w : World) (b : Nat) (s : ByteArray) : Res → Ending → World → Prop
  | .no, _, _ => False
  | .err n, e, w' => e = .returned (.tuple #[rt0.v, .int .i64 n]) ∧ ∃ r, Mv w w' b s r
  | .ok x r, e, w' => ∃ t, e = .returned (.tuple #[t.v, .int .i64 0]) ∧ Mv w w' b s r ∧ RxAt w' t ∧ Fr w.heap.size t ∧ er t = x
theorem Mv.frz {w w' : World} {b : Nat} {s : ByteArray} {l : List UInt8} (h : Mv w w' b s l) {p : Addr} (hi : p.block < w.heap.size) (hb : p.block ≠ b) : w'.frozen? p = w.frozen? p := by
  have hbk := h.block hi hb
  simp only [World.frozen?, hbk]
theorem Mv.put {w w1 : World} {b g : Nat} {s : ByteArray} {l : List UInt8} (h : Mv w w1 b s l) (hb : g ≠ b) (hw : w.heap.size ≤ g) (o : Nat) (u : Value) : Mv w (w1.setCell ⟨g, o, none⟩ u) b s l :=
  h.append (grown_set (grown_refl w1 _) o u) hb hw
theorem mv8 {w w1 : World} {b g : Nat} {s : ByteArray} {l : List UInt8} (h : Mv w w1 b s l) (hb : g ≠ b) (hw : w.heap.size ≤ g) (o0 : Nat) (u0 : Value) (o1 : Nat) (u1 : Value) (o2 : Nat) (u2 : Value) (o3 : Nat) (u3 : Value) (o4 : Nat) (u4 : Value) (o5 : Nat) (u5 : Value) (o6 : Nat) (u6 : Value) (o7 : Nat) (u7 : Value) :
    Mv w ((((((((w1.setCell ⟨g, o0, none⟩ u0).setCell ⟨g, o1, none⟩ u1).setCell ⟨g, o2, none⟩ u2).setCell ⟨g, o3, none⟩ u3).setCell ⟨g, o4, none⟩ u4).setCell ⟨g, o5, none⟩ u5).setCell ⟨g, o6, none⟩ u6).setCell ⟨g, o7, none⟩ u7) b s l :=
  (((((((h.put hb hw _ _).put hb hw _ _).put hb hw _ _).put hb hw _ _).put hb hw _ _).put hb hw _ _).put hb hw _ _).put hb hw _ _
def setX (nt : Bool) (rows : List Rw) : Rt := .mk 4 ⟨#[]⟩ nt (.slice none 0 0) rows 0 0 false (.slice none 0 0) []
def chX (c : ByteArray) : Rt := .mk 2 c false (.slice none 0 0) [] 0 0 false (.slice none 0 0) []
/-- What stands behind a backslash, outside of a class. -/
def bakP (l : List UInt8) : Res :=
  if (hdC l == [98]) = true then .ok (kdX 10 []) (tlC l) else if (hdC l == [66]) = true then .ok (kdX 11 []) (tlC l)
  else if (hdC l == [100]) = true then .ok (setX false rD) (tlC l) else if (hdC l == [119]) = true then .ok (setX false rW) (tlC l) else if (hdC l == [115]) = true then .ok (setX false rS) (tlC l)
  else if (hdC l == [68]) = true then .ok (setX true rD) (tlC l) else if (hdC l == [87]) = true then .ok (setX true rW) (tlC l) else if (hdC l == [83]) = true then .ok (setX true rS) (tlC l)
  else match escP (bsC (hdC l)) with
    | none => .err 10
    | some d => .ok (chX d) (tlC l)
theorem rx_leaf (w : World) (t : Rt) (hr : t.rv = .slice none 0 0) (hr2 : t.rows = []) (hk : t.kv = .slice none 0 0) (hk2 : t.kids = []) : RxAt w t :=
  .mk t (by rw [hr, hr2]; exact .inl ⟨rfl, rfl⟩) (by rw [hk, hk2]; exact .inl ⟨rfl, rfl⟩) (fun i hi => by rw [hk2] at hi; exact absurd hi (Nat.not_lt_zero _))
theorem fr_leaf (n : Nat) (t : Rt) (hr : t.rv = .slice none 0 0) (hk : t.kv = .slice none 0 0) (hk2 : t.kids = []) : Fr n t :=
  .mk t (by rw [hr]; exact frv0 n) (by rw [hk]; exact frv0 n) (fun x hx => by rw [hk2] at hx; cases hx)
end
section
open Go.ChangeShapes Go.WideShapes Go.ChangeAt Go.RowKit
open SetM
attribute [local go_sem ↓] Go.wp_at_zero Go.wp_at_succ
attribute [local go_sem] later_cell later_frozen
set_option maxRecDepth 100000
set_option linter.unusedVariables false
/-- A class, behind its bracket. -/
def classP (l : List UInt8) : Res :=
  match clsP ((if (hdC l == [94]) = true then tlC l else l).length + 1) [] (if (hdC l == [94]) = true then tlC l else l) with
  | none => .err 10
  | some (rows, r) => .ok (setX (hdC l == [94]) (uniF (sortS (okU rows)))) r
theorem own_mv {w w' : World} {base size n b : Nat} {e : TypeId} {v : Value} {xs : List Value} {s : ByteArray} {l : List UInt8} (h : w.ownsRow base e size v n xs) (hm : Mv w w' b s l) (hb : b < base) : w'.ownsRow base e size v n xs := by
  refine h.kept hm.1.grown ?_
  rcases hv : v.ownBlock with _ | k
  · exact .inl rfl
  · refine .inr ?_
    have := (h.lt k hv).1
    intro e
    injection e with e
    omega
theorem rwat_src {w : World} {A : Option Addr} {c : Nat} {l : List Rw} (h : RwAt w (.slice A l.length c) l) : Src w 2 A l.length (flatR l) := by
  refine ⟨flatR_len l, ?_⟩
  rcases h with ⟨_, rfl⟩ | ⟨x, c', hv, _, _, hc⟩
  · exact .inl rfl
  · injection hv with hv _ _
    refine .inr ⟨x, hv, fun j u hu => ?_⟩
    have hj : j < l.length * 2 := by have := (List.getElem?_eq_some_iff.1 hu).1; rwa [flatR_len] at this
    have hq : j / 2 < l.length := by omega
    have h1 := flatR_at l (j / 2) hq
    have h2 := hc (j / 2) hq
    rcases Nat.mod_two_eq_zero_or_one j with hm | hm
    · rw [show j / 2 * 2 = j by omega] at h1 h2
      rw [hu] at h1
      rw [Option.some.inj h1.1]; exact h2.1
    · rw [show j / 2 * 2 + 1 = j by omega] at h1 h2
      rw [hu] at h1
      rw [Option.some.inj h1.2]; exact h2.2
theorem one_cellR (l : List Rw) : ∀ u ∈ flatR l, u.oneCell' = true := by
  intro u hu
  induction l with
  | nil => cases hu
  | cons a r ih =>
    simp only [flatR, encR, List.flatMap_cons, List.mem_append, List.mem_cons, List.not_mem_nil, or_false] at hu
    rcases hu with (rfl | rfl) | hu
    · rfl
    · rfl
    · exact ih hu
theorem own_frv {w : World} {base : Nat} {e : TypeId} {size : Nat} {v : Value} {n : Nat} {xs : List Value} (h : w.ownsRow base e size v n xs) : FrV base v := by
  rcases own_form h with ⟨rfl, _⟩ | ⟨g, c, rfl, h1, _⟩
  · exact frv0 _
  · intro x len c' e
    injection e with e; injection e with e; subst e; exact h1
theorem Mv.appendv {w w1 w2 : World} {b base size n : Nat} {e : TypeId} {v : Value} {xs : List Value} {s : ByteArray} {l : List UInt8} (h : Mv w w1 b s l) (ho : w1.ownsRow base e size v n xs) (hg : w1.grownBy w2 v.ownBlock) (hb : b < base) (hw : w.heap.size ≤ base) : Mv w w2 b s l := by
  rcases hv : v.ownBlock with _ | g
  · rw [hv] at hg
    exact h.bl (bl_grown (bl_refl _) hg (fun k hk => by cases hk))
  · rw [hv] at hg
    have := (ho.lt g hv).1
    exact h.append hg (by omega) (by omega)
def posOf (w : World) (b : Nat) : Nat := match w.cell? ⟨b, 1, none⟩ with | some v => (intOf v).toNat | none => 0
theorem posOf_mv {w w' : World} {b : Nat} {s : ByteArray} {l : List UInt8} (h : Mv w w' b s l) : posOf w' b = s.size - l.length := by
  unfold posOf
  have := h.1.pos
  simp only [Nat.zero_add] at this
  rw [this]
  simp [intOf]
end
section
open Go.ChangeShapes Go.WideShapes Go.ChangeAt Go.RowKit
open SetM
attribute [local go_sem ↓] Go.wp_at_zero Go.wp_at_succ
attribute [local go_sem] later_cell later_frozen
set_option maxRecDepth 100000
set_option linter.unusedVariables false
def repX (mi ma : Int) (lz : Bool) (x : Rt) : Rt := .mk 7 ⟨#[]⟩ false (.slice none 0 0) [] mi ma lz (.slice none 0 0) [x]
def lazP (mi ma : Int) (x : Rt) (r : List UInt8) : Res := .ok (repX mi ma (hdC r == [63]) x) (if (hdC r == [63]) = true then tlC r else r)
/-- A tree, and the quantifier behind it, if there is one. -/
def qntP (x : Rt) (l : List UInt8) : Res :=
  if (hdC l == [42]) = true then lazP 0 (-1) x (tlC l) else if (hdC l == [43]) = true then lazP 1 (-1) x (tlC l) else if (hdC l == [63]) = true then lazP 0 1 x (tlC l)
  else if (hdC l == [123]) = true then (match bndP (tlC l) with | none => .err 10 | some (n, m, r) => lazP n m x r)
  else .ok x l
def TrPostN (N : Nat) (w : World) (b : Nat) (s : ByteArray) : Res → Ending → World → Prop
  | .no, _, _ => False
  | .err n, e, w' => e = .returned (.tuple #[rt0.v, .int .i64 n]) ∧ ∃ r, Mv w w' b s r
  | .ok x r, e, w' => ∃ t, e = .returned (.tuple #[t.v, .int .i64 0]) ∧ Mv w w' b s r ∧ RxAt w' t ∧ Fr N t ∧ er t = x
theorem mv_kept {w w' : World} {b N : Nat} {s : ByteArray} {l : List UInt8} (h : Mv w w' b s l) (hb : b < N) : Kept N w w' := fun p v hp hc => h.cell hc (by omega)
theorem ks1 {W : World} {g : Nat} {t : Rt} (h : ∀ j u, t.cs[j]? = some u → W.cell? ⟨g, j, none⟩ = some u) : KsAt W (.slice (some ⟨g, 0, none⟩) 1 1) [t] := by
  refine .inr ⟨_, 1, rfl, by simp, by simp [maxLen], fun i hi j u hu => ?_⟩
  have : i = 0 := by simp at hi; omega
  subst this
  rw [addr_add]
  simp only [Nat.zero_mul, Nat.zero_add, List.getElem_cons_zero] at hu ⊢
  exact h j u hu
theorem set_blk {W : World} {n g o j : Nat} {u v : Value} (h : W.cell? ⟨n, j, none⟩ = some u) (hn : g ≠ n) : (W.setCell ⟨g, o, none⟩ v).cell? ⟨n, j, none⟩ = some u := by
  rw [World.cell?_setCell_other _ _ _ _ (fun e => hn (by injection e))]; exact h
theorem alloc_blk {W : World} {n j : Nat} {u : Value} {o : Obj} (h : W.cell? ⟨n, j, none⟩ = some u) : (W.alloc o).cell? ⟨n, j, none⟩ = some u := cell_later (bl_alloc (bl_refl W) o) h
theorem drew_blk {W : World} {n j : Nat} {u : Value} (h : W.cell? ⟨n, j, none⟩ = some u) : W.drew.cell? ⟨n, j, none⟩ = some u := cell_later (bl_drew (bl_refl W)) h
theorem ks_alloc {W : World} {g : Nat} {cs : List Value} {T : TypeId} (hg : W.heap.size = g) : ∀ j u, cs[j]? = some u → (W.alloc (.cells cs.toArray T)).cell? ⟨g, j, none⟩ = some u := by
  subst hg
  intro j u hu
  have := cells_lit W cs.toArray T j u (by simpa using hu)
  rw [addr_add, Nat.zero_add] at this
  exact this
/-- What is read ends here: the tree is there, whatever has been made since. -/
theorem rep_end {N : Nat} {w W : World} {b g : Nat} {s : ByteArray} {r : List UInt8} {t : Rt} {mi ma : Int} {lz : Bool} (hm : Mv w W b s r) (hb : b < N) (hN : N ≤ w.heap.size) (ht : RxAt w t) (hf : Fr N t) (hg : N ≤ g) (hc : ∀ j u, t.cs[j]? = some u → W.cell? ⟨g, j, none⟩ = some u) :
    TrPostN N w b s (.ok (repX mi ma lz (er t)) r) (.returned (.tuple #[.agg #[.int .i64 7, .string ⟨#[]⟩, .bool false, .slice none 0 0, .int .i64 mi, .int .i64 ma, .bool lz, .slice (some ⟨g, 0, none⟩) 1 1], .int .i64 0])) W := by
  refine ⟨.mk 7 ⟨#[]⟩ false (.slice none 0 0) [] mi ma lz (.slice (some ⟨g, 0, none⟩) 1 1) [t], rfl, hm, .mk _ (.inl ⟨rfl, rfl⟩) (ks1 hc) (fun i hi => ?_), .mk _ (frv0 _) (fun x len c e => ?_) (fun x hx => ?_), ?_⟩
  · have : i = 0 := by have : i < 1 := hi; omega
    subst this
    exact rx_kept ht hf (mv_kept hm hb)
  · injection e with e; injection e with e; subst e; exact hg
  · have : x = t := by simpa using (show x ∈ [t] from hx)
    subst this; exact hf
  · rw [er_eq]; rfl
end
end Go.Proofs.Ytmfaeonlmfejdaa
