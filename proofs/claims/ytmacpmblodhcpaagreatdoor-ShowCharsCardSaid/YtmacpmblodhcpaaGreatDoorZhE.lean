/- Plain mathematics: what a tree is told as. No condition. Contracts: strings.Builder with the frame that reaches above it; a character as it is told (rxshow.showChar, gimletref15.sign). Condition: texts that are not too long. Contracts: how often, as it is told (rxshow.bounds, gimletref15.many). Condition: the library's table of powers as the program's text lays it; bounds that may be. Contracts: rxshow.showSet, showKids, show. Condition: a tree that may be and is not too big. Contracts: rxshow.showKids, show. Condition: a tree that may be and is not too big. Contract: rxshow.Show. Condition: the library's table of powers as the program's text lays it; a tree that is not too big. Contracts: gimletref15.sign, set, many. Condition: texts that are not too long; bounds that may be. Contract: gimletref15.many. Condition: bounds that may be. Contract: gimletref15.set. Condition: rows that may be and are not too long. Contracts: gimletref15.show, Show. Condition: a tree that may be and is not too big. Contract: awake of layer 15. Condition: the library's table of powers as the program's text lays it. Plain mathematics: what two trees one behind the other, as alternatives, in brackets are told as. No condition. -/
import Derived.Test.YtmacpmblodhcpaaGreatDoorRxAb
import Derived.Test.YtmacpmblodhcpaaGreatDoorItoa
import Derived.Test.YtmacpmblodhcpaaGreatDoorBuilder
import Derived.Shelf.Strings.BuilderK
import Derived.Lib.IndexAny
import Derived.BigQuiet
namespace Go.Proofs.YtmacpmblodhcpaaGreatDoor
section
open Go.ChangeShapes Go.WideShapes Go.ChangeAt Go.RowKit
open Go.Lib (decDigits)
open SetM
set_option maxRecDepth 100000
set_option linter.unusedVariables false
set_option linter.unusedSimpArgs false
def mkA : List UInt8 := [94, 36, 92, 46, 42, 43, 63, 40, 41, 91, 93, 123, 125, 124, 47]
def mkC : List UInt8 := [94, 45, 92, 91, 93, 47]
/-- A character, as it is told. -/
def chSh (mk : List UInt8) (c : List UInt8) : List UInt8 :=
  if c = [10] then [92, 110] else if c = [13] then [92, 114] else if c = [9] then [92, 116] else if c = [12] then [92, 102] else if c = [11] then [92, 118]
  else if mk.contains (c.headD 0) then 92 :: c else c
def decI (n : Int) : List UInt8 := decDigits n.toNat
def bndS (mi ma : Int) : List UInt8 :=
  if mi = 0 ∧ ma = -1 then [42] else if mi = 1 ∧ ma = -1 then [43] else if mi = 0 ∧ ma = 1 then [63]
  else if mi = ma then 123 :: decI mi ++ [125] else if ma = -1 then 123 :: decI mi ++ [44, 125] else 123 :: decI mi ++ [44] ++ decI ma ++ [125]
def rowS (r : Rw) : List UInt8 := chSh mkC r.1.data.toList ++ (if r.2 = r.1 then [] else 45 :: chSh mkC r.2.data.toList)
def setS (nt : Bool) (rows : List Rw) : List UInt8 := 91 :: ((if nt then [94] else []) ++ rows.flatMap rowS ++ [93])
/-- One behind the other, with something between. -/
def joinS (sep : List UInt8) : List (List UInt8) → List UInt8
  | [] => []
  | a :: r => a ++ r.flatMap (fun x => sep ++ x)
theorem joinS_snoc (sep : List UInt8) (l : List (List UInt8)) (x : List UInt8) : joinS sep (l ++ [x]) = joinS sep l ++ (if l = [] then [] else sep) ++ x := by
  cases l with
  | nil => simp [joinS]
  | cons a r => simp [joinS, List.flatMap_append]
theorem joinS_take (sep : List UInt8) (l : List (List UInt8)) (k : Nat) (h : k < l.length) : joinS sep (l.take (k + 1)) = joinS sep (l.take k) ++ (if k = 0 then [] else sep) ++ l[k] := by
  rw [List.take_succ_eq_append_getElem h, joinS_snoc]
  congr 2
  by_cases hk : k = 0
  · subst hk; simp
  · rw [if_neg hk, if_neg]
    intro e
    have := congrArg List.length e
    rw [List.length_take, List.length_nil] at this
    omega
mutual
  def shX : Rt → List UInt8
    | .mk k ch nt _ rows mi ma lz _ l =>
      if k = 0 then joinS [] (shL l) else if k = 1 then joinS [124] (shL l) else if k = 2 then chSh mkA ch.data.toList else if k = 3 then [46]
      else if k = 8 then [94] else if k = 9 then [36] else if k = 10 then [92, 98] else if k = 11 then [92, 66]
      else if k = 5 then [40] ++ joinS [] (shL l) ++ [41] else if k = 6 then [40, 63, 58] ++ joinS [] (shL l) ++ [41]
      else if k = 4 then setS nt rows else if k = 7 then joinS [] (shL l) ++ bndS mi ma ++ (if lz then [63] else []) else []
  def shL : List Rt → List (List UInt8)
    | [] => []
    | t :: l => shX t :: shL l
end
theorem shL_map (l : List Rt) : shL l = l.map shX := by
  induction l with
  | nil => rfl
  | cons a l ih => rw [shL, ih]; rfl
theorem shX_eq (t : Rt) : shX t = (if t.k = 0 then joinS [] (t.kids.map shX) else if t.k = 1 then joinS [124] (t.kids.map shX) else if t.k = 2 then chSh mkA t.ch.data.toList else if t.k = 3 then [46]
      else if t.k = 8 then [94] else if t.k = 9 then [36] else if t.k = 10 then [92, 98] else if t.k = 11 then [92, 66]
      else if t.k = 5 then [40] ++ joinS [] (t.kids.map shX) ++ [41] else if t.k = 6 then [40, 63, 58] ++ joinS [] (t.kids.map shX) ++ [41]
      else if t.k = 4 then setS t.nt t.rows else if t.k = 7 then joinS [] (t.kids.map shX) ++ bndS t.mi t.ma ++ (if t.lz then [63] else []) else []) := by
  cases t with
  | mk k ch nt rv rows mi ma lz kv l => rw [shX, shL_map]; rfl
theorem chS_len (mk c : List UInt8) : (chSh mk c).length ≤ 2 + c.length := by
  unfold chSh
  repeat (split; · simp)
  split
  · simp; omega
  · omega
theorem dec_le3 (n : Int) (h : n ≤ 255) : (decI n).length ≤ 3 := by
  unfold decI
  have h2 : n.toNat ≤ 255 := by omega
  generalize n.toNat = m at h2
  have s0 : ∀ u, (decDigits u).length = if u < 10 then 1 else (decDigits (u / 10)).length + 1 := fun u => by
    rw [dec_pre]
    unfold preD
    split <;> simp
  rw [s0]
  split
  · omega
  rw [s0]
  split
  · omega
  rw [s0, if_pos (by omega)]
  omega
theorem bnd_len (mi ma : Int) (h1 : mi ≤ 255) (h2 : ma ≤ 255) : (bndS mi ma).length ≤ 10 := by
  have a := dec_le3 mi h1
  have b := dec_le3 ma h2
  unfold bndS
  repeat (split; · simp <;> omega)
  simp; omega
theorem rows_len (l : List Rw) : (l.flatMap rowS).length ≤ 5 * rwS l := by
  induction l with
  | nil => simp [rwS]
  | cons a l ih =>
    rw [List.flatMap_cons, List.length_append, rwS]
    have h1 := chS_len mkC a.1.data.toList
    have h2 := chS_len mkC a.2.data.toList
    have e1 : a.1.data.toList.length = a.1.size := by simp
    have e2 : a.2.data.toList.length = a.2.size := by simp
    have : (rowS a).length ≤ 5 + a.1.size + a.2.size := by
      unfold rowS
      rw [List.length_append]
      split
      · simp; omega
      · simp; omega
    omega
theorem join_len (sep : List UInt8) (l : List (List UInt8)) (n : Nat) (hs : sep.length ≤ 1) (h : (l.map List.length).sum ≤ n) : (joinS sep l).length ≤ n + l.length := by
  have key : ∀ r : List (List UInt8), (r.flatMap (fun x => sep ++ x)).length ≤ (r.map List.length).sum + r.length := by
    intro r
    induction r with
    | nil => simp
    | cons a r ih => rw [List.flatMap_cons, List.length_append, List.length_append, List.map_cons, List.sum_cons, List.length_cons]; omega
  cases l with
  | nil => simp [joinS]
  | cons a r =>
    have := key r
    rw [List.map_cons, List.sum_cons] at h
    rw [joinS, List.length_append, List.length_cons]
    omega
mutual
  theorem sh_len : ∀ t : Rt, okM t = true → (shX t).length + 1 ≤ 20 * sM t
    | .mk k ch nt rv rows mi ma lz kv l => fun ho => by
      have hk := shl_len l (by rw [okM_eq] at ho; simp at ho; exact ho.2)
      have hm : mfB k ch nt rows mi ma lz = true := by rw [okM_eq] at ho; simp at ho; exact ho.1.1
      have hs := sM_eq (.mk k ch nt rv rows mi ma lz kv l)
      have hl : l.length ≤ sL l := sL_len l
      have j0 := join_len [] (shL l) _ (by simp) (Nat.le_refl _)
      have j1 := join_len [124] (shL l) _ (by simp) (Nat.le_refl _)
      have hll : (shL l).length = l.length := by rw [shL_map, List.length_map]
      have hch := chS_len mkA ch.data.toList
      have e1 : ch.data.toList.length = ch.size := by simp
      have hr := rows_len rows
      simp only [Rt.ch, Rt.rows, Rt.kids] at hs
      rw [shX]
      rw [hll] at j0 j1
      generalize joinS [] (shL l) = J0 at *
      generalize joinS [124] (shL l) = J1 at *
      generalize chSh mkA ch.data.toList = C at *
      by_cases q0 : k = 0
      · rw [if_pos q0]; omega
      rw [if_neg q0]
      by_cases q1 : k = 1
      · rw [if_pos q1]; omega
      rw [if_neg q1]
      by_cases q2 : k = 2
      · rw [if_pos q2]; omega
      rw [if_neg q2]
      by_cases q3 : k = 3
      · rw [if_pos q3]; simp only [List.length_append, List.length_cons, List.length_nil]; omega
      rw [if_neg q3]
      by_cases q8 : k = 8
      · rw [if_pos q8]; simp only [List.length_append, List.length_cons, List.length_nil]; omega
      rw [if_neg q8]
      by_cases q9 : k = 9
      · rw [if_pos q9]; simp only [List.length_append, List.length_cons, List.length_nil]; omega
      rw [if_neg q9]
      by_cases q10 : k = 10
      · rw [if_pos q10]; simp only [List.length_append, List.length_cons, List.length_nil]; omega
      rw [if_neg q10]
      by_cases q11 : k = 11
      · rw [if_pos q11]; simp only [List.length_append, List.length_cons, List.length_nil]; omega
      rw [if_neg q11]
      by_cases q5 : k = 5
      · rw [if_pos q5]; simp only [List.length_append, List.length_cons, List.length_nil]; omega
      rw [if_neg q5]
      by_cases q6 : k = 6
      · rw [if_pos q6]; simp only [List.length_append, List.length_cons, List.length_nil]; omega
      rw [if_neg q6]
      by_cases q4 : k = 4
      · rw [if_pos q4]
        unfold setS
        generalize rows.flatMap rowS = R at *
        cases nt <;> simp only [List.length_append, List.length_cons, List.length_nil, if_true, if_false, Bool.false_eq_true] <;> omega
      rw [if_neg q4]
      by_cases q7 : k = 7
      · rw [if_pos q7]
        subst q7
        unfold mfB at hm
        simp [rngB] at hm
        have := bnd_len mi ma (by omega) (by omega)
        cases lz <;> simp only [List.length_append, List.length_cons, List.length_nil, if_true, if_false, Bool.false_eq_true] <;> omega
      rw [if_neg q7]
      simp only [List.length_nil]; omega
  theorem shl_len : ∀ l : List Rt, okL l = true → ((shL l).map List.length).sum + l.length ≤ 20 * sL l
    | [] => fun _ => by simp [shL]
    | t :: l => fun ho => by
      rw [okL] at ho
      simp at ho
      have h1 := sh_len t ho.1
      have h2 := shl_len l ho.2
      rw [shL, sL, List.map_cons, List.sum_cons, List.length_cons]
      omega
end
end
section
open Go.ChangeShapes Go.WideShapes Go.ChangeAt Go.RowKit
open SetM
attribute [local go_sem ↓] Go.wp_at_zero Go.wp_at_succ
set_option maxRecDepth 100000
set_option linter.unusedVariables false
def BkAt (B b : Nat) (l : List UInt8) (w : World) : Prop := Lib.IsBuilderF 46 5 B b (Lib.byteCells l) w
structure Bk (B b : Nat) (w w' : World) : Prop where
  below : Below B w w'
  kept : Lib.OthersKept 5 (some b) w w'
theorem bk_refl (B b : Nat) (w : World) : Bk B b w w := ⟨Below.refl B w, Lib.OthersKept.refl _ _ w⟩
theorem Bk.trans {B b : Nat} {w w1 w2 : World} (h : Bk B b w w1) (g : Bk B b w1 w2) : Bk B b w w2 := ⟨h.below.trans g.below, h.kept.trans g.kept⟩
theorem Bk.size {B b : Nat} {w w' : World} (h : Bk B b w w') : w.heap.size ≤ w'.heap.size := h.below.size
theorem bk_bl {B b : Nat} {w w' : World} (hb : Below w.heap.size w w') (hB : B ≤ w.heap.size) : Bk B b w w' :=
  ⟨hb.mono hB, fun k o hk _ _ => (hb.block k (Array.getElem?_eq_some_iff.1 hk).1).trans hk⟩
theorem Bk.obj {B b n : Nat} {w w' : World} (h : Bk B b w w') {cs : Array Value} {T : TypeId} {fz : Nat × Nat} (hn : w.heap[n]? = some (.cells cs T fz)) (hnb : n ≠ b) (hT : T ≠ 5) : w'.heap[n]? = some (.cells cs T fz) :=
  h.kept n _ hn (fun e => hnb (by injection e)) (fun c fz e => hT (by injection e))
theorem cell_heap {w : World} {n : Nat} {cs : Array Value} {T : TypeId} {fz : Nat × Nat} (h : w.heap[n]? = some (.cells cs T fz)) (j : Nat) (u : Value) (hu : cs.toList[j]? = some u) : w.cell? ⟨n, j, none⟩ = some u := by
  rw [Lib.cell_of_heap h, ← hu]
  simp
theorem bkat_bl {B b : Nat} {l : List UInt8} {w w' : World} (h : BkAt B b l w) (hb : Below w.heap.size w w') : BkAt B b l w' := by
  have key : ∀ p, Lib.BuilderAtF 46 5 B b p (Lib.byteCells l) w → Lib.BuilderAtF 46 5 B b p (Lib.byteCells l) w' := by
    rintro p ⟨h1, q, h2, h3, h4⟩
    refine ⟨h1, q, (hb.block _ (Array.getElem?_eq_some_iff.1 h2).1).trans h2, ?_, h4⟩
    obtain ⟨g1, g2⟩ := h3
    refine ⟨g1, ?_⟩
    rcases g2 with g2 | ⟨g, cap, cur, fz, hv, hg, hh, r⟩
    · exact .inl g2
    · exact .inr ⟨g, cap, cur, fz, hv, hg, (hb.block g (Array.getElem?_eq_some_iff.1 hh).1).trans hh, r⟩
  exact h.elim (fun h => .inl (key _ h)) (fun h => .inr (key _ h))
theorem bk_write (B b : Nat) (l : List UInt8) (s : ByteArray) (w : World) (h : BkAt B b l w) (hl : l.length + s.size ≤ 100000000) (hBw : B ≤ w.heap.size) :
    Calls Tryz.prog 28 #[.pointer (some ⟨b, 0, none⟩), .string s] w fun e w' => e = .returned (.tuple #[.int .i64 s.size, .nilIface]) ∧ BkAt B b (l ++ s.data.toList) w' ∧ Bk B b w w' := by
  refine (Any.Builder_WriteString_k lays166 extra166 B b (Lib.byteCells l) s w h (by rw [Lib.byteCells_length]; omega) hBw).mono ?_
  rintro e w' ⟨he, h1, h2, h3⟩
  refine ⟨he, ?_, h2, h3⟩
  unfold BkAt
  rw [Lib.byteCells_append, ← Lib.strCells_eq]
  exact .inr h1
theorem bk_string (B b : Nat) (l : List UInt8) (w : World) (h : BkAt B b l w) (hBw : B ≤ w.heap.size) :
    Calls Tryz.prog 18 #[.pointer (some ⟨b, 0, none⟩)] w fun e w' => e = .returned (.string ⟨l.toArray⟩) ∧ Bk B b w w' := (Any.Builder_String_any_k lays169 extra169 B b l w h hBw).mono fun _ _ ⟨he, _, hb, hk⟩ => ⟨he, hb, hk⟩
def WrPost (B b : Nat) (l : List UInt8) (w : World) (e : Ending) (w' : World) : Prop := e = .returned (.tuple #[]) ∧ BkAt B b l w' ∧ Bk B b w w'
theorem idx_any (E : ByteArray) (c : Int) (x : UInt8) (hc : c = (x.toNat : Int)) (r : Bool) (hr : E.data.toList.contains x = r) : ∃ i : Int, decide (0 ≤ i) = r ∧ ∀ w : World, Calls Tryz.prog 40 #[.string E, .int .u8 c] w fun e w' => e = .returned (.int .i64 i) ∧ w = w' := by
  subst hc
  refine ⟨_, ?_, fun w => (Any.strings_IndexByte idxB E _ w).mono fun e w' h => ⟨h.1, h.2.symm⟩⟩
  rw [← Lib.contains_iff_indexByte, ← hr]
  simp
theorem eq_dat (c : ByteArray) (l : List UInt8) : c.data.toList = l ↔ c = ⟨l.toArray⟩ := by
  constructor
  · intro h; exact SetM.ext _ _ (by rw [h])
  · rintro rfl; rfl
set_option maxHeartbeats 4000000 in
theorem showchar_any (B b : Nat) (l : List UInt8) (c E : ByteArray) (mk : List UInt8) (hE : E.data.toList = mk) (X : List UInt8) (hX : l ++ chSh mk c.data.toList = X) (w : World) (h : BkAt B b l w) (hc : 0 < c.size) (hl : l.length + c.size ≤ 90000000) (hBw : B ≤ w.heap.size) :
    Calls Tryz.prog 27 #[.pointer (some ⟨b, 0, none⟩), .string c, .string E] w (WrPost B b X w) := by
  unfold WrPost
  unfold chSh at hX
  by_cases q10 : c = ⟨#[10]⟩
  case pos =>
    subst q10
    have HC := hide (bk_write B b l ⟨#[92, 110]⟩ w h (by show l.length + 2 ≤ _; omega) hBw)
    have HX := hide (show l ++ [92, 110] = X from hX)
    clear hX h 
    go_enter Tryz.func27, Tryz.ntmps27
    go_wp2_with fail
    refine HC.out.mono ?_
    rintro e w2 ⟨rfl, h2, k2⟩
    go_wp2
    go_end0
    exact ⟨rfl, HX.out ▸ h2, k2⟩
  have z10 : (c.toList == (⟨#[10]⟩ : ByteArray).toList) = false := tleq _ _ _ (decide_eq_false q10)
  have y10 : (c.toList == [10]) = false := by have h := z10; rw [show (⟨#[10]⟩ : ByteArray).toList = [10] by rw [Go.ByteArray.toList_eq]] at h; exact h
  rw [if_neg (fun e => q10 ((eq_dat c _).1 e))] at hX
  by_cases q13 : c = ⟨#[13]⟩
  case pos =>
    subst q13
    have HC := hide (bk_write B b l ⟨#[92, 114]⟩ w h (by show l.length + 2 ≤ _; omega) hBw)
    have HX := hide (show l ++ [92, 114] = X from hX)
    clear hX h z10 y10
    go_enter Tryz.func27, Tryz.ntmps27
    go_wp2_with fail
    refine HC.out.mono ?_
    rintro e w2 ⟨rfl, h2, k2⟩
    go_wp2
    go_end0
    exact ⟨rfl, HX.out ▸ h2, k2⟩
  have z13 : (c.toList == (⟨#[13]⟩ : ByteArray).toList) = false := tleq _ _ _ (decide_eq_false q13)
  have y13 : (c.toList == [13]) = false := by have h := z13; rw [show (⟨#[13]⟩ : ByteArray).toList = [13] by rw [Go.ByteArray.toList_eq]] at h; exact h
  rw [if_neg (fun e => q13 ((eq_dat c _).1 e))] at hX
  by_cases q9 : c = ⟨#[9]⟩
  case pos =>
    subst q9
    have HC := hide (bk_write B b l ⟨#[92, 116]⟩ w h (by show l.length + 2 ≤ _; omega) hBw)
    have HX := hide (show l ++ [92, 116] = X from hX)
    clear hX h z10 y10 z13 y13
    go_enter Tryz.func27, Tryz.ntmps27
    go_wp2_with fail
    refine HC.out.mono ?_
    rintro e w2 ⟨rfl, h2, k2⟩
    go_wp2
    go_end0
    exact ⟨rfl, HX.out ▸ h2, k2⟩
  have z9 : (c.toList == (⟨#[9]⟩ : ByteArray).toList) = false := tleq _ _ _ (decide_eq_false q9)
  have y9 : (c.toList == [9]) = false := by have h := z9; rw [show (⟨#[9]⟩ : ByteArray).toList = [9] by rw [Go.ByteArray.toList_eq]] at h; exact h
  rw [if_neg (fun e => q9 ((eq_dat c _).1 e))] at hX
  by_cases q12 : c = ⟨#[12]⟩
  case pos =>
    subst q12
    have HC := hide (bk_write B b l ⟨#[92, 102]⟩ w h (by show l.length + 2 ≤ _; omega) hBw)
    have HX := hide (show l ++ [92, 102] = X from hX)
    clear hX h z10 y10 z13 y13 z9 y9
    go_enter Tryz.func27, Tryz.ntmps27
    go_wp2_with fail
    refine HC.out.mono ?_
    rintro e w2 ⟨rfl, h2, k2⟩
    go_wp2
    go_end0
    exact ⟨rfl, HX.out ▸ h2, k2⟩
  have z12 : (c.toList == (⟨#[12]⟩ : ByteArray).toList) = false := tleq _ _ _ (decide_eq_false q12)
  have y12 : (c.toList == [12]) = false := by have h := z12; rw [show (⟨#[12]⟩ : ByteArray).toList = [12] by rw [Go.ByteArray.toList_eq]] at h; exact h
  rw [if_neg (fun e => q12 ((eq_dat c _).1 e))] at hX
  by_cases q11 : c = ⟨#[11]⟩
  case pos =>
    subst q11
    have HC := hide (bk_write B b l ⟨#[92, 118]⟩ w h (by show l.length + 2 ≤ _; omega) hBw)
    have HX := hide (show l ++ [92, 118] = X from hX)
    clear hX h z10 y10 z13 y13 z9 y9 z12 y12
    go_enter Tryz.func27, Tryz.ntmps27
    go_wp2_with fail
    refine HC.out.mono ?_
    rintro e w2 ⟨rfl, h2, k2⟩
    go_wp2
    go_end0
    exact ⟨rfl, HX.out ▸ h2, k2⟩
  have z11 : (c.toList == (⟨#[11]⟩ : ByteArray).toList) = false := tleq _ _ _ (decide_eq_false q11)
  have y11 : (c.toList == [11]) = false := by have h := z11; rw [show (⟨#[11]⟩ : ByteArray).toList = [11] by rw [Go.ByteArray.toList_eq]] at h; exact h
  rw [if_neg (fun e => q11 ((eq_dat c _).1 e))] at hX
  obtain ⟨m, hm⟩ : ∃ m, E.data.toList.contains c[0] = m := ⟨_, rfl⟩
  obtain ⟨i, hi, hic⟩ := idx_any E _ c[0] rfl m hm
  have hh : c.data.toList.headD 0 = c[0] := by
    have h1 : 0 < c.data.toList.length := by simpa using hc
    have h2 : ∀ (L : List UInt8) (h : 0 < L.length), L.headD 0 = L[0] := fun L h => by
      cases L with
      | nil => cases h
      | cons a r => rfl
    rw [h2 _ h1]; rfl
  rw [hh, ← hE, hm] at hX
  have i1 : (0 : Int) < (c.size : Int) := by omega
  have HI := hide hic
  obtain ⟨c0, hc0⟩ : ∃ x, c[0] = x := ⟨_, rfl⟩
  have hcn : (c[0].toNat : Int) = c0.toNat := by rw [hc0]
  rw [hc0] at HI hm
  have HW := hide (fun l2 W hB hl2 hb2 => bk_write B b l2 c W hB hl2 hb2)
  have HL := hide hl
  have HBB := hide hBw
  clear hic hh hm hE hl hBw q10 q13 q9 q12 q11
  cases m with
  | false =>
    rw [if_neg (by simp)] at hX
    have HX := hide hX
    have HH := hide h
    clear hX h
    go_enter Tryz.func27, Tryz.ntmps27
    go_wp2_with fail
    refine (HI.out _).mono ?_
    rintro e _ ⟨rfl, rfl⟩
    go_wp2_with fail
    refine (HW.out l _ HH.out (by have := HL.out; omega) HBB.out).mono ?_
    rintro e w2 ⟨rfl, h2, k2⟩
    go_wp2
    go_end0
    exact ⟨rfl, HX.out ▸ h2, k2⟩
  | true =>
    rw [if_pos rfl] at hX
    have HX := hide hX
    have HH := hide (bk_write B b l ⟨#[92]⟩ w h (by show l.length + 1 ≤ _; have := HL.out; omega) HBB.out)
    clear hX h
    go_enter Tryz.func27, Tryz.ntmps27
    go_wp2_with fail
    refine (HI.out _).mono ?_
    rintro e _ ⟨rfl, rfl⟩
    go_wp2_with fail
    refine HH.out.mono ?_
    rintro e w2 ⟨rfl, h2, k2⟩
    have H2 := hide h2
    have K2 := hide k2
    clear h2 k2
    go_wp2_with fail
    refine (HW.out _ _ H2.out (by show (l ++ [92]).length + c.size ≤ _; have := HL.out; simp; omega) (Nat.le_trans HBB.out K2.out.size)).mono ?_
    rintro e w3 ⟨rfl, h3, k3⟩
    have H3 := hide (show BkAt B b X w3 by rw [← HX.out]; have := h3; rw [List.append_assoc] at this; exact this)
    have K3 := hide (K2.out.trans k3)
    clear h3 k3
    go_wp2
    go_end0
    exact ⟨rfl, H3.out, K3.out⟩
end
section
open Go.ChangeShapes Go.WideShapes Go.ChangeAt Go.RowKit
open Go.Lib (decDigits)
open SetM
attribute [local go_sem ↓] Go.wp_at_zero Go.wp_at_succ
set_option maxRecDepth 100000
set_option linter.unusedVariables false
def mkS (l : List UInt8) : ByteArray := ⟨l.toArray⟩
theorem mkS_dat (l : List UInt8) : (mkS l).data.toList = l := rfl
theorem dat_app (a b : ByteArray) : (a ++ b).data.toList = a.data.toList ++ b.data.toList := by
  rw [ByteArray.data_append]; simp
theorem eq_mk (a : ByteArray) (l : List UInt8) (h : a.data.toList = l) : a = mkS l := SetM.ext _ _ (by rw [h]; rfl)
theorem itoa_dat (n : Nat) : (itoaS n).data.toList = decDigits n := rfl
theorem itoa_size3 (n : Nat) (h : n ≤ 255) : (itoaS n).size ≤ 3 := by
  have := dec_le3 (n : Int) (by omega)
  unfold decI at this
  rw [Int.toNat_natCast] at this
  show (itoaS n).data.size ≤ 3
  rw [← Array.length_toList, itoa_dat]
  exact this
set_option maxHeartbeats 4000000 in
theorem shbounds_any {w0 : World} (hT : Go.Lib.TabIs Tryz.prog w0 "internal/strconv.uint64pow10" .u64 Go.Lib.pow10Tab) (mi ma : Int) (h1 : 0 ≤ mi) (h2 : mi ≤ 255) (h3 : ma = -1 ∨ (mi ≤ ma ∧ ma ≤ 255)) (w : World) (hb0 : Below w0.heap.size w0 w) :
    Calls Tryz.prog 30 #[.int .i64 mi, .int .i64 ma] w fun e w' => e = .returned (.string (mkS (bndS mi ma))) ∧ Below w.heap.size w w' := by
  have HIT := hide (fun i hi W (hb : Below w.heap.size w W) => it_any hT i hi W (bl_trans hb0 hb))
  obtain ⟨X, hX⟩ : ∃ X, mkS (bndS mi ma) = X := ⟨_, rfl⟩
  rw [hX]
  unfold bndS at hX
  clear hT hb0
  obtain ⟨n, rfl⟩ : ∃ n : Nat, mi = n := ⟨mi.toNat, by omega⟩
  have hn : n ≤ 255 := by omega
  have hs := itoa_size3 n hn
  have hd : decI (n : Int) = (itoaS n).data.toList := by unfold decI; rw [Int.toNat_natCast]; rfl
  rw [hd] at hX
  have HN := hide (HIT.out n (by omega) w (bl_refl w))
  by_cases qm : ma = -1
  case pos =>
    subst qm
    by_cases q0 : n = 0
    case pos =>
      subst q0
      rw [if_pos ⟨rfl, rfl⟩] at hX
      subst hX
      clear HN HIT hs hd
      go_enter Tryz.func30, Tryz.ntmps30
      go_wp2
      go_ret
      exact ⟨rfl, bl_refl w⟩
    by_cases q1 : n = 1
    case pos =>
      subst q1
      rw [if_neg (by simp), if_pos ⟨rfl, rfl⟩] at hX
      subst hX
      clear HN HIT hs hd q0
      go_enter Tryz.func30, Tryz.ntmps30
      go_wp2
      go_ret
      exact ⟨rfl, bl_refl w⟩
    have z0 : ((n : Int) == 0) = false := beq_eq_false_iff_ne.2 (by omega)
    have z1 : ((n : Int) == 1) = false := beq_eq_false_iff_ne.2 (by omega)
    have z2 : ((n : Int) == -1) = false := beq_eq_false_iff_ne.2 (by omega)
    rw [if_neg (fun e => q0 (by have := e.1; omega)), if_neg (fun e => q1 (by have := e.1; omega)), if_neg (fun e => by have := e.2; omega), if_neg (by omega), if_pos rfl] at hX
    have HX := hide (show (⟨#[123]⟩ : ByteArray) ++ itoaS n ++ ⟨#[44, 125]⟩ = X by rw [← hX]; exact eq_mk _ _ (by rw [dat_app, dat_app]; rfl))
    have l1 : ((⟨#[123]⟩ : ByteArray) ++ itoaS n).size ≤ 10 := by rw [ByteArray.size_append]; show 1 + _ ≤ _; omega
    clear hX hd q0 q1 HIT
    go_enter Tryz.func30, Tryz.ntmps30
    go_wp2_with fail
    refine HN.out.mono ?_
    rintro e w2 ⟨rfl, hb2⟩
    generalize itoaS n = S at *
    go_wp2
    go_ret
    exact ⟨by rw [← HX.out]; rfl, hb2⟩
  have zm : (ma == -1) = false := beq_eq_false_iff_ne.2 qm
  obtain ⟨k, rfl⟩ : ∃ k : Nat, ma = k := ⟨ma.toNat, by omega⟩
  have hk : k ≤ 255 ∧ n ≤ k := by omega
  have hs2 := itoa_size3 k hk.1
  have hd2 : decI (k : Int) = (itoaS k).data.toList := by unfold decI; rw [Int.toNat_natCast]; rfl
  rw [hd2] at hX
  rw [if_neg (fun e => qm e.2), if_neg (fun e => qm e.2)] at hX
  by_cases q01 : n = 0 ∧ k = 1
  case pos =>
    obtain ⟨rfl, rfl⟩ := q01
    rw [if_pos ⟨rfl, rfl⟩] at hX
    subst hX
    clear HN HIT hs hd hs2 hd2
    go_enter Tryz.func30, Tryz.ntmps30
    go_wp2
    go_ret
    exact ⟨rfl, bl_refl w⟩
  rw [if_neg (fun e => q01 ⟨by have := e.1; omega, by have := e.2; omega⟩)] at hX
  by_cases qe : n = k
  case pos =>
    subst qe
    rw [if_pos rfl] at hX
    have HX := hide (show (⟨#[123]⟩ : ByteArray) ++ itoaS n ++ ⟨#[125]⟩ = X by rw [← hX]; exact eq_mk _ _ (by rw [dat_app, dat_app]; rfl))
    have l1 : ((⟨#[123]⟩ : ByteArray) ++ itoaS n).size ≤ 10 := by rw [ByteArray.size_append]; show 1 + _ ≤ _; omega
    have z0 : ((n : Int) == 0) = decide (n = 0) := by rw [Bool.eq_iff_iff]; simp
    have z1 : ((n : Int) == 1) = decide (n = 1) := by rw [Bool.eq_iff_iff]; simp; omega
    have zz : ((n : Int) == (n : Int)) = true := by simp
    clear hX hd hd2 HIT hs2
    by_cases q0 : n = 0
    case pos =>
      subst q0
      go_enter Tryz.func30, Tryz.ntmps30
      go_wp2_with fail
      refine HN.out.mono ?_
      rintro e w2 ⟨rfl, hb2⟩
      generalize itoaS 0 = S at *
      go_wp2
      go_ret
      exact ⟨by rw [← HX.out]; rfl, hb2⟩
    have y0 : ((n : Int) == 0) = false := beq_eq_false_iff_ne.2 (by omega)
    clear z0
    by_cases q1 : n = 1
    case pos =>
      subst q1
      go_enter Tryz.func30, Tryz.ntmps30
      go_wp2_with fail
      refine HN.out.mono ?_
      rintro e w2 ⟨rfl, hb2⟩
      generalize itoaS 1 = S at *
      go_wp2
      go_ret
      exact ⟨by rw [← HX.out]; rfl, hb2⟩
    have y1 : ((n : Int) == 1) = false := beq_eq_false_iff_ne.2 (by omega)
    clear z1 q0 q1
    go_enter Tryz.func30, Tryz.ntmps30
    go_wp2_with fail
    refine HN.out.mono ?_
    rintro e w2 ⟨rfl, hb2⟩
    generalize itoaS n = S at *
    go_wp2
    go_ret
    exact ⟨by rw [← HX.out]; rfl, hb2⟩
  rw [if_neg (by omega), if_neg (by omega)] at hX
  have HX := hide (show (⟨#[123]⟩ : ByteArray) ++ itoaS n ++ ⟨#[44]⟩ ++ itoaS k ++ ⟨#[125]⟩ = X by rw [← hX]; exact eq_mk _ _ (by rw [dat_app, dat_app, dat_app, dat_app]; rfl))
  have l1 : ((⟨#[123]⟩ : ByteArray) ++ itoaS n).size ≤ 10 := by rw [ByteArray.size_append]; show 1 + _ ≤ _; omega
  have l2 : ((⟨#[123]⟩ : ByteArray) ++ itoaS n ++ ⟨#[44]⟩).size ≤ 11 := by rw [ByteArray.size_append]; show _ + 1 ≤ _; omega
  have l3 : ((⟨#[123]⟩ : ByteArray) ++ itoaS n ++ ⟨#[44]⟩ ++ itoaS k).size ≤ 20 := by rw [ByteArray.size_append]; omega
  have ze : ((n : Int) == (k : Int)) = false := beq_eq_false_iff_ne.2 (by omega)
  have HK := hide (fun W hb => HIT.out k (by omega) W hb)
  clear hX hd hd2 HIT
  by_cases q0 : n = 0
  case pos =>
    subst q0
    have y1 : ((k : Int) == 1) = false := beq_eq_false_iff_ne.2 (by omega)
    clear q01 qe
    go_enter Tryz.func30, Tryz.ntmps30
    go_wp2_with fail
    refine HN.out.mono ?_
    rintro e w2 ⟨rfl, hb2⟩
    have HB2 := hide hb2
    clear hb2
    generalize itoaS 0 = S at *
    go_wp2_with fail
    refine (HK.out _ HB2.out).mono ?_
    rintro e w3 ⟨rfl, hb3⟩
    have HB3 := hide (bl_trans HB2.out hb3)
    clear hb3
    generalize itoaS k = S2 at *
    go_wp2
    go_ret
    exact ⟨by rw [← HX.out]; rfl, HB3.out⟩
  have y0 : ((n : Int) == 0) = false := beq_eq_false_iff_ne.2 (by omega)
  by_cases q1 : n = 1
  case pos =>
    subst q1
    clear q01 qe q0
    go_enter Tryz.func30, Tryz.ntmps30
    go_wp2_with fail
    refine HN.out.mono ?_
    rintro e w2 ⟨rfl, hb2⟩
    have HB2 := hide hb2
    clear hb2
    generalize itoaS 1 = S at *
    go_wp2_with fail
    refine (HK.out _ HB2.out).mono ?_
    rintro e w3 ⟨rfl, hb3⟩
    have HB3 := hide (bl_trans HB2.out hb3)
    clear hb3
    generalize itoaS k = S2 at *
    go_wp2
    go_ret
    exact ⟨by rw [← HX.out]; rfl, HB3.out⟩
  have y1 : ((n : Int) == 1) = false := beq_eq_false_iff_ne.2 (by omega)
  clear q01 qe q0 q1
  go_enter Tryz.func30, Tryz.ntmps30
  go_wp2_with fail
  refine HN.out.mono ?_
  rintro e w2 ⟨rfl, hb2⟩
  have HB2 := hide hb2
  clear hb2
  generalize itoaS n = S at *
  go_wp2_with fail
  refine (HK.out _ HB2.out).mono ?_
  rintro e w3 ⟨rfl, hb3⟩
  have HB3 := hide (bl_trans HB2.out hb3)
  clear hb3
  generalize itoaS k = S2 at *
  go_wp2
  go_ret
  exact ⟨by rw [← HX.out]; rfl, HB3.out⟩
end
section
open Go.ChangeShapes Go.WideShapes Go.ChangeAt Go.RowKit
open SetM
attribute [local go_sem ↓] Go.wp_at_zero Go.wp_at_succ
set_option maxRecDepth 100000
set_option linter.unusedVariables false
theorem bl_bk {a w w' : World} {B b : Nat} (h : Below a.heap.size a w) (hB : a.heap.size ≤ B) (k : Bk B b w w') : Below a.heap.size a w' := h.trans (k.below.mono hB)
theorem rows_snoc (l : List Rw) (k : Nat) (h : k < l.length) : (l.take (k + 1)).flatMap rowS = (l.take k).flatMap rowS ++ rowS l[k] := by
  rw [List.take_succ_eq_append_getElem h, List.flatMap_append]; simp
theorem rwS_upto (l : List Rw) (k : Nat) : rwS (l.take k) ≤ rwS l := by
  have : rwS l = rwS (l.take k) + rwS (l.drop k) := by rw [← rwS_app, List.take_append_drop]
  omega
theorem rowB_pos {r : Rw} (h : rowB r = true) : 0 < r.1.size ∧ 0 < r.2.size := by
  unfold rowB at h
  simp at h
  have h1 := h.1.1
  have h2 := h.1.2
  unfold properB at h1 h2
  obtain ⟨g1, _⟩ := of_decide_eq_true h1
  obtain ⟨g2, _⟩ := of_decide_eq_true h2
  have e1 : r.1.data.toList.length = r.1.size := by simp
  have e2 : r.2.data.toList.length = r.2.size := by simp
  omega
theorem sub_rx : (25 : Nat) ≠ 5 := by decide
theorem sub_row : (42 : Nat) ≠ 5 := by decide
set_option maxHeartbeats 8000000 in
theorem showset_any {w0 : World} {B b : Nat} {t : Rt} (h : RxAt w0 t) (hB : w0.heap.size ≤ B) (hm : mayF t.rows = true) (l : List UInt8) (hl : l.length + 10 + 10 * rwS t.rows ≤ 80000000) (w : World) (hb0 : Below w0.heap.size w0 w) (hk : BkAt B b l w) (hBw : B ≤ w.heap.size) (hbw : b < w.heap.size) :
    Calls Tryz.prog 29 #[.pointer (some ⟨b, 0, none⟩), t.v] w (WrPost B b (l ++ setS t.nt t.rows) w) := by
  obtain ⟨A, c, hkv⟩ := ksat_len h.ks
  obtain ⟨RA, rc, hrv⟩ := rwat_len h.rows
  have HR := hide h.rows
  have hv : t.v = .agg #[.int .i64 t.k, .string t.ch, .bool t.nt, .slice RA t.rows.length rc, .int .i64 t.mi, .int .i64 t.ma, .bool t.lz, .slice A t.kids.length c] := by unfold Rt.v Rt.cs; rw [hkv, hrv]
  have HMF := hide (fun i hi => rowB_pos ((mayF_at t.rows).1 hm i hi).1)
  rw [hrv] at HR
  rw [hv]
  unfold WrPost
  clear h hkv hrv hv hm
  generalize t.rows = rows at *
  generalize t.kids = kids at *
  generalize t.k = k at *
  generalize t.ch = ch at *
  generalize t.nt = nt at *
  generalize t.mi = mi at *
  generalize t.ma = ma at *
  generalize t.lz = lz at *
  have HB0 := hide hb0
  have HL := hide hl
  have HBB := hide hB
  have HBW := hide (show B ≤ w.heap.size from hBw)
  have HNB := hide (show w.heap.size ≠ b by omega)
  obtain ⟨W1, hW1⟩ : ∃ W1, w.alloc (.cells #[.int .i64 k, .string ch, .bool nt, .slice RA rows.length rc, .int .i64 mi, .int .i64 ma, .bool lz, .slice A kids.length c] 25) = W1 := ⟨_, rfl⟩
  have HA := hide (show Bk B b w W1 from by rw [← hW1]; exact bk_bl (bl_alloc (bl_refl w) _) hBw)
  have hobj : W1.heap[w.heap.size]? = some (.cells #[.int .i64 k, .string ch, .bool nt, .slice RA rows.length rc, .int .i64 mi, .int .i64 ma, .bool lz, .slice A kids.length c] 25) := by rw [← hW1]; exact heap_alloc_new w _
  have HK1 := hide (show BkAt B b l W1 from by rw [← hW1]; exact bkat_bl hk (bl_alloc (bl_refl w) _))
  have HC1 := hide (bk_write B b l ⟨#[91]⟩ W1 HK1.out (by show l.length + 1 ≤ _; have := HL.out; omega) (Nat.le_trans hBw HA.out.size))
  clear hb0 hk hB hl
  go_enter Tryz.func29, Tryz.ntmps29
  go_wp2_with fail
  refine HC1.out.mono ?_
  rintro e w2 ⟨rfl, h2, k2⟩
  have hobj2 := k2.obj hobj HNB.out sub_rx
  have H2 := hide h2
  have K2 := hide (HA.out.trans k2)
  have c2 := cell_heap hobj2 2 _ rfl
  have c3 := cell_heap hobj2 3 _ rfl
  have HO2 := hide hobj2
  clear h2 k2 hobj hobj2 HC1 HK1
  cases nt with
  | false =>
    go_wp2
    clear c2 c3
    go_loopw [15] (fun i wr => ∃ k1 : Nat, i = .int .i64 k1 ∧ k1 ≤ rows.length ∧ Hid (BkAt B b (l ++ [91] ++ (rows.take k1).flatMap rowS) wr) ∧ Hid (Bk B b w wr)) (fun i _ => rows.length - (intOf i).toNat)
    case atStart => exact ⟨0, rfl, Nat.zero_le _, hide (by simpa using H2.out), K2⟩
    case round =>
      obtain ⟨k1, rfl, hk1, HK, HBK⟩ := hrel
      have hlen : (l ++ [91] ++ (rows.take k1).flatMap rowS).length ≤ l.length + 2 + 5 * rwS rows := by have h1 := rows_len (rows.take k1); have h2 := rwS_upto rows k1; simp only [List.length_append, List.length_cons, List.length_nil]; omega
      by_cases hlt : k1 < rows.length
      case neg =>
        obtain rfl : k1 = rows.length := by omega
        have gl : decide ((rows.length : Int) < (rows.length : Int)) = false := by simp
        have gl' : decide (rows.length < rows.length) = false := by simp
        have hkk := HK.out
        rw [List.take_length] at hkk hlen
        have HW := hide (bk_write B b _ ⟨#[93]⟩ wr hkk (by show _ + 1 ≤ _; have := HL.out; omega) (Nat.le_trans HBW.out HBK.out.size))
        clear hkk hlen hlt
        go_wp2_with fail
        refine HW.out.mono ?_
        rintro e w9 ⟨rfl, h9, k9⟩
        have H9 := hide h9
        have K9 := hide (HBK.out.trans k9)
        clear h9 k9
        go_wp2
        go_end0
        exact ⟨rfl, by have := H9.out; simpa [setS] using this, K9.out⟩
      have hbx := bl_bk HB0.out HBB.out HBK.out
      obtain ⟨b1, o1, cc1, hv1, hc1, hm1, hlb1, hcell⟩ := rwat_some (rwat_below HR.out hbx) (by omega)
      injection hv1 with hv1 _ hv1c
      subst hv1 hv1c
      unfold maxLen at hm1
      obtain ⟨x0, x1⟩ := hcell k1 hlt
      have hsn := rows_snoc rows k1 hlt
      have hin := rwS_in rows _ (List.getElem_mem hlt)
      obtain ⟨p1, p2⟩ := HMF.out k1 hlt
      obtain ⟨d, hd⟩ : ∃ d, rows[k1]'hlt = d := ⟨_, rfl⟩
      rw [hd] at x0 x1 hsn hin p1 p2
      obtain ⟨a1, a2⟩ := d
      simp only at x0 x1 hin p1 p2
      have gl : decide ((k1 : Int) < (rows.length : Int)) = true := decide_eq_true (by omega)
      have gl' : decide (k1 < rows.length) = true := decide_eq_true hlt
      have e5 : IntKind.i64.wrap ((k1 : Int) + 1) = (k1 : Int) + 1 := by rw [IntKind.wrap_i64]; omega
      have i1 : (0 : Int) ≤ (k1 : Int) := by omega
      have i2 : (k1 : Int) < (rows.length : Int) := by omega
      have HKN := hide (show k1 + 1 ≤ rows.length by omega)
      have HLL := hide hlen
      have HIN := hide hin
      obtain ⟨W3, hW3⟩ : ∃ W3, wr.alloc (.cells #[.string a1, .string a2] 42) = W3 := ⟨_, rfl⟩
      have HA3 := hide (show Bk B b wr W3 from by rw [← hW3]; exact bk_bl (bl_alloc (bl_refl wr) _) (Nat.le_trans HBW.out HBK.out.size))
      have ho3 : W3.heap[wr.heap.size]? = some (.cells #[.string a1, .string a2] 42) := by rw [← hW3]; exact heap_alloc_new wr _
      have y0 := cell_heap ho3 0 _ rfl
      have y1 := cell_heap ho3 1 _ rfl
      have HNB3 := hide (show wr.heap.size ≠ b from fun e => by have := HBK.out.size; omega)
      have HK3 := hide (show BkAt B b (l ++ [91] ++ (rows.take k1).flatMap rowS) W3 from by rw [← hW3]; exact bkat_bl HK.out (bl_alloc (bl_refl wr) _))
      have HS1 := hide (showchar_any B b _ a1 ⟨#[94, 45, 92, 91, 93, 47]⟩ mkC rfl _ rfl W3 HK3.out p1 (by have := HL.out; omega) (Nat.le_trans HBW.out (Nat.le_trans HBK.out.size HA3.out.size)))
      have HO3 := hide ho3
      unfold WrPost at HS1
      clear hcell hd hlen hin hbx ho3 HK3 hc1
      go_wp2_with fail
      refine HS1.out.mono ?_
      rintro e w4 ⟨rfl, h4, k4⟩
      have ho4 := k4.obj HO3.out HNB3.out sub_row
      have HO4 := hide ho4
      clear y0 y1 x0 x1
      have z0 := cell_heap ho4 0 _ rfl
      have z1 := cell_heap ho4 1 _ rfl
      have H4 := hide h4
      have K4 := hide (HBK.out.trans (HA3.out.trans k4))
      clear h4 k4 ho4 HS1
      by_cases qe : a2 = a1
      case pos =>
        subst qe
        have HN := hide (show BkAt B b (l ++ [91] ++ (rows.take (k1 + 1)).flatMap rowS) w4 from by rw [hsn, show rowS (a2, a2) = chSh mkC a2.data.toList from by unfold rowS; simp]; have := H4.out; simpa [List.append_assoc] using this)
        have gn : (a2.toList == a2.toList) = true := by simp
        clear hsn p1 p2
        go_wp2
        refine ⟨?_, by first | (simp [intOf]; done) | (simp [intOf]; omega)⟩
        first
          | exact ⟨k1 + 1, by go_num, HKN.out, HN, K4⟩
          | ((repeat apply Exists.intro); exact ⟨⟨k1 + 1, by go_num, HKN.out, HN, K4⟩, rfl⟩)
      have gn : (a2.toList == a1.toList) = false := tleq _ _ _ (decide_eq_false qe)
      have hl4 : (l ++ [91] ++ (rows.take k1).flatMap rowS ++ chSh mkC a1.data.toList).length ≤ l.length + 4 + 5 * rwS rows + a1.size := by
        have h1 := chS_len mkC a1.data.toList
        have h2 : a1.data.toList.length = a1.size := by simp
        have h3 := HLL.out
        rw [List.length_append]
        omega
      have HL4 := hide hl4
      have HW4 := hide (bk_write B b _ ⟨#[45]⟩ w4 H4.out (by show _ + 1 ≤ _; have := HL4.out; have := HIN.out; have := HL.out; have := rwS_len rows; omega) (Nat.le_trans HBW.out K4.out.size))
      clear hl4
      go_wp2_with fail
      refine HW4.out.mono ?_
      rintro e w5 ⟨rfl, h5, k5⟩
      have ho5 := k5.obj HO4.out HNB3.out sub_row
      clear z0 z1
      have z1 := cell_heap ho5 1 _ rfl
      have K5 := hide (K4.out.trans k5)
      have HS5 := hide (showchar_any B b _ a2 ⟨#[94, 45, 92, 91, 93, 47]⟩ mkC rfl _ rfl w5 h5 p2 (by have := HL4.out; have := HIN.out; have := HL.out; rw [List.length_append]; show _ + 1 + _ ≤ _; omega) (Nat.le_trans HBW.out K5.out.size))
      unfold WrPost at HS5
      clear h5 k5 ho5 HW4
      go_wp2_with fail
      refine HS5.out.mono ?_
      rintro e w6 ⟨rfl, h6, k6⟩
      have HN := hide (show BkAt B b (l ++ [91] ++ (rows.take (k1 + 1)).flatMap rowS) w6 from by rw [hsn, show rowS (a1, a2) = chSh mkC a1.data.toList ++ 45 :: chSh mkC a2.data.toList from by unfold rowS; rw [if_neg qe]]; have := h6; simpa [List.append_assoc] using this)
      have K6 := hide (K5.out.trans k6)
      clear h6 k6 z1 hsn p1 p2 qe gn
      go_wp2
      refine ⟨?_, by first | (simp [intOf]; done) | (simp [intOf]; omega)⟩
      first
        | exact ⟨k1 + 1, by go_num, HKN.out, HN, K6⟩
        | ((repeat apply Exists.intro); exact ⟨⟨k1 + 1, by go_num, HKN.out, HN, K6⟩, rfl⟩)
  | true =>
    have HW2 := hide (bk_write B b _ ⟨#[94]⟩ w2 H2.out (by show (l ++ [91]).length + 1 ≤ _; have := HL.out; simp; omega) (Nat.le_trans HBW.out K2.out.size))
    clear c3
    go_wp2_with fail
    refine HW2.out.mono ?_
    rintro e w22 ⟨rfl, h22, k22⟩
    have ho22 := k22.obj HO2.out HNB.out sub_rx
    have c3 := cell_heap ho22 3 _ rfl
    have H22 := hide (show BkAt B b (l ++ [91, 94]) w22 from by have := h22; simpa [List.append_assoc] using this)
    have K22 := hide (K2.out.trans k22)
    clear h22 k22 ho22 HW2
    go_wp2
    clear c3 c2
    go_loopw [15] (fun i wr => ∃ k1 : Nat, i = .int .i64 k1 ∧ k1 ≤ rows.length ∧ Hid (BkAt B b (l ++ [91, 94] ++ (rows.take k1).flatMap rowS) wr) ∧ Hid (Bk B b w wr)) (fun i _ => rows.length - (intOf i).toNat)
    case atStart => exact ⟨0, rfl, Nat.zero_le _, hide (by simpa using H22.out), K22⟩
    case round =>
      obtain ⟨k1, rfl, hk1, HK, HBK⟩ := hrel
      have hlen : (l ++ [91, 94] ++ (rows.take k1).flatMap rowS).length ≤ l.length + 2 + 5 * rwS rows := by have h1 := rows_len (rows.take k1); have h2 := rwS_upto rows k1; simp only [List.length_append, List.length_cons, List.length_nil]; omega
      by_cases hlt : k1 < rows.length
      case neg =>
        obtain rfl : k1 = rows.length := by omega
        have gl : decide ((rows.length : Int) < (rows.length : Int)) = false := by simp
        have gl' : decide (rows.length < rows.length) = false := by simp
        have hkk := HK.out
        rw [List.take_length] at hkk hlen
        have HW := hide (bk_write B b _ ⟨#[93]⟩ wr hkk (by show _ + 1 ≤ _; have := HL.out; omega) (Nat.le_trans HBW.out HBK.out.size))
        clear hkk hlen hlt
        go_wp2_with fail
        refine HW.out.mono ?_
        rintro e w9 ⟨rfl, h9, k9⟩
        have H9 := hide h9
        have K9 := hide (HBK.out.trans k9)
        clear h9 k9
        go_wp2
        go_end0
        exact ⟨rfl, by have := H9.out; simpa [setS] using this, K9.out⟩
      have hbx := bl_bk HB0.out HBB.out HBK.out
      obtain ⟨b1, o1, cc1, hv1, hc1, hm1, hlb1, hcell⟩ := rwat_some (rwat_below HR.out hbx) (by omega)
      injection hv1 with hv1 _ hv1c
      subst hv1 hv1c
      unfold maxLen at hm1
      obtain ⟨x0, x1⟩ := hcell k1 hlt
      have hsn := rows_snoc rows k1 hlt
      have hin := rwS_in rows _ (List.getElem_mem hlt)
      obtain ⟨p1, p2⟩ := HMF.out k1 hlt
      obtain ⟨d, hd⟩ : ∃ d, rows[k1]'hlt = d := ⟨_, rfl⟩
      rw [hd] at x0 x1 hsn hin p1 p2
      obtain ⟨a1, a2⟩ := d
      simp only at x0 x1 hin p1 p2
      have gl : decide ((k1 : Int) < (rows.length : Int)) = true := decide_eq_true (by omega)
      have gl' : decide (k1 < rows.length) = true := decide_eq_true hlt
      have e5 : IntKind.i64.wrap ((k1 : Int) + 1) = (k1 : Int) + 1 := by rw [IntKind.wrap_i64]; omega
      have i1 : (0 : Int) ≤ (k1 : Int) := by omega
      have i2 : (k1 : Int) < (rows.length : Int) := by omega
      have HKN := hide (show k1 + 1 ≤ rows.length by omega)
      have HLL := hide hlen
      have HIN := hide hin
      obtain ⟨W3, hW3⟩ : ∃ W3, wr.alloc (.cells #[.string a1, .string a2] 42) = W3 := ⟨_, rfl⟩
      have HA3 := hide (show Bk B b wr W3 from by rw [← hW3]; exact bk_bl (bl_alloc (bl_refl wr) _) (Nat.le_trans HBW.out HBK.out.size))
      have ho3 : W3.heap[wr.heap.size]? = some (.cells #[.string a1, .string a2] 42) := by rw [← hW3]; exact heap_alloc_new wr _
      have y0 := cell_heap ho3 0 _ rfl
      have y1 := cell_heap ho3 1 _ rfl
      have HNB3 := hide (show wr.heap.size ≠ b from fun e => by have := HBK.out.size; omega)
      have HK3 := hide (show BkAt B b (l ++ [91, 94] ++ (rows.take k1).flatMap rowS) W3 from by rw [← hW3]; exact bkat_bl HK.out (bl_alloc (bl_refl wr) _))
      have HS1 := hide (showchar_any B b _ a1 ⟨#[94, 45, 92, 91, 93, 47]⟩ mkC rfl _ rfl W3 HK3.out p1 (by have := HL.out; omega) (Nat.le_trans HBW.out (Nat.le_trans HBK.out.size HA3.out.size)))
      have HO3 := hide ho3
      unfold WrPost at HS1
      clear hcell hd hlen hin hbx ho3 HK3 hc1
      go_wp2_with fail
      refine HS1.out.mono ?_
      rintro e w4 ⟨rfl, h4, k4⟩
      have ho4 := k4.obj HO3.out HNB3.out sub_row
      have HO4 := hide ho4
      clear y0 y1 x0 x1
      have z0 := cell_heap ho4 0 _ rfl
      have z1 := cell_heap ho4 1 _ rfl
      have H4 := hide h4
      have K4 := hide (HBK.out.trans (HA3.out.trans k4))
      clear h4 k4 ho4 HS1
      by_cases qe : a2 = a1
      case pos =>
        subst qe
        have HN := hide (show BkAt B b (l ++ [91, 94] ++ (rows.take (k1 + 1)).flatMap rowS) w4 from by rw [hsn, show rowS (a2, a2) = chSh mkC a2.data.toList from by unfold rowS; simp]; have := H4.out; simpa [List.append_assoc] using this)
        have gn : (a2.toList == a2.toList) = true := by simp
        clear hsn p1 p2
        go_wp2
        refine ⟨?_, by first | (simp [intOf]; done) | (simp [intOf]; omega)⟩
        first
          | exact ⟨k1 + 1, by go_num, HKN.out, HN, K4⟩
          | ((repeat apply Exists.intro); exact ⟨⟨k1 + 1, by go_num, HKN.out, HN, K4⟩, rfl⟩)
      have gn : (a2.toList == a1.toList) = false := tleq _ _ _ (decide_eq_false qe)
      have hl4 : (l ++ [91, 94] ++ (rows.take k1).flatMap rowS ++ chSh mkC a1.data.toList).length ≤ l.length + 4 + 5 * rwS rows + a1.size := by
        have h1 := chS_len mkC a1.data.toList
        have h2 : a1.data.toList.length = a1.size := by simp
        have h3 := HLL.out
        rw [List.length_append]
        omega
      have HL4 := hide hl4
      have HW4 := hide (bk_write B b _ ⟨#[45]⟩ w4 H4.out (by show _ + 1 ≤ _; have := HL4.out; have := HIN.out; have := HL.out; have := rwS_len rows; omega) (Nat.le_trans HBW.out K4.out.size))
      clear hl4
      go_wp2_with fail
      refine HW4.out.mono ?_
      rintro e w5 ⟨rfl, h5, k5⟩
      have ho5 := k5.obj HO4.out HNB3.out sub_row
      clear z0 z1
      have z1 := cell_heap ho5 1 _ rfl
      have K5 := hide (K4.out.trans k5)
      have HS5 := hide (showchar_any B b _ a2 ⟨#[94, 45, 92, 91, 93, 47]⟩ mkC rfl _ rfl w5 h5 p2 (by have := HL4.out; have := HIN.out; have := HL.out; rw [List.length_append]; show _ + 1 + _ ≤ _; omega) (Nat.le_trans HBW.out K5.out.size))
      unfold WrPost at HS5
      clear h5 k5 ho5 HW4
      go_wp2_with fail
      refine HS5.out.mono ?_
      rintro e w6 ⟨rfl, h6, k6⟩
      have HN := hide (show BkAt B b (l ++ [91, 94] ++ (rows.take (k1 + 1)).flatMap rowS) w6 from by rw [hsn, show rowS (a1, a2) = chSh mkC a1.data.toList ++ 45 :: chSh mkC a2.data.toList from by unfold rowS; rw [if_neg qe]]; have := h6; simpa [List.append_assoc] using this)
      have K6 := hide (K5.out.trans k6)
      clear h6 k6 z1 hsn p1 p2 qe gn
      go_wp2
      refine ⟨?_, by first | (simp [intOf]; done) | (simp [intOf]; omega)⟩
      first
        | exact ⟨k1 + 1, by go_num, HKN.out, HN, K6⟩
        | ((repeat apply Exists.intro); exact ⟨⟨k1 + 1, by go_num, HKN.out, HN, K6⟩, rfl⟩)
end
section
open Go.ChangeShapes Go.WideShapes Go.ChangeAt Go.RowKit
open SetM
attribute [local go_sem ↓] Go.wp_at_zero Go.wp_at_succ
set_option maxRecDepth 100000
set_option linter.unusedVariables false
theorem sL_upto (l : List Rt) (k : Nat) (h : k < l.length) : sL (l.take k) + sM l[k] ≤ sL l := by
  have h1 := sL_snoc l k h
  have h2 : sL l = sL (l.take (k + 1)) + sL (l.drop (k + 1)) := by rw [← sL_app, List.take_append_drop]
  omega
theorem okL_upto (l : List Rt) (k : Nat) (ho : okL l = true) : okL (l.take k) = true := by
  have h1 : okL l = (okL (l.take k) && okL (l.drop k)) := by rw [← okL_app, List.take_append_drop]
  rw [ho] at h1
  simp at h1
  exact h1.1
theorem joins_len (sep : List UInt8) (hs : sep.length ≤ 1) (l : List Rt) (k : Nat) (ho : okL l = true) : (joinS sep ((l.map shX).take k)).length ≤ 20 * sL (l.take k) := by
  rw [← List.map_take, ← shL_map]
  have h1 := join_len sep (shL (l.take k)) _ hs (Nat.le_refl _)
  have h2 := shl_len (l.take k) (okL_upto l k ho)
  have h3 : (shL (l.take k)).length = (l.take k).length := by rw [shL_map, List.length_map]
  omega
set_option maxHeartbeats 8000000 in
theorem showkids_any {w0 : World} {B b : Nat} {t : Rt} (h : RxAt w0 t) (hB : w0.heap.size ≤ B) (hoB : B ≤ b) (ho : okL t.kids = true)
    (HF : ∀ i (hi : i < t.kids.length) (l : List UInt8) W, l.length + 20 * sM t.kids[i] ≤ 80000000 → Below w0.heap.size w0 W → BkAt B b l W → B ≤ W.heap.size → b < W.heap.size → Calls Tryz.prog 17 #[.pointer (some ⟨b, 0, none⟩), t.kids[i].v] W (WrPost B b (l ++ shX t.kids[i]) W))
    (p q r : ByteArray) (hp : p.size ≤ 3) (hq : q.size ≤ 1) (hr : r.size ≤ 20) (l : List UInt8) (hl : l.length + 10 + 20 * sL t.kids ≤ 80000000) (w : World) (hb0 : Below w0.heap.size w0 w) (hk : BkAt B b l w) (hBw : B ≤ w.heap.size) (hbw : b < w.heap.size) :
    Calls Tryz.prog 26 #[.pointer (some ⟨b, 0, none⟩), t.v, .string p, .string q, .string r] w (WrPost B b (l ++ p.data.toList ++ joinS q.data.toList (t.kids.map shX) ++ r.data.toList) w) := by
  obtain ⟨A, c, hkv⟩ := ksat_len h.ks
  obtain ⟨RA, rc, hrv⟩ := rwat_len h.rows
  have HK := hide h.ks
  have HRX := hide h
  have hv : t.v = .agg #[.int .i64 t.k, .string t.ch, .bool t.nt, .slice RA t.rows.length rc, .int .i64 t.mi, .int .i64 t.ma, .bool t.lz, .slice A t.kids.length c] := by unfold Rt.v Rt.cs; rw [hkv, hrv]
  rw [hkv] at HK
  rw [hv]
  unfold WrPost at *
  obtain ⟨kids, hkids⟩ : ∃ kids, t.kids = kids := ⟨_, rfl⟩
  have HIH2 := hide (fun i (hi : i < kids.length) => (show ∃ h2 : i < t.kids.length, t.kids[i] = kids[i] by subst hkids; exact ⟨hi, rfl⟩))
  have HFF := hide HF
  rw [hkids] at HK ho hl ⊢
  have HOK := hide ho
  have HJL := hide (fun k => joins_len q.data.toList (by simpa using hq) kids k ho)
  have HL := hide hl
  have HPQ := hide (And.intro hp (And.intro hq hr))
  clear h hkv hrv hv HF ho hkids hl hp hq hr
  generalize t.rows.length = rl at *
  generalize t.k = k at *
  generalize t.ch = ch at *
  generalize t.nt = nt at *
  generalize t.mi = mi at *
  generalize t.ma = ma at *
  generalize t.lz = lz at *
  have HB0 := hide hb0
  have HBB := hide hB
  have HOB := hide hoB
  have HBW := hide (show B ≤ w.heap.size from hBw)
  have HBW2 := hide (show b < w.heap.size from hbw)
  have HNB := hide (show w.heap.size ≠ b by omega)
  have psz : p.data.toList.length = p.size := by simp
  have qsz : q.data.toList.length = q.size := by simp
  obtain ⟨W1, hW1⟩ : ∃ W1, w.alloc (.cells #[.int .i64 k, .string ch, .bool nt, .slice RA rl rc, .int .i64 mi, .int .i64 ma, .bool lz, .slice A kids.length c] 25) = W1 := ⟨_, rfl⟩
  have HA := hide (show Bk B b w W1 from by rw [← hW1]; exact bk_bl (bl_alloc (bl_refl w) _) hBw)
  have hobj : W1.heap[w.heap.size]? = some (.cells #[.int .i64 k, .string ch, .bool nt, .slice RA rl rc, .int .i64 mi, .int .i64 ma, .bool lz, .slice A kids.length c] 25) := by rw [← hW1]; exact heap_alloc_new w _
  have HK1 := hide (show BkAt B b l W1 from by rw [← hW1]; exact bkat_bl hk (bl_alloc (bl_refl w) _))
  have HC1 := hide (bk_write B b l p W1 HK1.out (by have := HL.out; have := HPQ.out; omega) (Nat.le_trans hBw HA.out.size))
  have HPS := hide psz
  have HQS := hide qsz
  clear hb0 hk hB hoB psz qsz hbw hBw
  go_enter Tryz.func26, Tryz.ntmps26
  go_wp2_with fail
  refine HC1.out.mono ?_
  rintro e w2 ⟨rfl, h2, k2⟩
  have hobj2 := k2.obj hobj HNB.out sub_rx
  have H2 := hide h2
  have K2 := hide (HA.out.trans k2)
  have c7 := cell_heap hobj2 7 _ rfl
  clear h2 k2 hobj hobj2 HC1 HK1
  go_wp2
  clear c7
  go_loopw [18] (fun i wr => ∃ k1 : Nat, i = .int .i64 k1 ∧ k1 ≤ kids.length ∧ Hid (BkAt B b (l ++ p.data.toList ++ joinS q.data.toList ((kids.map shX).take k1)) wr) ∧ Hid (Bk B b w wr)) (fun i _ => kids.length - (intOf i).toNat)
  case atStart => exact ⟨0, rfl, Nat.zero_le _, hide (by simpa [joinS] using H2.out), K2⟩
  case round =>
    obtain ⟨k1, rfl, hk1, HKB, HBK⟩ := hrel
    have hlen : (l ++ p.data.toList ++ joinS q.data.toList ((kids.map shX).take k1)).length ≤ l.length + 3 + 20 * sL (kids.take k1) := by
      have h1 := HJL.out k1
      have h2 := HPS.out
      have h3 := HPQ.out
      simp only [List.length_append]
      omega
    by_cases hlt : k1 < kids.length
    case neg =>
      obtain rfl : k1 = kids.length := by omega
      have gl : decide ((kids.length : Int) < (kids.length : Int)) = false := by simp
      have gl' : decide (kids.length < kids.length) = false := by simp
      have hkk := HKB.out
      rw [show (kids.map shX).take kids.length = kids.map shX by rw [List.take_of_length_le]; simp] at hkk hlen
      rw [List.take_length] at hlen
      have HW := hide (bk_write B b _ r wr hkk (by have := HL.out; have := HPQ.out; omega) (Nat.le_trans HBW.out HBK.out.size))
      clear hkk hlen hlt
      go_wp2_with fail
      refine HW.out.mono ?_
      rintro e w9 ⟨rfl, h9, k9⟩
      have H9 := hide h9
      have K9 := hide (HBK.out.trans k9)
      clear h9 k9
      go_wp2
      go_end0
      exact ⟨rfl, H9.out, K9.out⟩
    have hbx := bl_bk HB0.out HBB.out HBK.out
    obtain ⟨b1, o1, cc1, hv1, hc1, hm1, hlb1, hcell⟩ := ksat_8 (ksat_below HK.out hbx) (by omega)
    injection hv1 with hv1 _ hv1c
    subst hv1 hv1c
    unfold maxLen at hm1
    obtain ⟨x0, x1, x2, x3, x4, x5, x6, x7⟩ := hcell k1 hlt
    obtain ⟨h2, he⟩ := HIH2.out k1 hlt
    have HC := fun l2 W a1 a2 a3 a4 a5 => HFF.out k1 h2 l2 W a1 a2 a3 a4 a5
    have hrx := HRX.out.kid k1 h2
    rw [he] at HC hrx
    have hsu := sL_upto kids k1 hlt
    have hjt := joinS_take q.data.toList (kids.map shX) k1 (by simpa using hlt)
    rw [List.getElem_map] at hjt
    clear hcell he h2
    obtain ⟨d, hd⟩ : ∃ d, kids[k1]'hlt = d := ⟨_, rfl⟩
    rw [hd] at x0 x1 x2 x3 x4 x5 x6 x7 HC hrx hsu hjt
    obtain ⟨rA, rc2, hrv⟩ := rwat_len hrx.rows
    obtain ⟨kA, kc, hkv⟩ := ksat_len hrx.ks
    rw [hrv] at x3
    rw [hkv] at x7
    unfold Rt.v Rt.cs at HC
    rw [hrv, hkv] at HC
    have HC2 := hide HC
    have HJT := hide hjt
    have gl : decide ((k1 : Int) < (kids.length : Int)) = true := decide_eq_true (by omega)
    have gl' : decide (k1 < kids.length) = true := decide_eq_true hlt
    have e5 : IntKind.i64.wrap ((k1 : Int) + 1) = (k1 : Int) + 1 := by rw [IntKind.wrap_i64]; omega
    have i1 : (0 : Int) ≤ (k1 : Int) := by omega
    have i2 : (k1 : Int) < (kids.length : Int) := by omega
    have HKN := hide (show k1 + 1 ≤ kids.length by omega)
    have HLL := hide (show (l ++ p.data.toList ++ joinS q.data.toList ((kids.map shX).take k1)).length + 1 + 20 * sM d ≤ 80000000 by have := HL.out; omega)
    obtain ⟨W3, hW3⟩ : ∃ W3, wr.alloc (.cells #[.int .i64 d.k, .string d.ch, .bool d.nt, .slice rA d.rows.length rc2, .int .i64 d.mi, .int .i64 d.ma, .bool d.lz, .slice kA d.kids.length kc] 25) = W3 := ⟨_, rfl⟩
    have HA3 := hide (show Bk B b wr W3 from by rw [← hW3]; exact bk_bl (bl_alloc (bl_refl wr) _) (Nat.le_trans HBW.out HBK.out.size))
    have ho3 : W3.heap[wr.heap.size]? = some (.cells #[.int .i64 d.k, .string d.ch, .bool d.nt, .slice rA d.rows.length rc2, .int .i64 d.mi, .int .i64 d.ma, .bool d.lz, .slice kA d.kids.length kc] 25) := by rw [← hW3]; exact heap_alloc_new wr _
    have HNB3 := hide (show wr.heap.size ≠ b from fun e => by have := HBK.out.size; have := HBW2.out; omega)
    have HK3 := hide (show BkAt B b (l ++ p.data.toList ++ joinS q.data.toList ((kids.map shX).take k1)) W3 from by rw [← hW3]; exact bkat_bl HKB.out (bl_alloc (bl_refl wr) _))
    clear hd HC hrx hrv hkv hsu hjt hlen hbx hc1
    by_cases q0 : k1 = 0
    case pos =>
      have g0 : decide ((0 : Int) < (k1 : Int)) = false := decide_eq_false (by omega)
      have g0' : decide ((k1 : Int) > 0) = false := g0
      have g0n : decide (0 < k1) = false := decide_eq_false (by omega)
      have y0 := cell_heap ho3 0 _ rfl
      have y1 := cell_heap ho3 1 _ rfl
      have y2 := cell_heap ho3 2 _ rfl
      have y3 := cell_heap ho3 3 _ rfl
      have y4 := cell_heap ho3 4 _ rfl
      have y5 := cell_heap ho3 5 _ rfl
      have y6 := cell_heap ho3 6 _ rfl
      have y7 := cell_heap ho3 7 _ rfl
      have Q0 := hide q0
      clear ho3 q0
      have K3 := hide (HBK.out.trans HA3.out)
      go_wp2_with fail
      refine (HC2.out _ _ (by have := HLL.out; omega) (bl_bk HB0.out HBB.out K3.out) HK3.out (Nat.le_trans HBW.out (Bk.size K3.out)) (Nat.lt_of_lt_of_le HBW2.out (Bk.size K3.out))).mono ?_
      rintro e w5 ⟨rfl, h5, k5⟩
      have HN := hide (show BkAt B b (l ++ p.data.toList ++ joinS q.data.toList ((kids.map shX).take (k1 + 1))) w5 from by rw [HJT.out, if_pos Q0.out]; have := h5; simpa [List.append_assoc] using this)
      have K6 := hide (K3.out.trans k5)
      clear h5 k5 x0 x1 x2 x3 x4 x5 x6 x7 y0 y1 y2 y3 y4 y5 y6 y7
      go_wp2
      refine ⟨?_, by first | (simp [intOf]; done) | (simp [intOf]; omega)⟩
      first
        | exact ⟨k1 + 1, by go_num, HKN.out, HN, K6⟩
        | ((repeat apply Exists.intro); exact ⟨⟨k1 + 1, by go_num, HKN.out, HN, K6⟩, rfl⟩)
    have g0 : decide ((0 : Int) < (k1 : Int)) = true := decide_eq_true (by omega)
    have g0' : decide ((k1 : Int) > 0) = true := g0
    have g0n : decide (0 < k1) = true := decide_eq_true (by omega)
    have Q0 := hide q0
    have HO3 := hide ho3
    have y0 := cell_heap ho3 0 _ rfl
    have y1 := cell_heap ho3 1 _ rfl
    have y2 := cell_heap ho3 2 _ rfl
    have y3 := cell_heap ho3 3 _ rfl
    have y4 := cell_heap ho3 4 _ rfl
    have y5 := cell_heap ho3 5 _ rfl
    have y6 := cell_heap ho3 6 _ rfl
    have y7 := cell_heap ho3 7 _ rfl
    have HW3 := hide (bk_write B b _ q W3 HK3.out (by have := HLL.out; have := HPQ.out; omega) (Nat.le_trans HBW.out (Nat.le_trans HBK.out.size HA3.out.size)))
    clear ho3 q0
    go_wp2_with fail
    refine HW3.out.mono ?_
    rintro e w4 ⟨rfl, h4, k4⟩
    have ho4 := k4.obj HO3.out HNB3.out sub_rx
    clear y0 y1 y2 y3 y4 y5 y6 y7
    have y0 := cell_heap ho4 0 _ rfl
    have y1 := cell_heap ho4 1 _ rfl
    have y2 := cell_heap ho4 2 _ rfl
    have y3 := cell_heap ho4 3 _ rfl
    have y4 := cell_heap ho4 4 _ rfl
    have y5 := cell_heap ho4 5 _ rfl
    have y6 := cell_heap ho4 6 _ rfl
    have y7 := cell_heap ho4 7 _ rfl
    have H4 := hide h4
    have K4 := hide (HBK.out.trans (HA3.out.trans k4))
    clear h4 k4 ho4 HW3
    go_wp2_with fail
    refine (HC2.out _ _ (by have := HLL.out; have := HPQ.out; have := HQS.out; rw [List.length_append]; omega) (bl_bk HB0.out HBB.out K4.out) H4.out (Nat.le_trans HBW.out (Bk.size K4.out)) (Nat.lt_of_lt_of_le HBW2.out (Bk.size K4.out))).mono ?_
    rintro e w5 ⟨rfl, h5, k5⟩
    have HN := hide (show BkAt B b (l ++ p.data.toList ++ joinS q.data.toList ((kids.map shX).take (k1 + 1))) w5 from by rw [HJT.out, if_neg Q0.out]; have := h5; simpa [List.append_assoc] using this)
    have K6 := hide (K4.out.trans k5)
    clear h5 k5 x0 x1 x2 x3 x4 x5 x6 x7 y0 y1 y2 y3 y4 y5 y6 y7
    go_wp2
    refine ⟨?_, by first | (simp [intOf]; done) | (simp [intOf]; omega)⟩
    first
      | exact ⟨k1 + 1, by go_num, HKN.out, HN, K6⟩
      | ((repeat apply Exists.intro); exact ⟨⟨k1 + 1, by go_num, HKN.out, HN, K6⟩, rfl⟩)
theorem WrPost.eq {B b : Nat} {l l' : List UInt8} {w : World} {e : Ending} {w' : World} (h : WrPost B b l w e w') (hl : l = l') : WrPost B b l' w e w' := hl ▸ h
set_option maxHeartbeats 16000000 in
theorem show_any {wT w0 : World} (hT : Go.Lib.TabIs Tryz.prog wT "internal/strconv.uint64pow10" .u64 Go.Lib.pow10Tab) (hwT : Below wT.heap.size wT w0) {B b : Nat} (hB : w0.heap.size ≤ B) (hoB : B ≤ b) {t : Rt} (h : RxAt w0 t) : okM t = true → ∀ (l : List UInt8) w, l.length + 20 * sM t ≤ 80000000 → Below w0.heap.size w0 w → BkAt B b l w → B ≤ w.heap.size → b < w.heap.size →
    Calls Tryz.prog 17 #[.pointer (some ⟨b, 0, none⟩), t.v] w (WrPost B b (l ++ shX t) w) := by
  induction h with
  | mk t hr hk hs ih =>
    intro ho l w hl hb0 hkb hBw hbw
    have hrx := RxAt.mk t hr hk hs
    have hok := okM_eq t
    rw [ho] at hok
    have hok3 : mfB t.k t.ch t.nt t.rows t.mi t.ma t.lz = true ∧ mkB t.k t.kids = true ∧ okL t.kids = true := by
      have := hok.symm
      simp at this
      exact ⟨this.1.1, this.1.2, this.2⟩
    obtain ⟨hmf, hmk, hol⟩ := hok3
    have hsm := sM_eq t
    have hsh := shX_eq t
    have HKD := hide (fun p q r hp hq hr l2 W (hl2 : l2.length + 20 * sM t ≤ 80000000) hb hkb2 hBW hbW => showkids_any hrx hB hoB hol (fun i hi l3 W3 h1 h2 h3 h4 h5 => ih i hi (okL_kid t.kids i hi hol) l3 W3 h1 h2 h3 h4 h5) p q r hp hq hr l2 (by omega) W hb hkb2 hBW hbW)
    obtain ⟨A, c, hkv⟩ := ksat_len hk
    obtain ⟨RA, rc, hrv⟩ := rwat_len hr
    have hv : t.v = .agg #[.int .i64 t.k, .string t.ch, .bool t.nt, .slice RA t.rows.length rc, .int .i64 t.mi, .int .i64 t.ma, .bool t.lz, .slice A t.kids.length c] := by unfold Rt.v Rt.cs; rw [hkv, hrv]
    have HST := hide (fun (hm : mayF t.rows = true) l2 W (hl2 : l2.length + 20 * sM t ≤ 80000000) hb (hkb2 : BkAt B b l2 W) hBW hbW => showset_any hrx hB hm l2 (by omega) W hb hkb2 hBW hbW)
    have HBN := hide (fun h1 h2 h3 W hb => shbounds_any hT t.mi t.ma h1 h2 h3 W (bl_trans hwT hb))
    rw [hv] at HKD HST ⊢
    have hrl : t.rows.length = t.rows.length := rfl
    unfold WrPost at *
    have hxl : (l ++ shX t).length ≤ 80000000 := by have := sh_len t ho; rw [List.length_append]; omega
    obtain ⟨X, hX⟩ : ∃ X, l ++ shX t = X := ⟨_, rfl⟩
    rw [hX] at hxl ⊢
    have HXL := hide hxl
    rw [hsh] at hX
    clear hxl
    clear hr hk hs ih hkv hrv hv hrx hok hsh hol hT hwT hrl ho
    have hch : t.ch.size + 10 ≤ 10 + sM t := by omega
    generalize sM t = sm at *
    obtain ⟨J0, hJ0⟩ : ∃ x, joinS [] (t.kids.map shX) = x := ⟨_, rfl⟩
    obtain ⟨J1, hJ1⟩ : ∃ x, joinS [124] (t.kids.map shX) = x := ⟨_, rfl⟩
    have HJ0 := hide hJ0
    have HJ1 := hide hJ1
    rw [hJ0, hJ1] at hX
    clear hJ0 hJ1 hsm
    have hmk2 := hmk
    unfold mkB at hmk2
    generalize t.k = k at *
    generalize t.ch = ch at *
    generalize t.nt = nt at *
    generalize t.mi = mi at *
    generalize t.ma = ma at *
    generalize t.lz = lz at *
    have HB0 := hide hb0
    have HLB := hide hl
    have HBW := hide (show B ≤ w.heap.size from hBw)
    have HBW2 := hide (show b < w.heap.size from hbw)
    have HNB := hide (show w.heap.size ≠ b by omega)
    obtain ⟨W1, hW1⟩ : ∃ W1, w.alloc (.cells #[.int .i64 k, .string ch, .bool nt, .slice RA t.rows.length rc, .int .i64 mi, .int .i64 ma, .bool lz, .slice A t.kids.length c] 25) = W1 := ⟨_, rfl⟩
    have HA := hide (show Bk B b w W1 from by rw [← hW1]; exact bk_bl (bl_alloc (bl_refl w) _) hBw)
    have HB1 := hide (show Below w0.heap.size w0 W1 from by rw [← hW1]; exact bl_alloc hb0 _)
    have hobj : W1.heap[w.heap.size]? = some (.cells #[.int .i64 k, .string ch, .bool nt, .slice RA t.rows.length rc, .int .i64 mi, .int .i64 ma, .bool lz, .slice A t.kids.length c] 25) := by rw [← hW1]; exact heap_alloc_new w _
    have HK1 := hide (show BkAt B b l W1 from by rw [← hW1]; exact bkat_bl hkb (bl_alloc (bl_refl w) _))
    have HBW1 := hide (show B ≤ W1.heap.size from Nat.le_trans hBw HA.out.size)
    have HBV1 := hide (show b < W1.heap.size from Nat.lt_of_lt_of_le hbw HA.out.size)
    have HOBJ := hide hobj
    have c0 := cell_heap hobj 0 _ rfl
    have c1 := cell_heap hobj 1 _ rfl
    have c2 := cell_heap hobj 2 _ rfl
    have c3 := cell_heap hobj 3 _ rfl
    have c4 := cell_heap hobj 4 _ rfl
    have c5 := cell_heap hobj 5 _ rfl
    have c6 := cell_heap hobj 6 _ rfl
    have c7 := cell_heap hobj 7 _ rfl
    clear hb0 hkb hBw hbw hobj hB hoB hl
    by_cases q0 : k = 0
    case pos =>
      subst q0
      rw [if_pos rfl] at hX
      have HX := hide hX
      clear hX hmf hmk hmk2
      go_enter Tryz.func17, Tryz.ntmps17
      go_wp2_with fail
      refine (HKD.out ⟨#[]⟩ ⟨#[]⟩ ⟨#[]⟩ (by decide) (by decide) (by decide) l _ HLB.out HB1.out HK1.out HBW1.out HBV1.out).mono ?_
      rintro e w2 ⟨rfl, h2, k2⟩
      have H2 := hide (show BkAt B b X w2 from by rw [← HX.out, ← HJ0.out]; simpa using h2)
      have K2 := hide (HA.out.trans k2)
      clear h2 k2 c0 c1 c2 c3 c4 c5 c6 c7
      go_wp2
      go_end0
      exact ⟨rfl, H2.out, K2.out⟩
    have z0 : (k == 0) = false := beq_eq_false_iff_ne.2 q0
    by_cases q1 : k = 1
    case pos =>
      subst q1
      rw [if_neg q0] at hX
      rw [if_pos rfl] at hX
      clear q0 z0
      have HX := hide hX
      clear hX hmf hmk hmk2
      go_enter Tryz.func17, Tryz.ntmps17
      go_wp2_with fail
      refine (HKD.out ⟨#[]⟩ ⟨#[124]⟩ ⟨#[]⟩ (by decide) (by decide) (by decide) l _ HLB.out HB1.out HK1.out HBW1.out HBV1.out).mono ?_
      rintro e w2 ⟨rfl, h2, k2⟩
      have H2 := hide (show BkAt B b X w2 from by rw [← HX.out, ← HJ1.out]; simpa using h2)
      have K2 := hide (HA.out.trans k2)
      clear h2 k2 c0 c1 c2 c3 c4 c5 c6 c7
      go_wp2
      go_end0
      exact ⟨rfl, H2.out, K2.out⟩
    have z1 : (k == 1) = false := beq_eq_false_iff_ne.2 q1
    by_cases q2 : k = 2
    case pos =>
      subst q2
      rw [if_neg q0] at hX
      rw [if_neg q1] at hX
      rw [if_pos rfl] at hX
      clear q0 q1 z0 z1
      have HCH := hide (show 0 < ch.size from by
        unfold mfB at hmf
        rw [if_pos rfl] at hmf
        simp at hmf
        have h1 := hmf.1
        unfold properB at h1
        obtain ⟨g1, _⟩ := of_decide_eq_true h1
        have e1 : ch.data.toList.length = ch.size := by simp
        omega)
      have HSM := hide hch
      have HX := hide hX
      clear hX hmf hmk hmk2
      go_enter Tryz.func17, Tryz.ntmps17
      go_wp2_with fail
      refine (showchar_any B b l ch ⟨#[94, 36, 92, 46, 42, 43, 63, 40, 41, 91, 93, 123, 125, 124, 47]⟩ mkA rfl _ rfl W1 HK1.out HCH.out (by have := HLB.out; have := HSM.out; omega) HBW1.out).mono ?_
      rintro e w2 ⟨rfl, h2, k2⟩
      have H2 := hide (show BkAt B b X w2 from by rw [← HX.out]; exact h2)
      have K2 := hide (HA.out.trans k2)
      clear h2 k2 c0 c1 c2 c3 c4 c5 c6 c7
      go_wp2
      go_end0
      exact ⟨rfl, H2.out, K2.out⟩
    have z2 : (k == 2) = false := beq_eq_false_iff_ne.2 q2
    by_cases q3 : k = 3
    case pos =>
      subst q3
      rw [if_neg q0] at hX
      rw [if_neg q1] at hX
      rw [if_neg q2] at hX
      rw [if_pos rfl] at hX
      clear q0 q1 q2 z0 z1 z2
      have HX := hide hX
      clear hX hmf hmk hmk2
      go_enter Tryz.func17, Tryz.ntmps17
      go_wp2_with fail
      refine (bk_write B b l ⟨#[46]⟩ W1 HK1.out (by show l.length + 1 ≤ _; have := HLB.out; omega) HBW1.out).mono ?_
      rintro e w2 ⟨rfl, h2, k2⟩
      have H2 := hide (show BkAt B b X w2 from by rw [← HX.out]; exact h2)
      have K2 := hide (HA.out.trans k2)
      clear h2 k2 c0 c1 c2 c3 c4 c5 c6 c7
      go_wp2
      go_end0
      exact ⟨rfl, H2.out, K2.out⟩
    have z3 : (k == 3) = false := beq_eq_false_iff_ne.2 q3
    by_cases q8 : k = 8
    case pos =>
      subst q8
      rw [if_neg q0] at hX
      rw [if_neg q1] at hX
      rw [if_neg q2] at hX
      rw [if_neg q3] at hX
      rw [if_pos rfl] at hX
      clear q0 q1 q2 q3 z0 z1 z2 z3
      have HX := hide hX
      clear hX hmf hmk hmk2
      go_enter Tryz.func17, Tryz.ntmps17
      go_wp2_with fail
      refine (bk_write B b l ⟨#[94]⟩ W1 HK1.out (by show l.length + 1 ≤ _; have := HLB.out; omega) HBW1.out).mono ?_
      rintro e w2 ⟨rfl, h2, k2⟩
      have H2 := hide (show BkAt B b X w2 from by rw [← HX.out]; exact h2)
      have K2 := hide (HA.out.trans k2)
      clear h2 k2 c0 c1 c2 c3 c4 c5 c6 c7
      go_wp2
      go_end0
      exact ⟨rfl, H2.out, K2.out⟩
    have z8 : (k == 8) = false := beq_eq_false_iff_ne.2 q8
    by_cases q9 : k = 9
    case pos =>
      subst q9
      rw [if_neg q0] at hX
      rw [if_neg q1] at hX
      rw [if_neg q2] at hX
      rw [if_neg q3] at hX
      rw [if_neg q8] at hX
      rw [if_pos rfl] at hX
      clear q0 q1 q2 q3 q8 z0 z1 z2 z3 z8
      have HX := hide hX
      clear hX hmf hmk hmk2
      go_enter Tryz.func17, Tryz.ntmps17
      go_wp2_with fail
      refine (bk_write B b l ⟨#[36]⟩ W1 HK1.out (by show l.length + 1 ≤ _; have := HLB.out; omega) HBW1.out).mono ?_
      rintro e w2 ⟨rfl, h2, k2⟩
      have H2 := hide (show BkAt B b X w2 from by rw [← HX.out]; exact h2)
      have K2 := hide (HA.out.trans k2)
      clear h2 k2 c0 c1 c2 c3 c4 c5 c6 c7
      go_wp2
      go_end0
      exact ⟨rfl, H2.out, K2.out⟩
    have z9 : (k == 9) = false := beq_eq_false_iff_ne.2 q9
    by_cases q10 : k = 10
    case pos =>
      subst q10
      rw [if_neg q0] at hX
      rw [if_neg q1] at hX
      rw [if_neg q2] at hX
      rw [if_neg q3] at hX
      rw [if_neg q8] at hX
      rw [if_neg q9] at hX
      rw [if_pos rfl] at hX
      clear q0 q1 q2 q3 q8 q9 z0 z1 z2 z3 z8 z9
      have HX := hide hX
      clear hX hmf hmk hmk2
      go_enter Tryz.func17, Tryz.ntmps17
      go_wp2_with fail
      refine (bk_write B b l ⟨#[92, 98]⟩ W1 HK1.out (by show l.length + 2 ≤ _; have := HLB.out; omega) HBW1.out).mono ?_
      rintro e w2 ⟨rfl, h2, k2⟩
      have H2 := hide (show BkAt B b X w2 from by rw [← HX.out]; exact h2)
      have K2 := hide (HA.out.trans k2)
      clear h2 k2 c0 c1 c2 c3 c4 c5 c6 c7
      go_wp2
      go_end0
      exact ⟨rfl, H2.out, K2.out⟩
    have z10 : (k == 10) = false := beq_eq_false_iff_ne.2 q10
    by_cases q11 : k = 11
    case pos =>
      subst q11
      rw [if_neg q0] at hX
      rw [if_neg q1] at hX
      rw [if_neg q2] at hX
      rw [if_neg q3] at hX
      rw [if_neg q8] at hX
      rw [if_neg q9] at hX
      rw [if_neg q10] at hX
      rw [if_pos rfl] at hX
      clear q0 q1 q2 q3 q8 q9 q10 z0 z1 z2 z3 z8 z9 z10
      have HX := hide hX
      clear hX hmf hmk hmk2
      go_enter Tryz.func17, Tryz.ntmps17
      go_wp2_with fail
      refine (bk_write B b l ⟨#[92, 66]⟩ W1 HK1.out (by show l.length + 2 ≤ _; have := HLB.out; omega) HBW1.out).mono ?_
      rintro e w2 ⟨rfl, h2, k2⟩
      have H2 := hide (show BkAt B b X w2 from by rw [← HX.out]; exact h2)
      have K2 := hide (HA.out.trans k2)
      clear h2 k2 c0 c1 c2 c3 c4 c5 c6 c7
      go_wp2
      go_end0
      exact ⟨rfl, H2.out, K2.out⟩
    have z11 : (k == 11) = false := beq_eq_false_iff_ne.2 q11
    by_cases q5 : k = 5
    case pos =>
      subst q5
      rw [if_neg q0] at hX
      rw [if_neg q1] at hX
      rw [if_neg q2] at hX
      rw [if_neg q3] at hX
      rw [if_neg q8] at hX
      rw [if_neg q9] at hX
      rw [if_neg q10] at hX
      rw [if_neg q11] at hX
      rw [if_pos rfl] at hX
      clear q0 q1 q2 q3 q8 q9 q10 q11 z0 z1 z2 z3 z8 z9 z10 z11
      have HX := hide hX
      clear hX hmf hmk hmk2
      go_enter Tryz.func17, Tryz.ntmps17
      go_wp2_with fail
      refine (HKD.out ⟨#[40]⟩ ⟨#[]⟩ ⟨#[41]⟩ (by decide) (by decide) (by decide) l _ HLB.out HB1.out HK1.out HBW1.out HBV1.out).mono ?_
      rintro e w2 ⟨rfl, h2, k2⟩
      have H2 := hide (show BkAt B b X w2 from by rw [← HX.out, ← HJ0.out]; simpa [List.append_assoc] using h2)
      have K2 := hide (HA.out.trans k2)
      clear h2 k2 c0 c1 c2 c3 c4 c5 c6 c7
      go_wp2
      go_end0
      exact ⟨rfl, H2.out, K2.out⟩
    have z5 : (k == 5) = false := beq_eq_false_iff_ne.2 q5
    by_cases q6 : k = 6
    case pos =>
      subst q6
      rw [if_neg q0] at hX
      rw [if_neg q1] at hX
      rw [if_neg q2] at hX
      rw [if_neg q3] at hX
      rw [if_neg q8] at hX
      rw [if_neg q9] at hX
      rw [if_neg q10] at hX
      rw [if_neg q11] at hX
      rw [if_neg q5] at hX
      rw [if_pos rfl] at hX
      clear q0 q1 q2 q3 q8 q9 q10 q11 q5 z0 z1 z2 z3 z8 z9 z10 z11 z5
      have HX := hide hX
      clear hX hmf hmk hmk2
      go_enter Tryz.func17, Tryz.ntmps17
      go_wp2_with fail
      refine (HKD.out ⟨#[40, 63, 58]⟩ ⟨#[]⟩ ⟨#[41]⟩ (by decide) (by decide) (by decide) l _ HLB.out HB1.out HK1.out HBW1.out HBV1.out).mono ?_
      rintro e w2 ⟨rfl, h2, k2⟩
      have H2 := hide (show BkAt B b X w2 from by rw [← HX.out, ← HJ0.out]; simpa [List.append_assoc] using h2)
      have K2 := hide (HA.out.trans k2)
      clear h2 k2 c0 c1 c2 c3 c4 c5 c6 c7
      go_wp2
      go_end0
      exact ⟨rfl, H2.out, K2.out⟩
    have z6 : (k == 6) = false := beq_eq_false_iff_ne.2 q6
    by_cases q4 : k = 4
    case pos =>
      subst q4
      rw [if_neg q0] at hX
      rw [if_neg q1] at hX
      rw [if_neg q2] at hX
      rw [if_neg q3] at hX
      rw [if_neg q8] at hX
      rw [if_neg q9] at hX
      rw [if_neg q10] at hX
      rw [if_neg q11] at hX
      rw [if_neg q5] at hX
      rw [if_neg q6] at hX
      rw [if_pos rfl] at hX
      clear q0 q1 q2 q3 q8 q9 q10 q11 q5 q6 z0 z1 z2 z3 z8 z9 z10 z11 z5 z6
      have HMR := hide (show mayF t.rows = true from by
        unfold mfB at hmf
        simp at hmf
        exact hmf.1)
      have HX := hide hX
      clear hX hmf hmk hmk2
      go_enter Tryz.func17, Tryz.ntmps17
      go_wp2_with fail
      refine (HST.out HMR.out l _ HLB.out HB1.out HK1.out HBW1.out HBV1.out).mono ?_
      rintro e w2 ⟨rfl, h2, k2⟩
      have H2 := hide (show BkAt B b X w2 from by rw [← HX.out]; exact h2)
      have K2 := hide (HA.out.trans k2)
      clear h2 k2 c0 c1 c2 c3 c4 c5 c6 c7
      go_wp2
      go_end0
      exact ⟨rfl, H2.out, K2.out⟩
    have z4 : (k == 4) = false := beq_eq_false_iff_ne.2 q4
    by_cases q7 : k = 7
    case pos =>
      subst q7
      rw [if_neg q0] at hX
      rw [if_neg q1] at hX
      rw [if_neg q2] at hX
      rw [if_neg q3] at hX
      rw [if_neg q8] at hX
      rw [if_neg q9] at hX
      rw [if_neg q10] at hX
      rw [if_neg q11] at hX
      rw [if_neg q5] at hX
      rw [if_neg q6] at hX
      rw [if_neg q4] at hX
      rw [if_pos rfl] at hX
      clear q0 q1 q2 q3 q8 q9 q10 q11 q5 q6 q4 z0 z1 z2 z3 z8 z9 z10 z11 z5 z6 z4
      have hrg : 0 ≤ mi ∧ mi ≤ 255 ∧ (ma = -1 ∨ (mi ≤ ma ∧ ma ≤ 255)) := by
        unfold mfB at hmf
        simp [rngB] at hmf
        omega
      obtain ⟨S, hS⟩ : ∃ S, mkS (bndS mi ma) = S := ⟨_, rfl⟩
      have hSd : S.data.toList = bndS mi ma := by rw [← hS]; rfl
      have hSz : S.size ≤ 20 := by
        have h1 := bnd_len mi ma (by omega) (by omega)
        have h2 : S.data.toList.length = S.size := by simp
        rw [← h2, hSd]; omega
      have HBN2 := hide (fun W hb => HBN.out hrg.1 hrg.2.1 hrg.2.2 W hb)
      rw [hS] at HBN2
      have HKD2 := hide (fun W hb hkb hBW hbW => HKD.out ⟨#[]⟩ ⟨#[]⟩ S (by decide) (by decide) hSz l W HLB.out hb hkb hBW hbW)
      rw [← hSd] at hX
      have HX := hide hX
      have HSD := hide hSz
      have hn1 : w.heap.size < W1.heap.size := (Array.getElem?_eq_some_iff.1 HOBJ.out).1
      clear hX hmf hmk hmk2 hrg hS hSd hSz HKD HST HBN
      have HKO := hide (show ∀ W : World, W.heap[w.heap.size]? = some (.cells #[.int .i64 7, .string ch, .bool nt, .slice RA t.rows.length rc, .int .i64 mi, .int .i64 ma, .bool lz, .slice A t.kids.length c] 25) → (W.cell? ⟨w.heap.size, 0, none⟩ = some (.int .i64 7) ∧ W.cell? ⟨w.heap.size, 1, none⟩ = some (.string ch) ∧ W.cell? ⟨w.heap.size, 2, none⟩ = some (.bool nt) ∧ W.cell? ⟨w.heap.size, 3, none⟩ = some (.slice RA t.rows.length rc) ∧ W.cell? ⟨w.heap.size, 4, none⟩ = some (.int .i64 mi) ∧ W.cell? ⟨w.heap.size, 5, none⟩ = some (.int .i64 ma) ∧ W.cell? ⟨w.heap.size, 6, none⟩ = some (.bool lz) ∧ W.cell? ⟨w.heap.size, 7, none⟩ = some (.slice A t.kids.length c)) from fun W ho => ⟨cell_heap ho 0 _ rfl, cell_heap ho 1 _ rfl, cell_heap ho 2 _ rfl, cell_heap ho 3 _ rfl, cell_heap ho 4 _ rfl, cell_heap ho 5 _ rfl, cell_heap ho 6 _ rfl, cell_heap ho 7 _ rfl⟩)
      go_enter Tryz.func17, Tryz.ntmps17
      go_wp2
      go_region_held3 (fun w' => w'.cell? ⟨w.heap.size, 0, none⟩ = some (.int .i64 7) ∧ w'.cell? ⟨w.heap.size, 1, none⟩ = some (.string ch) ∧ w'.cell? ⟨w.heap.size, 2, none⟩ = some (.bool nt) ∧ w'.cell? ⟨w.heap.size, 3, none⟩ = some (.slice RA t.rows.length rc) ∧ w'.cell? ⟨w.heap.size, 4, none⟩ = some (.int .i64 mi) ∧ w'.cell? ⟨w.heap.size, 5, none⟩ = some (.int .i64 ma) ∧ w'.cell? ⟨w.heap.size, 6, none⟩ = some (.bool lz) ∧ w'.cell? ⟨w.heap.size, 7, none⟩ = some (.slice A t.kids.length c)) (first | (refine HKO.out _ ?_; first | exact HOBJ.out | assumption))
        (first
          | (go_at_call 26; go_split_ands; refine (HKD2.out _ (bl_trans HB1.out hbw2) (bkat_bl HK1.out hbw2) (Nat.le_trans HBW1.out hbw2.size) (Nat.lt_of_lt_of_le HBV1.out hbw2.size)).mono ?_; rintro e w3 ⟨rfl, h3, k3⟩; have ho3 := k3.obj ho2 HNB.out sub_rx; have hk3 : Bk B b w w3 := HA.out.trans ((bk_bl hbw2 HBW1.out).trans k3))
          | (go_at_call 30; go_split_ands; refine (HBN2.out _ (bl_trans HB1.out (bl_drew (bl_refl _)))).mono ?_; rintro e w2 ⟨rfl, hb2⟩; have hbw2 : Below W1.heap.size W1 w2 := bl_trans (bl_drew (bl_refl _)) hb2; have ho2 := (hbw2.block _ hn1).trans HOBJ.out))
      all_goals
        have H3 := hide h3
        have K3 := hide hk3
        have c6 := cell_heap ho3 6 _ rfl
        clear h3 hk3 k3 hb2 hbw2 ho2
        cases lz with
        | false =>
          have HX2 := hide (show BkAt B b X w3 from by rw [← HX.out, ← HJ0.out]; simpa [List.append_assoc] using H3.out)
          clear ho3
          go_wp2
          go_end0
          exact ⟨rfl, HX2.out, K3.out⟩
        | true =>
          have hln : (l ++ ([] : List UInt8) ++ joinS [] (t.kids.map shX) ++ S.data.toList).length ≤ 80000000 := by
            have h1 := HXL.out
            rw [← HX.out, ← HJ0.out] at h1
            simp only [List.length_append, if_true, List.length_cons, List.length_nil] at h1 ⊢
            omega
          have HW := hide (bk_write B b _ ⟨#[63]⟩ w3 H3.out (by show (l ++ ([] : List UInt8) ++ joinS [] (t.kids.map shX) ++ S.data.toList).length + 1 ≤ _; omega) (Nat.le_trans HBW.out K3.out.size))
          clear ho3 hln
          go_wp2_with fail
          refine HW.out.mono ?_
          rintro e w4 ⟨rfl, h4, k4⟩
          have HX2 := hide (show BkAt B b X w4 from by rw [← HX.out, ← HJ0.out]; simpa [List.append_assoc] using h4)
          have K4 := hide (K3.out.trans k4)
          clear h4 k4
          go_wp2
          go_end0
          exact ⟨rfl, HX2.out, K4.out⟩
    have z7 : (k == 7) = false := beq_eq_false_iff_ne.2 q7
    exfalso
    unfold mkB at hmk
    simp [q0, q1, q2, q3, q8, q9, q10, q11, q5, q6, q4, q7] at hmk
end
section
open Go.ChangeShapes Go.WideShapes Go.ChangeAt Go.RowKit
open SetM
attribute [local go_sem ↓] Go.wp_at_zero Go.wp_at_succ
set_option maxRecDepth 100000
set_option linter.unusedVariables false
def shwS (t : Rt) : ByteArray := if cnB t 16 512 = true then mkS (shX t) else ⟨#[]⟩
def shwE (t : Rt) : Int := if cnB t 16 512 = true then 0 else 10
def ShowPost (t : Rt) (w : World) (e : Ending) (w' : World) : Prop := e = .returned (.tuple #[.string (shwS t), .int .i64 (shwE t)]) ∧ Below w.heap.size w w'
theorem fresh_bk (w : World) : BkAt w.heap.size w.heap.size [] (w.alloc (.cells #[.pointer none, .slice none 0 0] 46)) := Lib.IsBuilderF.of (Lib.fresh_isBuilder 46 5 w)
set_option maxHeartbeats 8000000 in
theorem rxshow_any {wT w0 : World} (hT : Go.Lib.TabIs Tryz.prog wT "internal/strconv.uint64pow10" .u64 Go.Lib.pow10Tab) (hwT : Below wT.heap.size wT w0) {t : Rt} (h : RxAt w0 t) (hz : sM t ≤ 100000) (w : World) (hb0 : Below w0.heap.size w0 w) :
    Calls Tryz.prog 9 #[t.v] w (ShowPost t w) := by
  obtain ⟨A, c, hkv⟩ := ksat_len h.ks
  obtain ⟨RA, rc, hrv⟩ := rwat_len h.rows
  have hv : t.v = .agg #[.int .i64 t.k, .string t.ch, .bool t.nt, .slice RA t.rows.length rc, .int .i64 t.mi, .int .i64 t.ma, .bool t.lz, .slice A t.kids.length c] := by unfold Rt.v Rt.cs; rw [hkv, hrv]
  obtain ⟨r, hr⟩ : ∃ r, cnB t 16 512 = r := ⟨_, rfl⟩
  have HM := hide (fun W (hb : Below w0.heap.size w0 W) => rxmay_any h hz W hb)
  have HS := hide (fun (ho : okM t = true) B b (hB : w0.heap.size ≤ B) (hoB : B ≤ b) W hb hk h1 h2 => show_any hT hwT hB hoB h ho [] W (by simp; omega) hb hk h1 h2)
  have hok : r = true → okM t = true := fun e => (cnB_to (hr.trans e)).2.2
  unfold ShowPost shwS shwE
  unfold SmPost at HM
  unfold WrPost at HS
  rw [hr] at HM ⊢
  rw [hv] at HM HS ⊢
  have HOK := hide hok
  have HB0 := hide hb0
  have HS0 := hide hb0.size
  generalize shX t = X at *
  clear h hkv hrv hv hb0 hr hz hT hwT hok
  generalize okM t = ok at *
  generalize t.kids.length = kl at *
  generalize t.rows.length = rl at *
  generalize t.k = k at *
  generalize t.ch = ch at *
  generalize t.nt = nt at *
  generalize t.mi = mi at *
  generalize t.ma = ma at *
  generalize t.lz = lz at *
  obtain ⟨W1, hW1⟩ : ∃ W1, w.alloc (.cells #[.int .i64 k, .string ch, .bool nt, .slice RA rl rc, .int .i64 mi, .int .i64 ma, .bool lz, .slice A kl c] 25) = W1 := ⟨_, rfl⟩
  have HBA := hide (show Below w.heap.size w W1 from by rw [← hW1]; exact bl_alloc (bl_refl w) _)
  have FJ := hide (fun W (hb : Below W1.heap.size W1 W) j u (hu : (#[Value.int .i64 k, .string ch, .bool nt, .slice RA rl rc, .int .i64 mi, .int .i64 ma, .bool lz, .slice A kl c] : Array Value).toList[j]? = some u) => (show W.cell? ⟨w.heap.size, j, none⟩ = some u by
    refine cell_later hb ?_
    rw [← hW1]
    have := cells_lit w _ 25 j u hu
    rw [addr_add, Nat.zero_add] at this
    exact this))
  have c0 := FJ.out _ (bl_refl _) 0 _ rfl
  have c1 := FJ.out _ (bl_refl _) 1 _ rfl
  have c2 := FJ.out _ (bl_refl _) 2 _ rfl
  have c3 := FJ.out _ (bl_refl _) 3 _ rfl
  have c4 := FJ.out _ (bl_refl _) 4 _ rfl
  have c5 := FJ.out _ (bl_refl _) 5 _ rfl
  have c6 := FJ.out _ (bl_refl _) 6 _ rfl
  have c7 := FJ.out _ (bl_refl _) 7 _ rfl
  go_enter Tryz.func9, Tryz.ntmps9
  go_wp2_with fail
  refine (HM.out _ (bl_trans HB0.out HBA.out)).mono ?_
  rintro e w2 ⟨rfl, hb2⟩
  have HB2 := hide hb2
  clear hb2 c0 c1 c2 c3 c4 c5 c6 c7
  cases r with
  | false =>
    go_wp2
    go_ret2
    exact ⟨rfl, bl_trans HBA.out HB2.out⟩
  | true =>
    have hfb := fresh_bk w2
    have hbb := bl_alloc (bl_refl w2) (.cells #[.pointer none, .slice none 0 0] 46)
    obtain ⟨W3, hW3⟩ : ∃ W3, w2.alloc (.cells #[.pointer none, .slice none 0 0] 46) = W3 := ⟨_, rfl⟩
    have hsz : W3.heap.size = w2.heap.size + 1 := by rw [← hW3]; simp
    rw [hW3] at hfb hbb
    have HB3 := hide (bl_trans HB2.out hbb)
    have d0 := FJ.out _ HB3.out 0 _ rfl
    have d1 := FJ.out _ HB3.out 1 _ rfl
    have d2 := FJ.out _ HB3.out 2 _ rfl
    have d3 := FJ.out _ HB3.out 3 _ rfl
    have d4 := FJ.out _ HB3.out 4 _ rfl
    have d5 := FJ.out _ HB3.out 5 _ rfl
    have d6 := FJ.out _ HB3.out 6 _ rfl
    have d7 := FJ.out _ HB3.out 7 _ rfl
    have HSZ := hide (show w0.heap.size ≤ w2.heap.size from by have := HBA.out.size; have := HB2.out.size; have := HS0.out; omega)
    have HC := hide (HS.out (HOK.out rfl) w2.heap.size w2.heap.size HSZ.out (Nat.le_refl _) W3 (bl_trans HB0.out (bl_trans HBA.out HB3.out)) hfb (by omega) (by omega))
    have HZ := hide hsz
    clear hfb hbb hsz HS HOK
    go_wp2_with fail
    refine HC.out.mono ?_
    rintro e w4 ⟨rfl, h4, k4⟩
    have HW := hide (bk_string _ _ _ w4 h4 (by have := k4.size; have := HZ.out; omega))
    have HB4 := hide (show Below w.heap.size w w4 from (bl_trans HBA.out (bl_trans HB2.out (show Below w2.heap.size w2 W3 from by rw [← hW3]; exact bl_alloc (bl_refl _) _))).trans (k4.below.mono (by have := (bl_trans HBA.out HB2.out).size; omega)))
    have HS4 := hide (show w.heap.size ≤ w2.heap.size from (bl_trans HBA.out HB2.out).size)
    clear h4 k4 d0 d1 d2 d3 d4 d5 d6 d7
    go_wp2_with fail
    refine HW.out.mono ?_
    rintro e w5 ⟨rfl, k5⟩
    have HB5 := hide (HB4.out.trans (k5.below.mono HS4.out))
    clear k5
    go_wp2
    go_ret2
    exact ⟨rfl, HB5.out⟩
end
section
open Go.ChangeShapes Go.WideShapes Go.ChangeAt Go.RowKit
open SetM
attribute [local go_sem ↓] Go.wp_at_zero Go.wp_at_succ
set_option maxRecDepth 100000
set_option linter.unusedVariables false
end
section
open Go.ChangeShapes Go.WideShapes Go.ChangeAt Go.RowKit
open Go.Lib (decDigits)
open SetM
attribute [local go_sem ↓] Go.wp_at_zero Go.wp_at_succ
set_option maxRecDepth 100000
set_option linter.unusedVariables false
end
section
open Go.ChangeShapes Go.WideShapes Go.ChangeAt Go.RowKit
open SetM
attribute [local go_sem ↓] Go.wp_at_zero Go.wp_at_succ
set_option maxRecDepth 100000
set_option linter.unusedVariables false
theorem size_dat (s : ByteArray) : s.size = s.data.toList.length := by simp
end
section
open Go.ChangeShapes Go.WideShapes Go.ChangeAt Go.RowKit
open SetM
attribute [local go_sem ↓] Go.wp_at_zero Go.wp_at_succ
attribute [local go_sem] later_cell later_frozen
set_option maxRecDepth 100000
set_option linter.unusedVariables false
theorem joins_take_len (sep : List UInt8) (l : List (List UInt8)) (k : Nat) : (joinS sep (l.take k)).length ≤ (joinS sep l).length := by
  cases l with
  | nil => simp
  | cons a r =>
    cases k with
    | zero => simp [joinS]
    | succ k =>
      rw [List.take_succ_cons, joinS, joinS, List.length_append, List.length_append]
      have : r.flatMap (fun x => sep ++ x) = (r.take k).flatMap (fun x => sep ++ x) ++ (r.drop k).flatMap (fun x => sep ++ x) := by rw [← List.flatMap_append, List.take_append_drop]
      rw [this, List.length_append]
      omega
end
section
open Go.ChangeShapes Go.WideShapes Go.ChangeAt Go.RowKit
open SetM
attribute [local go_sem ↓] Go.wp_at_zero Go.wp_at_succ
set_option maxRecDepth 100000
set_option linter.unusedVariables false
theorem prop_one (n : UInt8) (h : contB n = false) : properB [n] = true := by simp [properB, h, firstN]
theorem ok_lf (n : UInt8) (h : contB n = false) : okM (lfR ⟨#[n]⟩) = true := by
  rw [okM_eq]
  have h1 : properB [n] = true := prop_one n h
  simp [lfR, Rt.k, Rt.ch, Rt.nt, Rt.rows, Rt.mi, Rt.ma, Rt.lz, Rt.kids, mfB, mkB, okL, bareB, h1]
def rpR (v : Value) : Rt := .mk 7 ⟨#[]⟩ false (.slice none 0 0) [] 0 (-1) false v [lfR ⟨#[47]⟩]
def awR (v u : Value) : Rt := .mk 1 ⟨#[]⟩ false (.slice none 0 0) [] 0 0 false v [lfR ⟨#[97]⟩, rpR u]
theorem ok_rp (u : Value) : okM (rpR u) = true := by
  rw [okM_eq]
  simp only [rpR, Rt.k, Rt.ch, Rt.nt, Rt.rows, Rt.mi, Rt.ma, Rt.lz, Rt.kids, okL, ok_lf 47 (by decide)]
  simp [mfB, mkB, rngB, bareB, atomB, lfR, Rt.k]
theorem ok_aw (v u : Value) : cnB (awR v u) 16 512 = true := by
  refine cnB_of (show (4 : Int) ≤ 512 by decide) (show (0 : Int) ≤ 16 by decide) ?_
  rw [okM_eq]
  simp only [awR, Rt.k, Rt.ch, Rt.nt, Rt.rows, Rt.mi, Rt.ma, Rt.lz, Rt.kids, okL, ok_lf 97 (by decide), ok_rp]
  simp [mfB, mkB, bareB, altkB, lfR, rpR, Rt.k]
theorem sh_lf (n : UInt8) : shX (lfR ⟨#[n]⟩) = chSh mkA [n] := by rw [shX_eq]; rfl
theorem sh_aw (v u : Value) : shX (awR v u) = [97, 124, 92, 47, 42] := by
  rw [shX_eq]
  simp only [awR, rpR, Rt.k, Rt.kids, List.map_cons, List.map_nil, sh_lf]
  rw [shX_eq]
  simp only [Rt.k, Rt.kids, Rt.mi, Rt.ma, Rt.lz, List.map_cons, List.map_nil, sh_lf]
  rfl
set_option maxHeartbeats 4000000 in
theorem awake15_any {wT : World} (hT : Go.Lib.TabIs Tryz.prog wT "internal/strconv.uint64pow10" .u64 Go.Lib.pow10Tab) (w : World) (hwT : Below wT.heap.size wT w) : Calls Tryz.prog 8 #[] w fun e w' => e = .returned (.bool true) ∧ Below w.heap.size w w' := by
  have HC := hide (show Calls Tryz.prog 9 #[.agg #[.int .i64 1, .string ⟨#[]⟩, .bool false, .slice none 0 0, .int .i64 0, .int .i64 0, .bool false, .slice (some ⟨w.heap.size + 1, 0, none⟩) 2 2]] ((w.alloc (.cells #[.int .i64 2, .string ⟨#[47]⟩, .bool false, .slice none 0 0, .int .i64 0, .int .i64 0, .bool false, .slice none 0 0] 25)).alloc (.cells #[.int .i64 2, .string ⟨#[97]⟩, .bool false, .slice none 0 0, .int .i64 0, .int .i64 0, .bool false, .slice none 0 0, .int .i64 7, .string ⟨#[]⟩, .bool false, .slice none 0 0, .int .i64 0, .int .i64 (-1), .bool false, .slice (some ⟨w.heap.size, 0, none⟩) 1 1] 25)) (fun e w' => e = .returned (.tuple #[.string ⟨#[97, 124, 92, 47, 42]⟩, .int .i64 0]) ∧ Below w.heap.size w w') from by
    have h1 : KsAt (w.alloc (.cells #[.int .i64 2, .string ⟨#[47]⟩, .bool false, .slice none 0 0, .int .i64 0, .int .i64 0, .bool false, .slice none 0 0] 25)) (.slice (some ⟨w.heap.size, 0, none⟩) 1 1) [lfR ⟨#[47]⟩] := ks_lit (l := [lfR ⟨#[47]⟩]) (n := 1) rfl (by decide) _ rfl
    have h2 : KsAt ((w.alloc (.cells #[.int .i64 2, .string ⟨#[47]⟩, .bool false, .slice none 0 0, .int .i64 0, .int .i64 0, .bool false, .slice none 0 0] 25)).alloc (.cells #[.int .i64 2, .string ⟨#[97]⟩, .bool false, .slice none 0 0, .int .i64 0, .int .i64 0, .bool false, .slice none 0 0, .int .i64 7, .string ⟨#[]⟩, .bool false, .slice none 0 0, .int .i64 0, .int .i64 (-1), .bool false, .slice (some ⟨w.heap.size, 0, none⟩) 1 1] 25)) (.slice (some ⟨w.heap.size + 1, 0, none⟩) 2 2) [lfR ⟨#[97]⟩, rpR (.slice (some ⟨w.heap.size, 0, none⟩) 1 1)] := by
      have := ks_lit (w := w.alloc (.cells #[.int .i64 2, .string ⟨#[47]⟩, .bool false, .slice none 0 0, .int .i64 0, .int .i64 0, .bool false, .slice none 0 0] 25)) (l := [lfR ⟨#[97]⟩, rpR (.slice (some ⟨w.heap.size, 0, none⟩) 1 1)]) (n := 2) rfl (by decide) #[.int .i64 2, .string ⟨#[97]⟩, .bool false, .slice none 0 0, .int .i64 0, .int .i64 0, .bool false, .slice none 0 0, .int .i64 7, .string ⟨#[]⟩, .bool false, .slice none 0 0, .int .i64 0, .int .i64 (-1), .bool false, .slice (some ⟨w.heap.size, 0, none⟩) 1 1] rfl
      rwa [show (w.alloc (.cells #[.int .i64 2, .string ⟨#[47]⟩, .bool false, .slice none 0 0, .int .i64 0, .int .i64 0, .bool false, .slice none 0 0] 25)).heap.size = w.heap.size + 1 by simp] at this
    have hb : Below w.heap.size w ((w.alloc (.cells #[.int .i64 2, .string ⟨#[47]⟩, .bool false, .slice none 0 0, .int .i64 0, .int .i64 0, .bool false, .slice none 0 0] 25)).alloc (.cells #[.int .i64 2, .string ⟨#[97]⟩, .bool false, .slice none 0 0, .int .i64 0, .int .i64 0, .bool false, .slice none 0 0, .int .i64 7, .string ⟨#[]⟩, .bool false, .slice none 0 0, .int .i64 0, .int .i64 (-1), .bool false, .slice (some ⟨w.heap.size, 0, none⟩) 1 1] 25)) := bl_alloc (bl_alloc (bl_refl w) _) _
    have h1' := ksat_below h1 (bl_alloc (bl_refl _) (.cells #[.int .i64 2, .string ⟨#[97]⟩, .bool false, .slice none 0 0, .int .i64 0, .int .i64 0, .bool false, .slice none 0 0, .int .i64 7, .string ⟨#[]⟩, .bool false, .slice none 0 0, .int .i64 0, .int .i64 (-1), .bool false, .slice (some ⟨w.heap.size, 0, none⟩) 1 1] 25))
    generalize (w.alloc (.cells #[.int .i64 2, .string ⟨#[47]⟩, .bool false, .slice none 0 0, .int .i64 0, .int .i64 0, .bool false, .slice none 0 0] 25)).alloc (.cells #[.int .i64 2, .string ⟨#[97]⟩, .bool false, .slice none 0 0, .int .i64 0, .int .i64 0, .bool false, .slice none 0 0, .int .i64 7, .string ⟨#[]⟩, .bool false, .slice none 0 0, .int .i64 0, .int .i64 (-1), .bool false, .slice (some ⟨w.heap.size, 0, none⟩) 1 1] 25) = W at *
    have hrp : RxAt W (rpR (.slice (some ⟨w.heap.size, 0, none⟩) 1 1)) := .mk _ (.inl ⟨rfl, rfl⟩) h1' (fun i hi => by
      have : i = 0 := by simpa [rpR, Rt.kids] using hi
      subst this
      exact lf_rx _ _)
    have hx : RxAt W (awR (.slice (some ⟨w.heap.size + 1, 0, none⟩) 2 2) (.slice (some ⟨w.heap.size, 0, none⟩) 1 1)) := .mk _ (.inl ⟨rfl, rfl⟩) h2 (fun i hi => by
      have hi2 : i < 2 := hi
      match i, hi2 with
      | 0, _ => exact lf_rx _ _
      | 1, _ => exact hrp)
    have hz : sM (awR (.slice (some ⟨w.heap.size + 1, 0, none⟩) 2 2) (.slice (some ⟨w.heap.size, 0, none⟩) 1 1)) ≤ 100000 := (show (6 : Nat) ≤ 100000 by decide)
    have := rxshow_any hT (bl_trans hwT hb) hx hz W (bl_refl W)
    refine this.mono ?_
    rintro e w' ⟨he, hb2⟩
    refine ⟨?_, bl_trans hb hb2⟩
    rw [he]
    unfold shwS shwE
    rw [ok_aw, sh_aw]
    rfl)
  clear hT hwT
  go_enter Tryz.func8, Tryz.ntmps8
  go_wp2_with fail
  refine HC.out.mono ?_
  rintro e w2 ⟨rfl, hb2⟩
  go_wp2
  go_ret
  exact ⟨rfl, hb2⟩
end
section
open Go.ChangeShapes Go.WideShapes Go.ChangeAt Go.RowKit
open SetM
set_option maxRecDepth 100000
set_option linter.unusedVariables false
set_option linter.unusedSimpArgs false
mutual
  theorem shX_er : ∀ t, shX (er t) = shX t
    | .mk _ _ _ _ _ _ _ _ _ l => by rw [er, shX, shX, shL_er l]
  theorem shL_er : ∀ l, shL (erL l) = shL l
    | [] => by rw [erL]
    | t :: l => by rw [erL, shL, shL, shX_er t, shL_er l]
end
theorem shm_er (l : List Rt) : (l.map er).map shX = l.map shX := by
  rw [List.map_map]
  congr 1
  funext t
  exact shX_er t
theorem okl_er (l : List Rt) : okL (l.map er) = okL l := by rw [← erL_map, okL_er]
theorem pl_er (l : List Rt) : pL (l.map er) = pL l := by rw [← erL_map, pL_er]
theorem dl_er (l : List Rt) : dL (l.map er) = dL l := by rw [← erL_map, dL_er]
theorem sl_er (l : List Rt) : sL (l.map er) = sL l := by rw [← erL_map, sL_er]
theorem join_app (sep : List UInt8) (A B : List (List UInt8)) (hA : A ≠ []) (hB : B ≠ []) : joinS sep (A ++ B) = joinS sep A ++ sep ++ joinS sep B := by
  cases A with
  | nil => exact absurd rfl hA
  | cons a A =>
    cases B with
    | nil => exact absurd rfl hB
    | cons b B => simp [joinS, List.flatMap_append]
theorem join_app0 (A B : List (List UInt8)) : joinS [] (A ++ B) = joinS [] A ++ joinS [] B := by
  cases A with
  | nil => rfl
  | cons a A =>
    cases B with
    | nil => simp [joinS]
    | cons b B => simp [joinS, List.flatMap_append]
theorem ok_split {t : Rt} (h : okM t = true) : mfB t.k t.ch t.nt t.rows t.mi t.ma t.lz = true ∧ mkB t.k t.kids = true ∧ okL t.kids = true := by
  rw [okM_eq] at h
  simp at h
  exact ⟨h.1.1, h.1.2, h.2⟩
/-- What one tree gives to a list of alternatives or of parts: its own kids, or itself. -/
def oneK (kind : Int) (t : Rt) : List Rt := if t.k = kind then t.kids.map er else [er t]
theorem flK_twoS (kind : Int) (t u : Rt) : flK kind [t, u] = oneK kind t ++ oneK kind u := by simp [flK, oneK]
theorem er_kk (t : Rt) : (er t).k = t.k := by rw [er_eq]; rfl
theorem oneK_ok (kind : Int) {t : Rt} (h : okM t = true) : okL (oneK kind t) = true := by
  unfold oneK
  split
  · rw [okl_er]; exact (ok_split h).2.2
  · simp [okL, okM_er, h]
theorem oneK_p (kind : Int) (t : Rt) : pL (oneK kind t) ≤ pM t := by
  unfold oneK
  split
  · rw [pl_er, pM_eq]; omega
  · simp [pL, pM_er]
theorem oneK_s (kind : Int) (t : Rt) : sL (oneK kind t) ≤ sM t := by
  unfold oneK
  split
  · rw [sl_er, sM_eq]; omega
  · simp [sL, sM_er]
theorem oneK_d (kind : Int) (t : Rt) : dL (oneK kind t) ≤ dM t := by
  unfold oneK
  split
  · rw [dl_er, dM_eq]; omega
  · simp [dL, dM_er]
theorem alt_kinds {t : Rt} (h : okM t = true) : (oneK 1 t).all (fun x => altkB x.k) = true ∧ 1 ≤ (oneK 1 t).length ∧ joinS [124] ((oneK 1 t).map shX) = shX t := by
  unfold oneK
  split
  · rename_i hk
    have h2 := (ok_split h).2.1
    rw [hk] at h2
    unfold mkB at h2
    simp only [show ¬ ((1 : Int) = 0) by decide, if_false, if_true, Bool.and_eq_true, decide_eq_true_eq] at h2
    refine ⟨?_, by rw [List.length_map]; omega, ?_⟩
    · rw [seqk_map altkB]; exact h2.2
    · rw [shm_er, shX_eq t, hk, if_neg (by decide), if_pos rfl]
  · rename_i hk
    refine ⟨?_, by simp, ?_⟩
    · simp [altkB, er_kk, hk]
    · simp [joinS, shX_er]
theorem seq_kinds {t : Rt} (h : okM t = true) (h1 : t.k ≠ 1) : (oneK 0 t).all (fun x => seqkB x.k) = true ∧ joinS [] ((oneK 0 t).map shX) = shX t := by
  unfold oneK
  split
  · rename_i hk
    have h2 := (ok_split h).2.1
    rw [hk] at h2
    unfold mkB at h2
    simp only [if_true, Bool.and_eq_true] at h2
    refine ⟨?_, ?_⟩
    · rw [seqk_map seqkB]; exact h2.2
    · rw [shm_er, shX_eq t, hk, if_pos rfl]
  · rename_i hk
    refine ⟨?_, ?_⟩
    · simp [seqkB, er_kk, hk, h1]
    · simp [joinS, shX_er]
theorem kd_p (k : Int) (l : List Rt) : pM (kdX k l) = 1 + pL l := by rw [pM_eq]; rfl
theorem kd_s (k : Int) (l : List Rt) : sM (kdX k l) = 1 + sL l := by rw [sM_eq]; rfl
theorem alt_two {t u : Rt} (ht : cnB t 16 512 = true) (hu : cnB u 16 512 = true) (st : sM t ≤ 60) (su : sM u ≤ 60) :
    cnB (altX (flK 1 [t, u])) 16 512 = true ∧ shX (altX (flK 1 [t, u])) = shX t ++ [124] ++ shX u ∧ sM (altX (flK 1 [t, u])) ≤ 121 := by
  obtain ⟨p1, d1, o1⟩ := cnB_to ht
  obtain ⟨p2, d2, o2⟩ := cnB_to hu
  obtain ⟨a1, a2, a3⟩ := alt_kinds o1
  obtain ⟨b1, b2, b3⟩ := alt_kinds o2
  rw [flK_twoS]
  have hl : (oneK 1 t ++ oneK 1 u).length ≥ 2 := by rw [List.length_append]; omega
  have hx : altX (oneK 1 t ++ oneK 1 u) = kdX 1 (oneK 1 t ++ oneK 1 u) := by unfold altX; rw [if_neg (by omega), if_neg (by omega)]
  rw [hx]
  have pp := pM_sM t
  have pq := pM_sM u
  have q1 := oneK_p 1 t
  have q2 := oneK_p 1 u
  have r1 := oneK_s 1 t
  have r2 := oneK_s 1 u
  have e1 := oneK_d 1 t
  have e2 := oneK_d 1 u
  refine ⟨cnB_of ?_ ?_ ?_, ?_, ?_⟩
  · rw [kd_p, pL_app]; omega
  · rw [dM_eq]
    show ((dL (oneK 1 t ++ oneK 1 u) + 0 : Nat) : Int) ≤ 16
    rw [dL_app]; omega
  · rw [okM_eq]
    show (mfB 1 ⟨#[]⟩ false [] 0 0 false && mkB 1 (oneK 1 t ++ oneK 1 u) && okL (oneK 1 t ++ oneK 1 u)) = true
    rw [okL_app, oneK_ok 1 o1, oneK_ok 1 o2]
    unfold mkB
    rw [if_neg (by decide), if_pos rfl, List.all_append, a1, b1]
    simp [mfB, bareB]
    simp at hl
    omega
  · rw [shX_eq]
    show joinS [124] ((oneK 1 t ++ oneK 1 u).map shX) = _
    rw [List.map_append, join_app [124] _ _ (by intro e; have := congrArg List.length e; simp at this; rw [this] at a2; simp at a2) (by intro e; have := congrArg List.length e; simp at this; rw [this] at b2; simp at b2), a3, b3]
  · rw [kd_s, sL_app]; omega
theorem seq_two {t u : Rt} (ht : cnB t 16 512 = true) (hu : cnB u 16 512 = true) (st : sM t ≤ 60) (su : sM u ≤ 60) (kt : t.k ≠ 1) (ku : u.k ≠ 1) :
    cnB (seqX (flK 0 [t, u])) 16 512 = true ∧ shX (seqX (flK 0 [t, u])) = shX t ++ shX u ∧ sM (seqX (flK 0 [t, u])) ≤ 121 := by
  obtain ⟨p1, d1, o1⟩ := cnB_to ht
  obtain ⟨p2, d2, o2⟩ := cnB_to hu
  obtain ⟨a1, a3⟩ := seq_kinds o1 kt
  obtain ⟨b1, b3⟩ := seq_kinds o2 ku
  rw [flK_twoS]
  have pp := pM_sM t
  have pq := pM_sM u
  have q1 := oneK_p 0 t
  have q2 := oneK_p 0 u
  have r1 := oneK_s 0 t
  have r2 := oneK_s 0 u
  have e1 := oneK_d 0 t
  have e2 := oneK_d 0 u
  have hok : okL (oneK 0 t ++ oneK 0 u) = true := by rw [okL_app, oneK_ok 0 o1, oneK_ok 0 o2]; rfl
  have hpl : pL (oneK 0 t ++ oneK 0 u) ≤ 120 := by rw [pL_app]; omega
  have hsl : sL (oneK 0 t ++ oneK 0 u) ≤ 120 := by rw [sL_app]; omega
  have hdl : (dL (oneK 0 t ++ oneK 0 u) : Int) ≤ 16 := by rw [dL_app]; omega
  have hjn : joinS [] ((oneK 0 t ++ oneK 0 u).map shX) = shX t ++ shX u := by rw [List.map_append, join_app0, a3, b3]
  have hal : (oneK 0 t ++ oneK 0 u).all (fun x => seqkB x.k) = true := by rw [List.all_append, a1, b1]; rfl
  generalize oneK 0 t ++ oneK 0 u = K at *
  unfold seqX
  by_cases hl : K.length = 1
  · rw [if_pos hl]
    obtain ⟨x, rfl⟩ := List.length_eq_one_iff.1 hl
    simp only [List.headD_cons]
    simp [okL] at hok
    simp [pL] at hpl
    simp [sL] at hsl
    simp [dL] at hdl
    simp [joinS] at hjn
    exact ⟨cnB_of (by omega) (by omega) hok, hjn, by omega⟩
  · rw [if_neg hl]
    refine ⟨cnB_of ?_ ?_ ?_, ?_, ?_⟩
    · rw [kd_p]; omega
    · rw [dM_eq]
      show ((dL K + 0 : Nat) : Int) ≤ 16
      omega
    · rw [okM_eq]
      show (mfB 0 ⟨#[]⟩ false [] 0 0 false && mkB 0 K && okL K) = true
      rw [hok]
      unfold mkB
      rw [if_pos rfl, hal]
      simp [mfB, bareB, hl]
    · rw [shX_eq]
      show joinS [] (K.map shX) = _
      exact hjn
    · rw [kd_s]; omega
def gpR (k : Int) (v : Value) (t : Rt) : Rt := .mk k ⟨#[]⟩ false (.slice none 0 0) [] 0 0 false v [t]
def lzR (v : Value) (t : Rt) : Rt := .mk 7 ⟨#[]⟩ false (.slice none 0 0) [] 0 1 true v [t]
theorem gp_facts {t : Rt} (ht : cnB t 16 512 = true) (st : sM t ≤ 60) (hd : dM t < 16) (k : Int) (hk : k = 5 ∨ k = 6) (v : Value) :
    cnB (gpR k v t) 16 512 = true ∧ shX (gpR k v t) = (if k = 5 then [40] else [40, 63, 58]) ++ shX t ++ [41] ∧ sM (gpR k v t) ≤ 61 ∧ dM (gpR k v t) ≤ 16 ∧ okM (gpR k v t) = true := by
  obtain ⟨p1, d1, o1⟩ := cnB_to ht
  have pp := pM_sM t
  have hdd : dM (gpR k v t) = dM t + 1 := by
    rw [dM_eq]
    show dL [t] + (if k = 5 ∨ k = 6 then 1 else 0) = _
    rw [if_pos hk]
    simp [dL]
  have hok : okM (gpR k v t) = true := by
    rw [okM_eq]
    show (mfB k ⟨#[]⟩ false [] 0 0 false && mkB k [t] && okL [t]) = true
    rcases hk with rfl | rfl <;> simp [mfB, mkB, bareB, okL, o1]
  have hp : pM (gpR k v t) = 1 + pM t := by
    rw [pM_eq]
    show 1 + pL [t] = _
    simp [pL]
  refine ⟨cnB_of (by omega) (by omega) hok, ?_, ?_, by omega, hok⟩
  · rw [shX_eq]
    show (if k = 0 then joinS [] ([t].map shX) else if k = 1 then joinS [124] ([t].map shX) else if k = 2 then chSh mkA [] else if k = 3 then [46]
      else if k = 8 then [94] else if k = 9 then [36] else if k = 10 then [92, 98] else if k = 11 then [92, 66]
      else if k = 5 then [40] ++ joinS [] ([t].map shX) ++ [41] else if k = 6 then [40, 63, 58] ++ joinS [] ([t].map shX) ++ [41]
      else if k = 4 then setS false [] else if k = 7 then joinS [] ([t].map shX) ++ bndS 0 0 ++ (if false then [63] else []) else []) = _
    rcases hk with rfl | rfl <;> simp [joinS]
  · rw [sM_eq]
    show 1 + 0 + rwS [] + sL [t] ≤ 61
    simp [rwS, sL]; omega
theorem lz_facts {t : Rt} (ht : cnB t 16 512 = true) (st : sM t ≤ 60) (hd : dM t < 16) (v u : Value) :
    cnB (lzR v (gpR 6 u t)) 16 512 = true ∧ shX (lzR v (gpR 6 u t)) = [40, 63, 58] ++ shX t ++ [41, 63, 63] ∧ sM (lzR v (gpR 6 u t)) ≤ 62 := by
  obtain ⟨g1, g2, g3, g4, g5⟩ := gp_facts ht st hd 6 (.inr rfl) u
  obtain ⟨p1, d1, o1⟩ := cnB_to g1
  have hp : pM (lzR v (gpR 6 u t)) = 1 + pM (gpR 6 u t) := by
    rw [pM_eq]
    show 1 + pL [gpR 6 u t] = _
    simp [pL]
  have pp := pM_sM (gpR 6 u t)
  refine ⟨cnB_of (by omega) ?_ ?_, ?_, ?_⟩
  · rw [dM_eq]
    show ((dL [gpR 6 u t] + 0 : Nat) : Int) ≤ 16
    simp [dL]; omega
  · rw [okM_eq]
    show (mfB 7 ⟨#[]⟩ false [] 0 1 true && mkB 7 [gpR 6 u t] && okL [gpR 6 u t]) = true
    simp [mfB, mkB, rngB, bareB, okL, o1, atomB, gpR, Rt.k]
    simpa [gpR] using o1
  · rw [shX_eq]
    show joinS [] ([gpR 6 u t].map shX) ++ bndS 0 1 ++ [63] = _
    simp [joinS, g2, bndS]
  · rw [sM_eq]
    show 1 + 0 + rwS [] + sL [gpR 6 u t] ≤ 62
    simp [rwS, sL]; omega
end
end Go.Proofs.YtmacpmblodhcpaaGreatDoor
