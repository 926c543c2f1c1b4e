/- A tree of pieces: what only reads it. -/
import Derived.Test.YtjcmbnmejkhcjaaGreatTreeA
namespace Go.Proofs.YtjcmbnmejkhcjaaGreat
open Go.ChangeShapes Go.WideShapes Go.ChangeAt Go.RowKit
open Go.Shelf

set_option maxRecDepth 100000
/-- What of a text lies between two offsets. -/
def cutL (s : List UInt8) (a b : Nat) : List UInt8 := (s.take b).drop a
theorem byteCells_app (a b : List UInt8) : Lib.byteCells (a ++ b) = Lib.byteCells a ++ Lib.byteCells b := by simp [Lib.byteCells]
theorem bcells_len (l : List UInt8) : (Lib.byteCells l).length = l.length := by simp [Lib.byteCells]
theorem cutL_app (s t : List UInt8) (a b : Nat) : cutL (s ++ t) a b = cutL s a b ++ cutL t (a - s.length) (b - s.length) := by
  unfold cutL
  rw [List.take_append, List.drop_append]
  by_cases h : b ≤ s.length
  · have : b - s.length = 0 := by omega
    rw [this]; simp
  · rw [List.length_take]
    congr 2
    omega
theorem cutL_none (s : List UInt8) (a b : Nat) (h : b ≤ a ∨ s.length ≤ a) : cutL s a b = [] := by
  unfold cutL
  apply List.drop_eq_nil_of_le
  rw [List.length_take]; omega
theorem cutL_min (s : List UInt8) (a b : Nat) : cutL s a (min b s.length) = cutL s a b := by
  unfold cutL
  congr 1
  by_cases h : b ≤ s.length
  · rw [Nat.min_eq_left h]
  · rw [Nat.min_eq_right (by omega), List.take_of_length_le (Nat.le_refl _), List.take_of_length_le (by omega)]
theorem cutL_len (s : List UInt8) (a b : Nat) : (cutL s a b).length ≤ s.length := by
  unfold cutL
  rw [List.length_drop, List.length_take]; omega
theorem cells_ext (x : ByteArray) (a b : Nat) : Lib.strCells (x.extract a b) = Lib.byteCells (cutL x.data.toList a b) := by
  show Lib.byteCells _ = _
  congr 1
  unfold cutL
  rw [List.drop_take]
  simp
set_option maxHeartbeats 16000000 in
theorem twrite_any (t : T) (w : World) (B bb : Nat) (out : List UInt8) (a b : Nat) (h : t.At w) (hn : t.text.length ≤ 1000000) (ho : out.length + t.text.length ≤ 4000000) (ha : a ≤ 1000000) (hb : b ≤ 1000000)
    (hB : Lib.BuilderAt 84 5 B bb (.pointer (some ⟨bb, 0, none⟩)) (Lib.byteCells out) w) (hBw : B ≤ w.heap.size) (hba : ∀ n ∈ t.blocks, n < B) :
    Calls Tryz.prog 90 #[.pointer t.addr, .pointer (some ⟨bb, 0, none⟩), .int .i64 a, .int .i64 b] w fun e w' => e = .returned (.tuple #[]) ∧ (Lib.BuilderAt 84 5 B bb (.pointer (some ⟨bb, 0, none⟩)) (Lib.byteCells (out ++ cutL t.text a b)) w' ∧ Below B w w') := by
  induction t generalizing w out a b with
  | nil =>
    have HB := hide hB
    clear hB
    have hc : cutL (T.nil.text) a b = [] := by simp [cutL, T.text]
    rw [hc, List.append_nil]
    unfold T.addr
    go_enter Tryz.func90, Tryz.ntmps90
    go_wp2
    first | (refine bodyPost_ret (results_none rfl _ _ _) rfl ?_) | (refine bodyPost_end (results_none rfl _ _ _) rfl ?_)
    exact ⟨rfl, HB.out, Below.refl _ _⟩
  | node l n x p r ihl ihr =>
    obtain ⟨c0, c1, c2, c3, c4, c9, c10, c11⟩ := node_cell h
    have HN := hide h
    have hlA := h.2.1
    have hrA := h.2.2
    have hnB : n < B := hba n (by simp [T.blocks])
    have hlB : ∀ k ∈ l.blocks, k < B := fun k hk => hba k (by simp [T.blocks, hk])
    have hrB : ∀ k ∈ r.blocks, k < B := fun k hk => hba k (by simp [T.blocks, hk])
    have htx : (T.text (.node l n x p r)).length = l.text.length + (x.size + r.text.length) := by simp [T.text]
    have HT : Hid (cutL (T.text (.node l n x p r)) a b = cutL l.text a b ++ (cutL x.data.toList (a - l.text.length) (b - l.text.length) ++ cutL r.text (a - l.text.length - x.size) (b - l.text.length - x.size))) := hide (by
      rw [T.text, cutL_app, cutL_app, len_data])
    rw [htx] at hn ho
    have HB := hide hB
    have HIL := hide ihl
    have HIR := hide ihr
    clear hB c0 c1 c2 c3 c9 h hba htx ihl ihr
    unfold T.addr
    generalize hs0 : l.text.length = s0 at *
    by_cases hab : b ≤ a
    · have e0 : decide ((b : Int) ≤ (a : Int)) = true := by simp; omega
      go_enter Tryz.func90, Tryz.ntmps90
      go_wp2
      first | (refine bodyPost_ret (results_none rfl _ _ _) rfl ?_) | (refine bodyPost_end (results_none rfl _ _ _) rfl ?_)
      refine ⟨rfl, ?_, Below.refl _ _⟩
      rw [cutL_none _ a b (.inl hab), List.append_nil]
      exact HB.out
    have e0 : decide ((b : Int) ≤ (a : Int)) = false := by simp; omega
    have hcell : ∀ W1, Below B w W1 → ∀ o, W1.cell? ⟨n, o, none⟩ = w.cell? ⟨n, o, none⟩ := fun W1 hb1 o => World.cell?_of_block (a := ⟨n, o, none⟩) (hb1.block n hnB)
    have HCELL := hide hcell
    clear hcell
    have hmx : x.size ≤ 1000000 ∧ s0 ≤ 1000000 ∧ r.text.length ≤ 1000000 ∧ l.text.length ≤ 1000000 := by omega
    obtain ⟨u, hu⟩ : ∃ u : Nat, max a s0 = u := ⟨_, rfl⟩
    obtain ⟨v, hv⟩ : ∃ v : Nat, min b (s0 + x.size) = v := ⟨_, rfl⟩
    obtain ⟨b1, hb1⟩ : ∃ b1 : Nat, min b s0 = b1 := ⟨_, rfl⟩
    obtain ⟨q1, hq1⟩ : ∃ q1 : Nat, u - s0 = q1 := ⟨_, rfl⟩
    obtain ⟨q2, hq2⟩ : ∃ q2 : Nat, v - s0 = q2 := ⟨_, rfl⟩
    obtain ⟨a3, ha3⟩ : ∃ a3 : Nat, a - s0 - x.size = a3 := ⟨_, rfl⟩
    obtain ⟨b3, hb3⟩ : ∃ b3 : Nat, b - s0 - x.size = b3 := ⟨_, rfl⟩
    have i0 : min (b : Int) (s0 : Int) = (b1 : Int) := by omega
    have i1 : max (a : Int) (s0 : Int) = (u : Int) := by omega
    have i2 : min (b : Int) ((s0 : Int) + (x.size : Int)) = (v : Int) := by omega
    have i3 : (u : Int) - (s0 : Int) = (q1 : Int) := by omega
    have i5 : max ((a : Int) - ((s0 : Int) + (x.size : Int))) 0 = (a3 : Int) := by omega
    have HX1 : Hid (cutL l.text a b1 = cutL l.text a b) := hide (by rw [← hb1, ← hs0, cutL_min])
    have HX2 : Hid (s0 < b → cutL x.data.toList q1 q2 = cutL x.data.toList (a - s0) (b - s0)) := hide (fun hs => by
      have e1 : q1 = a - s0 := by omega
      have e2 : q2 = min (b - s0) x.data.toList.length := by rw [len_data]; omega
      rw [e1, e2, cutL_min])
    have hex : (x.extract q1 q2).size ≤ 1000000 := by rw [ByteArray.size_extract]; omega
    by_cases h1 : a < s0 <;> by_cases h2 : a < s0 + x.size <;> by_cases h3 : s0 < b <;> by_cases h4 : s0 + x.size < b <;> try (exfalso; omega)
    · -- (True, True, True, True)
      have d1 : decide ((a : Int) < (s0 : Int)) = true := by simp; omega
      have d2 : decide ((a : Int) < (s0 : Int) + (x.size : Int)) = true := by simp; omega
      have d3 : decide ((s0 : Int) < (b : Int)) = true := by simp; omega
      have d4 : decide ((s0 : Int) + (x.size : Int) < (b : Int)) = true := by simp; omega
      have i4 : (v : Int) - (s0 : Int) = (q2 : Int) := by omega
      have i7 : (q1 : Int) ≤ (q2 : Int) := by omega
      have i8 : (q2 : Int) ≤ (x.size : Int) := by omega
      have i8' : (q2 : Int) ≤ (x.size : Int) := by omega
      have i6 : (b : Int) - ((s0 : Int) + (x.size : Int)) = (b3 : Int) := by omega
      have HS := hide (tsize_any l w hlA)
      rw [hs0] at HS
      go_enter Tryz.func90, Tryz.ntmps90
      go_wp2_with fail
      refine HS.out.mono ?_
      rintro e w0 ⟨rfl, rfl⟩
      clear HS
      go_wp2_with fail
      refine (HIL.out w out a b1 hlA (by omega) (by omega) (by omega) (by omega) HB.out hBw hlB).mono ?_
      rintro e w1 ⟨rfl, hB1, hbl1⟩
      rw [HX1.out] at hB1
      have HB1 := hide hB1
      clear hB1
      have hl1 := cutL_len l.text a b
      have k4 := (HCELL.out w1 hbl1 4).trans c4
      have k11 := (HCELL.out w1 hbl1 11).trans c11
      go_wp2_with fail
      refine (bl_str B bb _ (x.extract q1 q2) _ (.inr HB1.out) (by rw [bcells_len, List.length_append]; omega) (Nat.le_trans hBw hbl1.size)).mono ?_
      rintro e w2 ⟨rfl, hB2, hbl2'⟩
      have hbl2 := hbl1.trans hbl2'
      rw [cells_ext, ← byteCells_app, HX2.out h3] at hB2
      have HB2 := hide hB2
      clear hB2
      have hl2 := cutL_len x.data.toList (a - s0) (b - s0)
      rw [len_data] at hl2
      have k11' := (HCELL.out w2 hbl2 11).trans c11
      go_wp2_with fail
      refine (HIR.out _ _ a3 b3 (hrA.kept _ (fun k hk => hbl2.block k (hrB k hk))) (by omega) (by simp only [List.length_append]; omega) (by omega) (by omega) HB2.out (Nat.le_trans hBw hbl2.size) hrB).mono ?_
      rintro e w3 ⟨rfl, hB3, hbl3⟩
      have hE : out ++ cutL l.text a b ++ cutL x.data.toList (a - s0) (b - s0) ++ cutL r.text a3 b3 = out ++ cutL (T.text (.node l n x p r)) a b := by
        rw [HT.out, ha3, hb3]; simp only [List.append_assoc]
      rw [hE] at hB3
      have HB3 := hide hB3
      clear hB3 hE
      go_wp2
      first | (refine bodyPost_ret (results_none rfl _ _ _) rfl ?_) | (refine bodyPost_end (results_none rfl _ _ _) rfl ?_)
      exact ⟨rfl, HB3.out, hbl2.trans hbl3⟩
    · -- (True, True, True, False)
      have d1 : decide ((a : Int) < (s0 : Int)) = true := by simp; omega
      have d2 : decide ((a : Int) < (s0 : Int) + (x.size : Int)) = true := by simp; omega
      have d3 : decide ((s0 : Int) < (b : Int)) = true := by simp; omega
      have d4 : decide ((s0 : Int) + (x.size : Int) < (b : Int)) = false := by simp; omega
      have i4 : (v : Int) - (s0 : Int) = (q2 : Int) := by omega
      have i7 : (q1 : Int) ≤ (q2 : Int) := by omega
      have i8 : (q2 : Int) ≤ (x.size : Int) := by omega
      have i8' : (q2 : Int) ≤ (x.size : Int) := by omega
      have HS := hide (tsize_any l w hlA)
      rw [hs0] at HS
      go_enter Tryz.func90, Tryz.ntmps90
      go_wp2_with fail
      refine HS.out.mono ?_
      rintro e w0 ⟨rfl, rfl⟩
      clear HS
      go_wp2_with fail
      refine (HIL.out w out a b1 hlA (by omega) (by omega) (by omega) (by omega) HB.out hBw hlB).mono ?_
      rintro e w1 ⟨rfl, hB1, hbl1⟩
      rw [HX1.out] at hB1
      have HB1 := hide hB1
      clear hB1
      have hl1 := cutL_len l.text a b
      have k4 := (HCELL.out w1 hbl1 4).trans c4
      have k11 := (HCELL.out w1 hbl1 11).trans c11
      go_wp2_with fail
      refine (bl_str B bb _ (x.extract q1 q2) _ (.inr HB1.out) (by rw [bcells_len, List.length_append]; omega) (Nat.le_trans hBw hbl1.size)).mono ?_
      rintro e w2 ⟨rfl, hB2, hbl2'⟩
      have hbl2 := hbl1.trans hbl2'
      rw [cells_ext, ← byteCells_app, HX2.out h3] at hB2
      have HB2 := hide hB2
      clear hB2
      have hl2 := cutL_len x.data.toList (a - s0) (b - s0)
      rw [len_data] at hl2
      have k11' := (HCELL.out w2 hbl2 11).trans c11
      go_wp2_with fail
      first | (refine bodyPost_ret (results_none rfl _ _ _) rfl ?_) | (refine bodyPost_end (results_none rfl _ _ _) rfl ?_)
      have hE : out ++ cutL l.text a b ++ cutL x.data.toList (a - s0) (b - s0) = out ++ cutL (T.text (.node l n x p r)) a b := by
        rw [HT.out, cutL_none r.text (a - s0 - x.size) (b - s0 - x.size) (by omega), List.append_nil, List.append_assoc]
      rw [hE] at HB2
      subst_vars
      exact ⟨rfl, HB2.out, hbl2⟩
    · -- (True, True, False, False)
      have d1 : decide ((a : Int) < (s0 : Int)) = true := by simp; omega
      have d2 : decide ((a : Int) < (s0 : Int) + (x.size : Int)) = true := by simp; omega
      have d3 : decide ((s0 : Int) < (b : Int)) = false := by simp; omega
      have d4 : decide ((s0 : Int) + (x.size : Int) < (b : Int)) = false := by simp; omega
      have HS := hide (tsize_any l w hlA)
      rw [hs0] at HS
      go_enter Tryz.func90, Tryz.ntmps90
      go_wp2_with fail
      refine HS.out.mono ?_
      rintro e w0 ⟨rfl, rfl⟩
      clear HS
      go_wp2_with fail
      refine (HIL.out w out a b1 hlA (by omega) (by omega) (by omega) (by omega) HB.out hBw hlB).mono ?_
      rintro e w1 ⟨rfl, hB1, hbl1⟩
      rw [HX1.out] at hB1
      have HB1 := hide hB1
      clear hB1
      have hl1 := cutL_len l.text a b
      have k4 := (HCELL.out w1 hbl1 4).trans c4
      have k11 := (HCELL.out w1 hbl1 11).trans c11
      go_wp2_with fail
      obtain ⟨w2, hw2⟩ : ∃ w2, w2 = w1 := ⟨_, rfl⟩
      have HB2 : Hid (Lib.BuilderAt 84 5 B bb (.pointer (some ⟨bb, 0, none⟩)) (Lib.byteCells (out ++ cutL l.text a b ++ cutL x.data.toList (a - s0) (b - s0))) w2) := hide (by rw [cutL_none x.data.toList (a - s0) (b - s0) (by rw [len_data]; omega), List.append_nil, hw2]; exact HB1.out)
      have hbl2 : Below B w w2 := hw2 ▸ hbl1
      have hl2 := cutL_len x.data.toList (a - s0) (b - s0)
      rw [len_data] at hl2
      have k11' := (HCELL.out w2 hbl2 11).trans c11
      subst hw2
      first | (refine bodyPost_ret (results_none rfl _ _ _) rfl ?_) | (refine bodyPost_end (results_none rfl _ _ _) rfl ?_)
      have hE : out ++ cutL l.text a b ++ cutL x.data.toList (a - s0) (b - s0) = out ++ cutL (T.text (.node l n x p r)) a b := by
        rw [HT.out, cutL_none r.text (a - s0 - x.size) (b - s0 - x.size) (by omega), List.append_nil, List.append_assoc]
      rw [hE] at HB2
      subst_vars
      exact ⟨rfl, HB2.out, hbl2⟩
    · -- (False, True, True, True)
      have d1 : decide ((a : Int) < (s0 : Int)) = false := by simp; omega
      have d2 : decide ((a : Int) < (s0 : Int) + (x.size : Int)) = true := by simp; omega
      have d3 : decide ((s0 : Int) < (b : Int)) = true := by simp; omega
      have d4 : decide ((s0 : Int) + (x.size : Int) < (b : Int)) = true := by simp; omega
      have i4 : (v : Int) - (s0 : Int) = (q2 : Int) := by omega
      have i7 : (q1 : Int) ≤ (q2 : Int) := by omega
      have i8 : (q2 : Int) ≤ (x.size : Int) := by omega
      have i8' : (q2 : Int) ≤ (x.size : Int) := by omega
      have i6 : (b : Int) - ((s0 : Int) + (x.size : Int)) = (b3 : Int) := by omega
      have HS := hide (tsize_any l w hlA)
      rw [hs0] at HS
      go_enter Tryz.func90, Tryz.ntmps90
      go_wp2_with fail
      refine HS.out.mono ?_
      rintro e w0 ⟨rfl, rfl⟩
      clear HS
      go_wp2_with fail
      obtain ⟨w1, hw1⟩ : ∃ w1, w1 = w := ⟨_, rfl⟩
      have HB1 : Hid (Lib.BuilderAt 84 5 B bb (.pointer (some ⟨bb, 0, none⟩)) (Lib.byteCells (out ++ cutL l.text a b)) w1) := hide (by rw [cutL_none l.text a b (.inr (by omega)), List.append_nil, hw1]; exact HB.out)
      have hbl1 : Below B w w1 := hw1 ▸ Below.refl _ _
      have hl1 := cutL_len l.text a b
      have k4 := (HCELL.out w1 hbl1 4).trans c4
      have k11 := (HCELL.out w1 hbl1 11).trans c11
      subst hw1
      go_wp2_with fail
      refine (bl_str B bb _ (x.extract q1 q2) _ (.inr HB1.out) (by rw [bcells_len, List.length_append]; omega) (Nat.le_trans hBw hbl1.size)).mono ?_
      rintro e w2 ⟨rfl, hB2, hbl2'⟩
      have hbl2 := hbl1.trans hbl2'
      rw [cells_ext, ← byteCells_app, HX2.out h3] at hB2
      have HB2 := hide hB2
      clear hB2
      have hl2 := cutL_len x.data.toList (a - s0) (b - s0)
      rw [len_data] at hl2
      have k11' := (HCELL.out w2 hbl2 11).trans c11
      go_wp2_with fail
      refine (HIR.out _ _ a3 b3 (hrA.kept _ (fun k hk => hbl2.block k (hrB k hk))) (by omega) (by simp only [List.length_append]; omega) (by omega) (by omega) HB2.out (Nat.le_trans hBw hbl2.size) hrB).mono ?_
      rintro e w3 ⟨rfl, hB3, hbl3⟩
      have hE : out ++ cutL l.text a b ++ cutL x.data.toList (a - s0) (b - s0) ++ cutL r.text a3 b3 = out ++ cutL (T.text (.node l n x p r)) a b := by
        rw [HT.out, ha3, hb3]; simp only [List.append_assoc]
      rw [hE] at hB3
      have HB3 := hide hB3
      clear hB3 hE
      go_wp2
      first | (refine bodyPost_ret (results_none rfl _ _ _) rfl ?_) | (refine bodyPost_end (results_none rfl _ _ _) rfl ?_)
      exact ⟨rfl, HB3.out, hbl2.trans hbl3⟩
    · -- (False, True, True, False)
      have d1 : decide ((a : Int) < (s0 : Int)) = false := by simp; omega
      have d2 : decide ((a : Int) < (s0 : Int) + (x.size : Int)) = true := by simp; omega
      have d3 : decide ((s0 : Int) < (b : Int)) = true := by simp; omega
      have d4 : decide ((s0 : Int) + (x.size : Int) < (b : Int)) = false := by simp; omega
      have i4 : (v : Int) - (s0 : Int) = (q2 : Int) := by omega
      have i7 : (q1 : Int) ≤ (q2 : Int) := by omega
      have i8 : (q2 : Int) ≤ (x.size : Int) := by omega
      have i8' : (q2 : Int) ≤ (x.size : Int) := by omega
      have HS := hide (tsize_any l w hlA)
      rw [hs0] at HS
      go_enter Tryz.func90, Tryz.ntmps90
      go_wp2_with fail
      refine HS.out.mono ?_
      rintro e w0 ⟨rfl, rfl⟩
      clear HS
      go_wp2_with fail
      obtain ⟨w1, hw1⟩ : ∃ w1, w1 = w := ⟨_, rfl⟩
      have HB1 : Hid (Lib.BuilderAt 84 5 B bb (.pointer (some ⟨bb, 0, none⟩)) (Lib.byteCells (out ++ cutL l.text a b)) w1) := hide (by rw [cutL_none l.text a b (.inr (by omega)), List.append_nil, hw1]; exact HB.out)
      have hbl1 : Below B w w1 := hw1 ▸ Below.refl _ _
      have hl1 := cutL_len l.text a b
      have k4 := (HCELL.out w1 hbl1 4).trans c4
      have k11 := (HCELL.out w1 hbl1 11).trans c11
      subst hw1
      go_wp2_with fail
      refine (bl_str B bb _ (x.extract q1 q2) _ (.inr HB1.out) (by rw [bcells_len, List.length_append]; omega) (Nat.le_trans hBw hbl1.size)).mono ?_
      rintro e w2 ⟨rfl, hB2, hbl2'⟩
      have hbl2 := hbl1.trans hbl2'
      rw [cells_ext, ← byteCells_app, HX2.out h3] at hB2
      have HB2 := hide hB2
      clear hB2
      have hl2 := cutL_len x.data.toList (a - s0) (b - s0)
      rw [len_data] at hl2
      have k11' := (HCELL.out w2 hbl2 11).trans c11
      go_wp2_with fail
      first | (refine bodyPost_ret (results_none rfl _ _ _) rfl ?_) | (refine bodyPost_end (results_none rfl _ _ _) rfl ?_)
      have hE : out ++ cutL l.text a b ++ cutL x.data.toList (a - s0) (b - s0) = out ++ cutL (T.text (.node l n x p r)) a b := by
        rw [HT.out, cutL_none r.text (a - s0 - x.size) (b - s0 - x.size) (by omega), List.append_nil, List.append_assoc]
      rw [hE] at HB2
      subst_vars
      exact ⟨rfl, HB2.out, hbl2⟩
    · -- (False, False, True, True)
      have d1 : decide ((a : Int) < (s0 : Int)) = false := by simp; omega
      have d2 : decide ((a : Int) < (s0 : Int) + (x.size : Int)) = false := by simp; omega
      have d3 : decide ((s0 : Int) < (b : Int)) = true := by simp; omega
      have d4 : decide ((s0 : Int) + (x.size : Int) < (b : Int)) = true := by simp; omega
      have i6 : (b : Int) - ((s0 : Int) + (x.size : Int)) = (b3 : Int) := by omega
      have HS := hide (tsize_any l w hlA)
      rw [hs0] at HS
      go_enter Tryz.func90, Tryz.ntmps90
      go_wp2_with fail
      refine HS.out.mono ?_
      rintro e w0 ⟨rfl, rfl⟩
      clear HS
      go_wp2_with fail
      obtain ⟨w1, hw1⟩ : ∃ w1, w1 = w := ⟨_, rfl⟩
      have HB1 : Hid (Lib.BuilderAt 84 5 B bb (.pointer (some ⟨bb, 0, none⟩)) (Lib.byteCells (out ++ cutL l.text a b)) w1) := hide (by rw [cutL_none l.text a b (.inr (by omega)), List.append_nil, hw1]; exact HB.out)
      have hbl1 : Below B w w1 := hw1 ▸ Below.refl _ _
      have hl1 := cutL_len l.text a b
      have k4 := (HCELL.out w1 hbl1 4).trans c4
      have k11 := (HCELL.out w1 hbl1 11).trans c11
      subst hw1
      go_wp2_with fail
      obtain ⟨w2, hw2⟩ : ∃ w2, w2 = w1 := ⟨_, rfl⟩
      have HB2 : Hid (Lib.BuilderAt 84 5 B bb (.pointer (some ⟨bb, 0, none⟩)) (Lib.byteCells (out ++ cutL l.text a b ++ cutL x.data.toList (a - s0) (b - s0))) w2) := hide (by rw [cutL_none x.data.toList (a - s0) (b - s0) (by rw [len_data]; omega), List.append_nil, hw2]; exact HB1.out)
      have hbl2 : Below B w1 w2 := hw2 ▸ hbl1
      have hl2 := cutL_len x.data.toList (a - s0) (b - s0)
      rw [len_data] at hl2
      have k11' := (HCELL.out w2 hbl2 11).trans c11
      subst hw2
      refine (HIR.out _ _ a3 b3 (hrA.kept _ (fun k hk => hbl2.block k (hrB k hk))) (by omega) (by simp only [List.length_append]; omega) (by omega) (by omega) HB2.out (Nat.le_trans hBw hbl2.size) hrB).mono ?_
      rintro e w3 ⟨rfl, hB3, hbl3⟩
      have hE : out ++ cutL l.text a b ++ cutL x.data.toList (a - s0) (b - s0) ++ cutL r.text a3 b3 = out ++ cutL (T.text (.node l n x p r)) a b := by
        rw [HT.out, ha3, hb3]; simp only [List.append_assoc]
      rw [hE] at hB3
      have HB3 := hide hB3
      clear hB3 hE
      go_wp2
      first | (refine bodyPost_ret (results_none rfl _ _ _) rfl ?_) | (refine bodyPost_end (results_none rfl _ _ _) rfl ?_)
      exact ⟨rfl, HB3.out, hbl2.trans hbl3⟩
end Go.Proofs.YtjcmbnmejkhcjaaGreat
