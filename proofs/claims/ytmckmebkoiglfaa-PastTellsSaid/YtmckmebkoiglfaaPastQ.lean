/- Contracts of package past at integers, with a frame: blocks that are protected stay as they were. No condition but short lists. -/
import Derived.Test.YtmckmebkoiglfaaPastB
namespace Go.Proofs.Ytmckmebkoiglfaa
open Go.ChangeShapes Go.WideShapes Go.ChangeAt Go.RowKit
/-- The protected blocks are as they were. -/
structure Kept (P : Nat → Prop) (w w' : World) : Prop where
  os : w'.os = w.os
  tape : w'.tape = w.tape
  output : w'.output = w.output
  size : w.heap.size ≤ w'.heap.size
  block : ∀ k, P k → w'.heap[k]? = w.heap[k]?
theorem kept_refl (P : Nat → Prop) (w : World) : Kept P w w := ⟨rfl, rfl, rfl, Nat.le_refl _, fun _ _ => rfl⟩
theorem kept_grown {P : Nat → Prop} {a w w' : World} {row : Option Nat} (h : Kept P a w) (hA : ∀ k, P k → k < a.heap.size) (hg : w.grownBy w' row) (hb : ∀ k, row = some k → ¬P k) : Kept P a w' :=
  ⟨hg.os.trans h.os, hg.tape.trans h.tape, hg.output.trans h.output, Nat.le_trans h.size hg.size, fun k hk => (hg.block k (Nat.lt_of_lt_of_le (hA k hk) h.size) (fun e => hb k e.symm hk)).trans (h.block k hk)⟩
theorem kept_drw {P : Nat → Prop} {a w : World} (h : Kept P a w) (n : Nat) : Kept P a (w.drewN n) := ⟨h.os, h.tape, h.output, h.size, h.block⟩
theorem kept_drew {P : Nat → Prop} {a w : World} (h : Kept P a w) : Kept P a w.drew := ⟨h.os, h.tape, h.output, h.size, h.block⟩
theorem kept_set {P : Nat → Prop} {a w : World} (h : Kept P a w) {b : Nat} (hp : ¬P b) (j : Nat) (u : Value) : Kept P a (w.setCell ⟨b, j, none⟩ u) :=
  ⟨h.os, h.tape, h.output, by simpa [World.setCell] using h.size, fun k hk => (Below.heap_setCell w _ u k (by rintro rfl; exact hp hk)).trans (h.block k hk)⟩
/-- Block b is a history: at most so many, these behind, these ahead (the first one at the end). -/
structure HistQ (w : World) (P : Nat → Prop) (b : Nat) (most : Nat) (E L : List Int) where
  vE : Value
  vL : Value
  low : ¬P b
  at0 : w.heap[b]? = some (.cells #[.int .i64 most, vE, vL] 47 (0, 0))
  own1 : w.ownsRow 0 3 1 vE E.length (E.map (Value.int .i64))
  own2 : w.ownsRow 0 3 1 vL L.length (L.map (Value.int .i64))
  off1 : vE.ownBlock ≠ some b
  off2 : vL.ownBlock ≠ some b
  off : Off vE vL
  nE : ∀ k, vE.ownBlock = some k → ¬P k
  nL : ∀ k, vL.ownBlock = some k → ¬P k
  all : ∀ k, P k → k < w.heap.size
def PastQ (w : World) (P : Nat → Prop) (b : Nat) (most : Nat) (E L : List Int) : Prop := Nonempty (HistQ w P b most E L)
theorem pastQ_below {w w' : World} {P : Nat → Prop} {b most : Nat} {E L : List Int} (h : PastQ w P b most E L) (hb : Below w.heap.size w w') : PastQ w' P b most E L := by
  obtain ⟨⟨vE, vL, h1, h2, h3, h4, h5, h6, h7, h8, h9, h10⟩⟩ := h
  exact ⟨⟨vE, vL, h1, by rw [hb.block b (Array.getElem?_eq_some_iff.1 h2).1]; exact h2, own_below h3 hb, own_below h4 hb, h5, h6, h7, h8, h9, fun k hk => Nat.lt_of_lt_of_le (h10 k hk) hb.size⟩⟩
set_option maxRecDepth 100000 in
set_option maxHeartbeats 1000000 in
theorem newQ_any (n : Nat) (P : Nat → Prop) (w : World) (h1 : 1 ≤ n) (h2 : n ≤ 100) (hP : ∀ k, P k → k < w.heap.size) :
    Calls Try.prog 9 #[.int .i64 n] w fun e w' => e = .returned (.tuple #[.pointer (some ⟨w.heap.size, 0, none⟩), .int .i64 0]) ∧ Below w.heap.size w w' ∧ w.heap.size < w'.heap.size ∧ PastQ w' P w.heap.size n [] [] := by
  have HP := hide hP
  clear hP
  go_enter Try.func9, Try.ntmps9
  go_wp2
  go_ret2
  exact ⟨rfl, bl_alloc (bl_refl w) _, by simp, ⟨⟨.slice none 0 0, .slice none 0 0, fun h => by have := HP.out _ h; omega, heap_alloc_new w _, ⟨rfl, .inl ⟨rfl, rfl⟩⟩, ⟨rfl, .inl ⟨rfl, rfl⟩⟩, by simp [Value.ownBlock], by simp [Value.ownBlock], .inl rfl, by simp [Value.ownBlock], by simp [Value.ownBlock], fun k hk => Nat.lt_of_lt_of_le (HP.out k hk) (by simp)⟩⟩⟩
set_option maxRecDepth 100000 in
set_option maxHeartbeats 4000000 in
theorem pushQ_any (b most : Nat) (P : Nat → Prop) (E L : List Int) (x : Int) (w : World) (h : PastQ w P b most E L) (hE : E.length ≤ 1000) :
    Calls Try.prog 10 #[.pointer (some ⟨b, 0, none⟩), .int .i64 x] w fun e w' => e = .returned (.tuple #[]) ∧ Kept P w w' ∧ PastQ w' P b most (if most < E.length + 1 then (E ++ [x]).drop 1 else E ++ [x]) [] := by
  obtain ⟨⟨vE, vL, hlow, hat0, hown1, hown2, hoff1, hoff2, hoff, hnE, hnL, hall⟩⟩ := h
  obtain ⟨i0, hi0, hz0', hz1, hz2⟩ := info_parts infoI
  have hbl := (Array.getElem?_eq_some_iff.1 hat0).1
  obtain ⟨c0, c1, c2, _, _, _⟩ := cells3 hat0
  have HAT := hide hat0
  have hbE := kept_refl P w
  by_cases hmo : most < E.length + 1
  · have hmd : decide ((most : Int) < (E.length : Int) + 1) = true := by simp; omega
    rw [if_pos hmo]
    clear hat0
    go_enter Try.func10, Try.ntmps10
    go_wp2_with (first
      | (at_builtin; (refine wpList_push w rfl _ _ 22 rfl 0 3 i0 (.int .i64 0) 1 8 Try.underlying22 hi0 hz0' hz1 hz2 rfl (by decide) vE E.length (E.map (Value.int .i64)) rfl hown1 1 #[.int .i64 x] rfl rfl (by simp [Value.oneCell']) (by omega) (by decide) (Nat.zero_le _) ?_); intro v' w4 hv4 hg4 hat; have hb4 := row_ne hg4 hbl hoff1; rw [HAT.out] at hb4; obtain ⟨d0, d1, d2, f0, f1, f2⟩ := cells3 hb4; have HB4 := hide hb4; clear hb4; obtain ⟨g, cg, rfl, hq1, hq2, hq3, hq4⟩ := own_pos hv4 (by omega); unfold maxLen at hq4)
      | fail)
    have hgb : g ≠ b := by
      rcases hat with ha | ⟨k, ha, hk⟩
      · rw [← ha] at hoff1; intro e; exact hoff1 (by rw [← e]; rfl)
      · injection ha with ha; simp at ha; omega
    have hbg : b ≠ g := fun e => hgb e.symm
    have hPg : ¬P g := by
      rcases hat with ha | ⟨k, ha, hk⟩
      · exact hnE g (by rw [← ha]; rfl)
      · intro hp; have h1 := hall g hp; injection ha with ha; simp at ha; omega
    have hnG : ∀ n k, (Value.slice (some ⟨g, 0, none⟩) n cg).ownBlock = some k → ¬P k := fun n k hk => by injection hk with hk; subst hk; exact hPg
    have hn0 : ∀ k, (Value.slice none 0 0).ownBlock = some k → ¬P k := fun k hk => by simp [Value.ownBlock] at hk
    have hbe4 : Kept P w w4 := kept_grown hbE hall hg4 hnE
    have HV4 := hide hv4
    have hob : (Value.slice (some ⟨g, 0, none⟩) (E.length + 1) cg).ownBlock ≠ some b := by intro e; injection e with e; exact hgb e
    have HV5 := hide (own_set hv4 hob 1 (.slice (some ⟨g, 0, none⟩) (E.length + 1) cg))
    have HB5 := hide (heap_set HB4.out 1 (.slice (some ⟨g, 0, none⟩) (E.length + 1) cg))
    clear hv4 hat hown1 hown2
    go_quiet (fail)
    go_wp2_with fail
    have hsz5 : b < ((w4.setCell ⟨b, 1, none⟩ (.slice (some ⟨g, 0, none⟩) (E.length + 1) cg)).drewN nq).heap.size := (Array.getElem?_eq_some_iff.1 HB5.out).1
    have hln : (E ++ [x]).length = E.length + 1 := by simp
    have hmp : E.map (Value.int .i64) ++ [.int .i64 x] = (E ++ [x]).map (Value.int .i64) := by simp
    have hv5 := HV5.out
    rw [hmp] at hv5
    refine (delI_at g cg 0 0 1 (E.length + 1) E.length 0 1 (E ++ [x]) ((w4.setCell ⟨b, 1, none⟩ (.slice (some ⟨g, 0, none⟩) (E.length + 1) cg)).drewN nq) hv5 hln (by omega) (by omega) rfl rfl (by omega)).mono ?_
    rintro e w6 ⟨rfl, hg6, hv6⟩
    have hb6 := row_ne hg6 hsz5 (by intro e; injection e with e; exact hgb e)
    have HB6 := hide (hb6.trans HB5.out)
    have hb6' := HB6.out
    simp only [Array.setIfInBounds] at hb6'
    obtain ⟨e0, e1, e2, k0, k1, k2⟩ := cells3 hb6'
    have hrest : (E ++ [x]).take 0 ++ (E ++ [x]).drop 1 = (E ++ [x]).drop 1 := by simp
    rw [hrest] at hv6
    have hob6 : (Value.slice (some ⟨g, 0, none⟩) E.length cg).ownBlock ≠ some b := by intro e; injection e with e; exact hgb e
    have hv7 := own_set (own_set hv6 hob6 1 (.slice (some ⟨g, 0, none⟩) E.length cg)) hob6 2 (.slice none 0 0)
    have hb7 := heap_set (heap_set hb6' 1 (.slice (some ⟨g, 0, none⟩) E.length cg)) 2 (.slice none 0 0)
    have hl7 : ((E ++ [x]).drop 1).length = E.length := by simp
    have hbe7 : Kept P w ((w6.setCell ⟨b, 1, none⟩ (.slice (some ⟨g, 0, none⟩) E.length cg)).setCell ⟨b, 2, none⟩ (.slice none 0 0)) := kept_set (kept_set (kept_grown (kept_drw (kept_set hbe4 hlow 1 _) nq) hall hg6 (fun k hk => by injection hk with hk; subst hk; exact hPg)) hlow 1 _) hlow 2 _
    have FIN : PastQ ((w6.setCell ⟨b, 1, none⟩ (.slice (some ⟨g, 0, none⟩) E.length cg)).setCell ⟨b, 2, none⟩ (.slice none 0 0)) P b most ((E ++ [x]).drop 1) [] :=
      ⟨⟨.slice (some ⟨g, 0, none⟩) E.length cg, .slice none 0 0, hlow, hb7, by rw [hl7]; exact hv7, ⟨rfl, .inl ⟨rfl, rfl⟩⟩, hob6, by simp [Value.ownBlock], .inr (.inl rfl), hnG _, hn0, fun k hk => Nat.lt_of_lt_of_le (hall k hk) hbe7.size⟩⟩
    have HF := hide (And.intro hbe7 FIN)
    clear hv6 hv7 hb7 FIN hbe7 hb6 hb6' hv5 hmp
    go_wp2
    go_end0
    exact ⟨rfl, HF.out.1, HF.out.2⟩
  · have hmd : decide ((most : Int) < (E.length : Int) + 1) = false := by simp; omega
    rw [if_neg hmo]
    clear hat0
    go_enter Try.func10, Try.ntmps10
    go_wp2_with (first
      | (at_builtin; (refine wpList_push w rfl _ _ 22 rfl 0 3 i0 (.int .i64 0) 1 8 Try.underlying22 hi0 hz0' hz1 hz2 rfl (by decide) vE E.length (E.map (Value.int .i64)) rfl hown1 1 #[.int .i64 x] rfl rfl (by simp [Value.oneCell']) (by omega) (by decide) (Nat.zero_le _) ?_); intro v' w4 hv4 hg4 hat; have hb4 := row_ne hg4 hbl hoff1; rw [HAT.out] at hb4; obtain ⟨d0, d1, d2, f0, f1, f2⟩ := cells3 hb4; have HB4 := hide hb4; clear hb4; obtain ⟨g, cg, rfl, hq1, hq2, hq3, hq4⟩ := own_pos hv4 (by omega); unfold maxLen at hq4)
      | fail)
    have hgb : g ≠ b := by
      rcases hat with ha | ⟨k, ha, hk⟩
      · rw [← ha] at hoff1; intro e; exact hoff1 (by rw [← e]; rfl)
      · injection ha with ha; simp at ha; omega
    have hbg : b ≠ g := fun e => hgb e.symm
    have hPg : ¬P g := by
      rcases hat with ha | ⟨k, ha, hk⟩
      · exact hnE g (by rw [← ha]; rfl)
      · intro hp; have h1 := hall g hp; injection ha with ha; simp at ha; omega
    have hnG : ∀ n k, (Value.slice (some ⟨g, 0, none⟩) n cg).ownBlock = some k → ¬P k := fun n k hk => by injection hk with hk; subst hk; exact hPg
    have hn0 : ∀ k, (Value.slice none 0 0).ownBlock = some k → ¬P k := fun k hk => by simp [Value.ownBlock] at hk
    have hbe4 : Kept P w w4 := kept_grown hbE hall hg4 hnE
    have HV4 := hide hv4
    have hob : (Value.slice (some ⟨g, 0, none⟩) (E.length + 1) cg).ownBlock ≠ some b := by intro e; injection e with e; exact hgb e
    have HV5 := hide (own_set hv4 hob 1 (.slice (some ⟨g, 0, none⟩) (E.length + 1) cg))
    have HB5 := hide (heap_set HB4.out 1 (.slice (some ⟨g, 0, none⟩) (E.length + 1) cg))
    have hmp : E.map (Value.int .i64) ++ [.int .i64 x] = (E ++ [x]).map (Value.int .i64) := by simp
    have hv5 := HV5.out
    rw [hmp] at hv5
    have hv7 := own_set hv5 hob 2 (.slice none 0 0)
    have hb7 := heap_set HB5.out 2 (.slice none 0 0)
    have hl7 : (E ++ [x]).length = E.length + 1 := by simp
    have hbe7 : ∀ nq, Kept P w (((w4.setCell ⟨b, 1, none⟩ (.slice (some ⟨g, 0, none⟩) (E.length + 1) cg)).drewN nq).setCell ⟨b, 2, none⟩ (.slice none 0 0)) := fun nq =>
      kept_set (kept_drw (kept_set hbe4 hlow 1 _) nq) hlow 2 _
    have FIN : ∀ nq, PastQ (((w4.setCell ⟨b, 1, none⟩ (.slice (some ⟨g, 0, none⟩) (E.length + 1) cg)).drewN nq).setCell ⟨b, 2, none⟩ (.slice none 0 0)) P b most (E ++ [x]) [] := fun nq =>
      ⟨⟨.slice (some ⟨g, 0, none⟩) (E.length + 1) cg, .slice none 0 0, hlow, hb7, by rw [hl7]; exact hv7, ⟨rfl, .inl ⟨rfl, rfl⟩⟩, hob, by simp [Value.ownBlock], .inr (.inl rfl), hnG _, hn0, fun k hk => Nat.lt_of_lt_of_le (hall k hk) (hbe7 nq).size⟩⟩
    have HF := hide (And.intro hbe7 FIN)
    clear hv4 hat hown1 hown2 hv5 hv7 hb7 FIN hbe7 hmp
    go_quiet (fail)
    go_wp2
    go_end0
    exact ⟨rfl, HF.out.1 _, HF.out.2 _⟩
set_option maxRecDepth 100000 in
set_option maxHeartbeats 4000000 in
theorem exchQ_back (b most m : Nat) (P : Nat → Prop) (E0 L : List Int) (y x : Int) (w : World) (h : PastQ w P b most (E0 ++ [y]) L) (hm : E0.length = m) (hE : m ≤ 1000) (hT : L.length ≤ 1000) :
    Calls Try.prog 20 #[.pointer (some ⟨b, 1, none⟩), .pointer (some ⟨b, 2, none⟩), .int .i64 x] w fun e w' => e = .returned (.tuple #[.int .i64 y, .bool true]) ∧ Kept P w w' ∧ PastQ w' P b most E0 (L ++ [x]) := by
  obtain ⟨⟨vE, vL, hlow, hat0, hown1, hown2, hoff1, hoff2, hoff, hnE, hnL, hall⟩⟩ := h
  obtain ⟨i0, hi0, hz0', hz1, hz2⟩ := info_parts infoI
  have hbl := (Array.getElem?_eq_some_iff.1 hat0).1
  obtain ⟨c0, c1, c2, q0, q1, q2⟩ := cells3 hat0
  have hln : (E0 ++ [y]).length = m + 1 := by simp [hm]
  rw [hln] at hown1
  obtain ⟨g, cg, hgv, hg1, hg2, hg3, hg4⟩ := own_pos hown1 (by omega)
  subst hgv
  unfold maxLen at hg4
  have cy : w.cell? ⟨g, m, none⟩ = some (.int .i64 y) := by
    rw [World.ownsRow.cellAt hown1 m (by omega)]
    simp [hm]
  have hgb : g ≠ b := fun e => hoff1 (by rw [← e]; rfl)
  have hPg : ¬P g := hnE g rfl
  have hob : ∀ n, (Value.slice (some ⟨g, 0, none⟩) n cg).ownBlock ≠ some b := fun n e => by injection e with e; exact hgb e
  have HAT := hide hat0
  clear hat0
  go_enter Try.func20, Try.ntmps20
  go_wp2_with fail
  refine (delI_at g cg 0 m (m + 1) (m + 1) m m (m + 1) (E0 ++ [y]) _ hown1 hln (by omega) (by omega) rfl (by omega) (by omega)).mono ?_
  rintro e w2 ⟨rfl, hg6, hv6⟩
  have hrest : (E0 ++ [y]).take m ++ (E0 ++ [y]).drop (m + 1) = E0 := by
    rw [List.drop_of_length_le (by omega), List.append_nil, ← hm, List.take_left']
    rfl
  rw [hrest] at hv6
  have hb6 := row_ne hg6 hbl (by intro e; injection e with e; exact hgb e)
  rw [HAT.out] at hb6
  obtain ⟨e0, e1, e2, k0, k1, k2⟩ := cells3 hb6
  have hT6 := own_off (z := 1) (hoff) hown2 hg6
  have hT7 := own_set hT6 hoff2 1 (.slice (some ⟨g, 0, none⟩) m cg)
  have hv7 := own_set hv6 (hob m) 1 (.slice (some ⟨g, 0, none⟩) m cg)
  have hb7 : (w2.setCell ⟨b, 1, none⟩ (.slice (some ⟨g, 0, none⟩) m cg)).heap[b]? = some (.cells #[.int .i64 most, .slice (some ⟨g, 0, none⟩) m cg, vL] 47 (0, 0)) := heap_set hb6 1 (.slice (some ⟨g, 0, none⟩) m cg)
  have hbE7 : Kept P w (w2.setCell ⟨b, 1, none⟩ (.slice (some ⟨g, 0, none⟩) m cg)) := kept_set (kept_grown (kept_refl P w) hall hg6 (fun k hk => by injection hk with hk; subst hk; exact hPg)) hlow 1 _
  have hsz7 : b < (w2.setCell ⟨b, 1, none⟩ (.slice (some ⟨g, 0, none⟩) m cg)).heap.size := (Array.getElem?_eq_some_iff.1 hb7).1
  have HB7 := hide hb7
  have HV7 := hide hv7
  have hOFF : Off vL (.slice (some ⟨g, 0, none⟩) m cg) := off_comm (hoff)
  clear hb6 hrest hv6 hb7 hv7 hT6
  go_wp2_with (first
    | (at_builtin; (refine wpList_push (w2.setCell ⟨b, 1, none⟩ (.slice (some ⟨g, 0, none⟩) m cg)) rfl _ _ 22 rfl 0 3 i0 (.int .i64 0) 1 8 Try.underlying22 hi0 hz0' hz1 hz2 rfl (by decide) vL L.length (L.map (Value.int .i64)) rfl hT7 1 #[.int .i64 x] (by show Value.slice (some ⟨w2.heap.size, 0, none⟩) 1 1 = _; simp) rfl (by simp [Value.oneCell']) (by omega) (by decide) (Nat.zero_le _) ?_); intro v' w4 hv4 hg4 hat; have hb4 := row_ne hg4 hsz7 hoff2; rw [HB7.out] at hb4; obtain ⟨d0, d1, d2, f0, f1, f2⟩ := cells3 hb4; have HB4 := hide hb4; clear hb4; obtain ⟨g', cg', rfl, hq1, hq2, hq3, hq4⟩ := own_pos hv4 (by omega); unfold maxLen at hq4)
    | fail)
  go_ret2
  have hgb2 : (Value.slice (some ⟨g', 0, none⟩) (L.length + 1) cg').ownBlock ≠ some b := by
    rcases hat with ha | ⟨k, ha, hk⟩
    · rw [ha]; exact hoff2
    · rw [ha]; intro e; injection e with e; omega
  have hF4 := own_off hOFF HV7.out hg4
  have hO4 := off_push hOFF HV7.out hat
  have hbe4 := kept_grown hbE7 hall hg4 hnL
  have hPg' : ∀ k, (Value.slice (some ⟨g', 0, none⟩) (L.length + 1) cg').ownBlock = some k → ¬P k := by
    intro k hk
    rcases hat with ha | ⟨q, ha, hq⟩
    · exact hnL k (by rw [← ha]; exact hk)
    · intro hp; have h1 := hall k hp; have h2 := hbE7.size; rw [ha] at hk; injection hk with hk; omega
  have hnG : ∀ k, (Value.slice (some ⟨g, 0, none⟩) m cg).ownBlock = some k → ¬P k := fun k hk => by injection hk with hk; subst hk; exact hPg
  have hmp : L.map (Value.int .i64) ++ [.int .i64 x] = (L ++ [x]).map (Value.int .i64) := by simp
  have hl7 : (L ++ [x]).length = L.length + 1 := by simp
  have hb5 := heap_set HB4.out 2 (.slice (some ⟨g', 0, none⟩) (L.length + 1) cg')
  have hv5 := own_set hv4 hgb2 2 (.slice (some ⟨g', 0, none⟩) (L.length + 1) cg')
  have hF5 := own_set hF4 (hob m) 2 (.slice (some ⟨g', 0, none⟩) (L.length + 1) cg')
  refine ⟨rfl, kept_set hbe4 hlow 2 _, ⟨⟨.slice (some ⟨g, 0, none⟩) m cg, .slice (some ⟨g', 0, none⟩) (L.length + 1) cg', hlow, hb5, by rw [hm]; exact hF5, by rw [hl7, ← hmp]; exact hv5, hob m, hgb2, off_comm hO4, hnG, hPg', fun k hk => Nat.lt_of_lt_of_le (hall k hk) (kept_set hbe4 hlow 2 (.slice (some ⟨g', 0, none⟩) (L.length + 1) cg')).size⟩⟩⟩
set_option maxRecDepth 100000 in
set_option maxHeartbeats 4000000 in
theorem exchQ_forth (b most m : Nat) (P : Nat → Prop) (L0 E : List Int) (y x : Int) (w : World) (h : PastQ w P b most E (L0 ++ [y])) (hm : L0.length = m) (hE : m ≤ 1000) (hT : E.length ≤ 1000) :
    Calls Try.prog 20 #[.pointer (some ⟨b, 2, none⟩), .pointer (some ⟨b, 1, none⟩), .int .i64 x] w fun e w' => e = .returned (.tuple #[.int .i64 y, .bool true]) ∧ Kept P w w' ∧ PastQ w' P b most (E ++ [x]) L0 := by
  obtain ⟨⟨vE, vL, hlow, hat0, hown1, hown2, hoff1, hoff2, hoff, hnE, hnL, hall⟩⟩ := h
  obtain ⟨i0, hi0, hz0', hz1, hz2⟩ := info_parts infoI
  have hbl := (Array.getElem?_eq_some_iff.1 hat0).1
  obtain ⟨c0, c1, c2, q0, q1, q2⟩ := cells3 hat0
  have hln : (L0 ++ [y]).length = m + 1 := by simp [hm]
  rw [hln] at hown2
  obtain ⟨g, cg, hgv, hg1, hg2, hg3, hg4⟩ := own_pos hown2 (by omega)
  subst hgv
  unfold maxLen at hg4
  have cy : w.cell? ⟨g, m, none⟩ = some (.int .i64 y) := by
    rw [World.ownsRow.cellAt hown2 m (by omega)]
    simp [hm]
  have hgb : g ≠ b := fun e => hoff2 (by rw [← e]; rfl)
  have hPg : ¬P g := hnL g rfl
  have hob : ∀ n, (Value.slice (some ⟨g, 0, none⟩) n cg).ownBlock ≠ some b := fun n e => by injection e with e; exact hgb e
  have HAT := hide hat0
  clear hat0
  go_enter Try.func20, Try.ntmps20
  go_wp2_with fail
  refine (delI_at g cg 0 m (m + 1) (m + 1) m m (m + 1) (L0 ++ [y]) _ hown2 hln (by omega) (by omega) rfl (by omega) (by omega)).mono ?_
  rintro e w2 ⟨rfl, hg6, hv6⟩
  have hrest : (L0 ++ [y]).take m ++ (L0 ++ [y]).drop (m + 1) = L0 := by
    rw [List.drop_of_length_le (by omega), List.append_nil, ← hm, List.take_left']
    rfl
  rw [hrest] at hv6
  have hb6 := row_ne hg6 hbl (by intro e; injection e with e; exact hgb e)
  rw [HAT.out] at hb6
  obtain ⟨e0, e1, e2, k0, k1, k2⟩ := cells3 hb6
  have hT6 := own_off (z := 1) (off_comm hoff) hown1 hg6
  have hT7 := own_set hT6 hoff1 2 (.slice (some ⟨g, 0, none⟩) m cg)
  have hv7 := own_set hv6 (hob m) 2 (.slice (some ⟨g, 0, none⟩) m cg)
  have hb7 : (w2.setCell ⟨b, 2, none⟩ (.slice (some ⟨g, 0, none⟩) m cg)).heap[b]? = some (.cells #[.int .i64 most, vE, .slice (some ⟨g, 0, none⟩) m cg] 47 (0, 0)) := heap_set hb6 2 (.slice (some ⟨g, 0, none⟩) m cg)
  have hbE7 : Kept P w (w2.setCell ⟨b, 2, none⟩ (.slice (some ⟨g, 0, none⟩) m cg)) := kept_set (kept_grown (kept_refl P w) hall hg6 (fun k hk => by injection hk with hk; subst hk; exact hPg)) hlow 2 _
  have hsz7 : b < (w2.setCell ⟨b, 2, none⟩ (.slice (some ⟨g, 0, none⟩) m cg)).heap.size := (Array.getElem?_eq_some_iff.1 hb7).1
  have HB7 := hide hb7
  have HV7 := hide hv7
  have hOFF : Off vE (.slice (some ⟨g, 0, none⟩) m cg) := off_comm (off_comm hoff)
  clear hb6 hrest hv6 hb7 hv7 hT6
  go_wp2_with (first
    | (at_builtin; (refine wpList_push (w2.setCell ⟨b, 2, none⟩ (.slice (some ⟨g, 0, none⟩) m cg)) rfl _ _ 22 rfl 0 3 i0 (.int .i64 0) 1 8 Try.underlying22 hi0 hz0' hz1 hz2 rfl (by decide) vE E.length (E.map (Value.int .i64)) rfl hT7 1 #[.int .i64 x] (by show Value.slice (some ⟨w2.heap.size, 0, none⟩) 1 1 = _; simp) rfl (by simp [Value.oneCell']) (by omega) (by decide) (Nat.zero_le _) ?_); intro v' w4 hv4 hg4 hat; have hb4 := row_ne hg4 hsz7 hoff1; rw [HB7.out] at hb4; obtain ⟨d0, d1, d2, f0, f1, f2⟩ := cells3 hb4; have HB4 := hide hb4; clear hb4; obtain ⟨g', cg', rfl, hq1, hq2, hq3, hq4⟩ := own_pos hv4 (by omega); unfold maxLen at hq4)
    | fail)
  go_ret2
  have hgb2 : (Value.slice (some ⟨g', 0, none⟩) (E.length + 1) cg').ownBlock ≠ some b := by
    rcases hat with ha | ⟨k, ha, hk⟩
    · rw [ha]; exact hoff1
    · rw [ha]; intro e; injection e with e; omega
  have hF4 := own_off hOFF HV7.out hg4
  have hO4 := off_push hOFF HV7.out hat
  have hbe4 := kept_grown hbE7 hall hg4 hnE
  have hPg' : ∀ k, (Value.slice (some ⟨g', 0, none⟩) (E.length + 1) cg').ownBlock = some k → ¬P k := by
    intro k hk
    rcases hat with ha | ⟨q, ha, hq⟩
    · exact hnE k (by rw [← ha]; exact hk)
    · intro hp; have h1 := hall k hp; have h2 := hbE7.size; rw [ha] at hk; injection hk with hk; omega
  have hnG : ∀ k, (Value.slice (some ⟨g, 0, none⟩) m cg).ownBlock = some k → ¬P k := fun k hk => by injection hk with hk; subst hk; exact hPg
  have hmp : E.map (Value.int .i64) ++ [.int .i64 x] = (E ++ [x]).map (Value.int .i64) := by simp
  have hl7 : (E ++ [x]).length = E.length + 1 := by simp
  have hb5 := heap_set HB4.out 1 (.slice (some ⟨g', 0, none⟩) (E.length + 1) cg')
  have hv5 := own_set hv4 hgb2 1 (.slice (some ⟨g', 0, none⟩) (E.length + 1) cg')
  have hF5 := own_set hF4 (hob m) 1 (.slice (some ⟨g', 0, none⟩) (E.length + 1) cg')
  refine ⟨rfl, kept_set hbe4 hlow 1 _, ⟨⟨.slice (some ⟨g', 0, none⟩) (E.length + 1) cg', .slice (some ⟨g, 0, none⟩) m cg, hlow, hb5, by rw [hl7, ← hmp]; exact hv5, by rw [hm]; exact hF5, hgb2, hob m, hO4, hPg', hnG, fun k hk => Nat.lt_of_lt_of_le (hall k hk) (kept_set hbe4 hlow 1 (.slice (some ⟨g', 0, none⟩) (E.length + 1) cg')).size⟩⟩⟩
theorem pastQ_drew {w : World} {P : Nat → Prop} {b most : Nat} {E L : List Int} (h : PastQ w P b most E L) : PastQ w.drew P b most E L := by
  obtain ⟨⟨vE, vL, h1, h2, h3, h4, h5, h6, h7, h8, h9, h10⟩⟩ := h
  exact ⟨⟨vE, vL, h1, h2, h3, h4, h5, h6, h7, h8, h9, h10⟩⟩
theorem pastQ_drewN {w : World} {P : Nat → Prop} {b most : Nat} {E L : List Int} (n : Nat) (h : PastQ w P b most E L) : PastQ (w.drewN n) P b most E L := by
  obtain ⟨⟨vE, vL, h1, h2, h3, h4, h5, h6, h7, h8, h9, h10⟩⟩ := h
  exact ⟨⟨vE, vL, h1, h2, h3, h4, h5, h6, h7, h8, h9, h10⟩⟩
theorem exchQ_none (b i n base : Nat) (v : Value) (x : Int) (w : World) (hown : w.ownsRow base 3 1 v 0 []) (hc : w.cell? ⟨b, i, none⟩ = some v) :
    Calls Try.prog 20 #[.pointer (some ⟨b, i, none⟩), .pointer (some ⟨b, n, none⟩), .int .i64 x] w fun e w' => e = .returned (.tuple #[.int .i64 0, .bool false]) ∧ w = w' := by
  obtain ⟨a, c, rfl⟩ := own_slice hown
  clear hown
  go_enter Try.func20, Try.ntmps20
  go_wp2
  go_ret2
  exact ⟨rfl, rfl⟩
set_option maxRecDepth 100000 in
set_option maxHeartbeats 1000000 in
theorem backQ_any (b most m : Nat) (P : Nat → Prop) (E0 L : List Int) (y x : Int) (w : World) (h : PastQ w P b most (E0 ++ [y]) L) (hm : E0.length = m) (hE : m ≤ 1000) (hT : L.length ≤ 1000) :
    Calls Try.prog 11 #[.pointer (some ⟨b, 0, none⟩), .int .i64 x] w fun e w' => e = .returned (.tuple #[.int .i64 y, .bool true]) ∧ Kept P w w' ∧ PastQ w' P b most E0 (L ++ [x]) := by
  have H := hide (pastQ_drew h)
  clear h
  go_enter Try.func11, Try.ntmps11
  go_wp2
  go_region_with (go_at_call 20; refine (exchQ_back b most m P E0 L y x w.drew H.out hm hE hT).mono ?_; rintro e w1 ⟨rfl, h1, h2⟩; have HF := hide (And.intro h1 h2); clear h1 h2)
  all_goals
    go_wp2
    go_ret2
    exact ⟨rfl, ⟨HF.out.1.os, HF.out.1.tape, HF.out.1.output, HF.out.1.size, HF.out.1.block⟩, HF.out.2⟩
set_option maxRecDepth 100000 in
set_option maxHeartbeats 1000000 in
theorem backQ_none (b most : Nat) (P : Nat → Prop) (L : List Int) (x : Int) (w : World) (h : PastQ w P b most [] L) :
    Calls Try.prog 11 #[.pointer (some ⟨b, 0, none⟩), .int .i64 x] w fun e w' => e = .returned (.tuple #[.int .i64 0, .bool false]) ∧ Kept P w w' ∧ PastQ w' P b most [] L := by
  have HP := hide (pastQ_drew h)
  obtain ⟨⟨vE, vL, hlow, hat0, hown1, hown2, hoff1, hoff2, hoff, hnE, hnL, hall⟩⟩ := h
  obtain ⟨c0, c1, c2, q0, q1, q2⟩ := cells3 hat0
  have HO := hide hown1
  clear hat0 hown1 hown2 q0 q1 q2
  go_enter Try.func11, Try.ntmps11
  go_wp2
  go_region_with (go_at_call 20; refine (exchQ_none b 1 2 0 vE x w.drew HO.out c1).mono ?_; rintro e w1 ⟨rfl, rfl⟩)
  all_goals
    go_wp2
    go_ret2
    exact ⟨rfl, kept_drew (kept_refl P w), HP.out⟩
set_option maxRecDepth 100000 in
set_option maxHeartbeats 1000000 in
theorem forthQ_any (b most m : Nat) (P : Nat → Prop) (L0 E : List Int) (y x : Int) (w : World) (h : PastQ w P b most E (L0 ++ [y])) (hm : L0.length = m) (hE : m ≤ 1000) (hT : E.length ≤ 1000) :
    Calls Try.prog 12 #[.pointer (some ⟨b, 0, none⟩), .int .i64 x] w fun e w' => e = .returned (.tuple #[.int .i64 y, .bool true]) ∧ Kept P w w' ∧ PastQ w' P b most (E ++ [x]) L0 := by
  have H := hide (pastQ_drew h)
  clear h
  go_enter Try.func12, Try.ntmps12
  go_wp2
  go_region_with (go_at_call 20; refine (exchQ_forth b most m P L0 E y x w.drew H.out hm hE hT).mono ?_; rintro e w1 ⟨rfl, h1, h2⟩; have HF := hide (And.intro h1 h2); clear h1 h2)
  all_goals
    go_wp2
    go_ret2
    exact ⟨rfl, ⟨HF.out.1.os, HF.out.1.tape, HF.out.1.output, HF.out.1.size, HF.out.1.block⟩, HF.out.2⟩
set_option maxRecDepth 100000 in
set_option maxHeartbeats 1000000 in
theorem forthQ_none (b most : Nat) (P : Nat → Prop) (E : List Int) (x : Int) (w : World) (h : PastQ w P b most E []) :
    Calls Try.prog 12 #[.pointer (some ⟨b, 0, none⟩), .int .i64 x] w fun e w' => e = .returned (.tuple #[.int .i64 0, .bool false]) ∧ Kept P w w' ∧ PastQ w' P b most E [] := by
  have HP := hide (pastQ_drew h)
  obtain ⟨⟨vE, vL, hlow, hat0, hown1, hown2, hoff1, hoff2, hoff, hnE, hnL, hall⟩⟩ := h
  obtain ⟨c0, c1, c2, q0, q1, q2⟩ := cells3 hat0
  have HO := hide hown2
  clear hat0 hown1 hown2 q0 q1 q2
  go_enter Try.func12, Try.ntmps12
  go_wp2
  go_region_with (go_at_call 20; refine (exchQ_none b 2 1 0 vL x w.drew HO.out c2).mono ?_; rintro e w1 ⟨rfl, rfl⟩)
  all_goals
    go_wp2
    go_ret2
    exact ⟨rfl, kept_drew (kept_refl P w), HP.out⟩
set_option maxRecDepth 100000 in
set_option maxHeartbeats 1000000 in
theorem manyQ_any (b most : Nat) (P : Nat → Prop) (E L : List Int) (w : World) (h : PastQ w P b most E L) :
    Calls Try.prog 13 #[.pointer (some ⟨b, 0, none⟩)] w fun e w' => e = .returned (.tuple #[.int .i64 E.length, .int .i64 L.length]) ∧ Kept P w w' ∧ PastQ w' P b most E L := by
  have HP := hide (fun n => pastQ_drewN n h)
  obtain ⟨⟨vE, vL, hlow, hat0, hown1, hown2, hoff1, hoff2, hoff, hnE, hnL, hall⟩⟩ := h
  obtain ⟨c0, c1, c2, q0, q1, q2⟩ := cells3 hat0
  obtain ⟨a, c, rfl⟩ := own_slice hown1
  obtain ⟨a', c', rfl⟩ := own_slice hown2
  clear hat0 hown1 hown2 q0 q1 q2
  go_enter Try.func13, Try.ntmps13
  go_wp2
  go_quiet (fail)
  go_wp2
  go_ret2
  exact ⟨rfl, kept_drw (kept_refl P w) _, HP.out _⟩
end Go.Proofs.Ytmckmebkoiglfaa
