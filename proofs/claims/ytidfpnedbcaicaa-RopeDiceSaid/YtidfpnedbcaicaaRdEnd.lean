/- Arguments of layer 3's laws: deeds. No condition. A deed done to a rope and to a text: layer 3's does, an arm at a time. Condition: a text that is not too long. A deed done to a rope and to a text: layer 3's does, Insert. Condition: a text that is not too long. A deed done to a rope and to a text: layer 3's does, Delete. Condition: a text that is not too long. A deed done to a rope and to a text: layer 3's does, Slice. Condition: a text that is not too long. A deed done to a rope and to a text: layer 3's does, Cut. Condition: a text that is not too long. A deed done to a rope and to a text: layer 3's does, Join. Condition: a text that is not too long. A deed done to a rope and to a text: layer 3's does, Count. Condition: a text that is not too long. A deed done to a rope and to a text: layer 3's does, Twin. Condition: a text that is not too long. A deed done to a rope and to a text: layer 3's does, whichever. Condition: a text that is not too long. Layer 3's laws over deeds: are they too much; deeds one behind the other. No condition. -/
import Derived.Test.YtidfpnedbcaicaaArgs
import Derived.Test.YtidfpnedbcaicaaLow
import Derived.Deep.Slices
import Derived.ChangeSame
import Derived.Test.YtidfpnedbcaicaaRopB
import Derived.Test.YtidfpnedbcaicaaRopM
import Derived.Test.YtidfpnedbcaicaaRopeE
namespace Go.Proofs.Ytidfpnedbcaicaa
section
open Go.ChangeShapes Go.WideShapes Go.ChangeAt Go.RowKit Go.Deep
/-- A deed that came in. -/
structure De where
  k : Int
  a : Int
  b : Int
  s : ByteArray
instance : Inhabited De := ⟨⟨0, 0, 0, ⟨#[]⟩⟩⟩
def WfDe (d : De) : Prop := (Lit.int .i64 d.k).wf = true ∧ (Lit.int .i64 d.a).wf = true ∧ (Lit.int .i64 d.b).wf = true ∧ d.s.size ≤ maxLen
def DeCells (w : World) (x : Addr) (i : Nat) (d : De) : Prop :=
  w.cell? (x.add (i * 4)) = some (.int .i64 d.k) ∧ w.cell? (x.add (i * 4 + 1)) = some (.int .i64 d.a) ∧ w.cell? (x.add (i * 4 + 2)) = some (.int .i64 d.b) ∧ w.cell? (x.add (i * 4 + 3)) = some (.string d.s)
/-- The slice reads as l. -/
def DeAt (w : World) (v : Value) (l : List De) : Prop :=
  (v = .slice none 0 0 ∧ l = []) ∨ ∃ x c, v = .slice (some x) l.length c ∧ l.length ≤ c ∧ c ≤ maxLen ∧ ∀ i (h : i < l.length), DeCells w x i l[i]
theorem deat_below {w w' : World} {v : Value} {l : List De} (h : DeAt w v l) (hb : Below w.heap.size w w') : DeAt w' v l := by
  rcases h with h | ⟨x, c, rfl, h1, h2, h3⟩
  · exact .inl h
  · refine .inr ⟨x, c, rfl, h1, h2, fun i hi => ?_⟩
    obtain ⟨c0, c1, c2, c3⟩ := h3 i hi
    exact ⟨cell_later hb c0, cell_later hb c1, cell_later hb c2, cell_later hb c3⟩
theorem deat_len {w : World} {v : Value} {l : List De} (h : DeAt w v l) : ∃ a c, v = .slice a l.length c := by
  rcases h with ⟨rfl, rfl⟩ | ⟨x, c, rfl, _⟩
  · exact ⟨none, 0, rfl⟩
  · exact ⟨some x, c, rfl⟩
theorem deat_long {w : World} {v : Value} {l : List De} (h : DeAt w v l) : l.length ≤ maxLen := by
  rcases h with ⟨_, rfl⟩ | ⟨x, c, _, h1, h2, _⟩
  · simp
  · omega
theorem deat_some {w : World} {v : Value} {l : List De} (h : DeAt w v l) (hp : 0 < l.length) :
    ∃ b off c, v = .slice (some ⟨b, off, none⟩) l.length c ∧ l.length ≤ c ∧ c ≤ maxLen ∧ b < w.heap.size ∧ ∀ i (h : i < l.length), w.cell? ⟨b, off + i * 4, none⟩ = some (.int .i64 l[i].k) ∧ w.cell? ⟨b, off + i * 4 + 1, none⟩ = some (.int .i64 l[i].a) ∧ w.cell? ⟨b, off + i * 4 + 2, none⟩ = some (.int .i64 l[i].b) ∧ w.cell? ⟨b, off + i * 4 + 3, none⟩ = some (.string l[i].s) := by
  rcases h with ⟨rfl, rfl⟩ | ⟨x, c, rfl, h1, h2, h3⟩
  · simp at hp
  · obtain ⟨b, off, spot⟩ := x
    have hc := (h3 0 hp).1
    have hspot : spot = none := by simpa [Addr.add] using World.cell?_spot hc
    subst hspot
    refine ⟨b, off, c, rfl, h1, h2, ?_, fun i hi => ?_⟩
    · have := World.block_lt_of_cell? w _ hc
      rw [addr_add] at this
      exact this
    · have := h3 i hi
      unfold DeCells at this
      simp only [addr_add] at this
      exact this
section
variable {H : Type} {enc : TypeId × Value → H} {W : World} {base : Nat} {held : Bool}
set_option maxRecDepth 100000 in
theorem open_dees {r : Reach} {b0 : Nat} {v : Value} {d : DataW H} {p : List MemPlace} (hv : Value.okWide Try.prog W r b0 23 v) (h : DataW.Trod enc Try.prog W base (fun _ => true) held 23 v d p) :
    ∃ l : List De, DeAt W v l ∧ ∀ d ∈ l, WfDe d := by
  obtain ⟨a, len, cap, rfl⟩ := okWide_slice Try.underlying23 hv
  obtain ⟨fuel, hf⟩ := h
  rcases open_slice Try.underlying23 hf with ⟨hcs, _⟩ | ⟨x, l, c, m, n, D, Pl, hcs, _, hl, hm, hmm, _, hx⟩
  · simp [Value.cells] at hcs
    obtain ⟨rfl, rfl, rfl⟩ := hcs
    exact ⟨[], .inl ⟨rfl, rfl⟩, by simp⟩
  · simp [Value.cells] at hcs
    obtain ⟨rfl, rfl, rfl⟩ := hcs
    have hC : Try.prog.cellsOf 35 = 4 := by kernel_rfl
    have hC1 : Try.prog.cellsOf 3 = 1 := by kernel_rfl
    have hCs : Try.prog.cellsOf 9 = 1 := by kernel_rfl
    have hex : ∀ i, i < len → ∃ d : De, DeCells W x i d ∧ WfDe d := by
      intro i hi
      obtain ⟨cs, h1, h2⟩ := hx i (by simp only [if_true] at hmm; omega)
      rw [hC] at h1
      obtain ⟨_, hlen, hcell⟩ := World.cells?_some h1
      obtain ⟨xs, k, _, _, _, hxl, hg⟩ := DataW.trod_struct Try.underlying35 h2
      match cs, hlen with
      | [v0, v1, v2, v3], _ =>
        have e0 := hcell 0 (by omega)
        have e1 := hcell 1 (by omega)
        have e2 := hcell 2 (by omega)
        have e3 := hcell 3 (by omega)
        rw [add_add] at e0 e1 e2 e3
        match xs, hxl with
        | [y0, y1, y2, y3], _ =>
          have g0 := hg 0 _ rfl
          have g1 := hg 1 _ rfl
          have g2 := hg 2 _ rfl
          have g3 := hg 3 _ rfl
          replace g0 : DataW.trod enc Try.prog W base (fun _ => true) held k 3 (([v0, v1, v2, v3].drop 0).take (Try.prog.cellsOf 3)) = some y0 := g0
          replace g1 : DataW.trod enc Try.prog W base (fun _ => true) held k 3 (([v0, v1, v2, v3].drop 1).take (Try.prog.cellsOf 3)) = some y1 := g1
          replace g2 : DataW.trod enc Try.prog W base (fun _ => true) held k 3 (([v0, v1, v2, v3].drop 2).take (Try.prog.cellsOf 3)) = some y2 := g2
          replace g3 : DataW.trod enc Try.prog W base (fun _ => true) held k 9 (([v0, v1, v2, v3].drop 3).take (Try.prog.cellsOf 9)) = some y3 := g3
          rw [hC1] at g0 g1 g2
          rw [hCs] at g3
          obtain ⟨a0, q0, _, w0⟩ := DataW.trod_int Try.underlying3 g0
          obtain ⟨a1, q1, _, w1⟩ := DataW.trod_int Try.underlying3 g1
          obtain ⟨a2, q2, _, w2⟩ := DataW.trod_int Try.underlying3 g2
          obtain ⟨a3, q3, _, w3⟩ := DataW.trod_string Try.underlying9 g3
          simp at q0 q1 q2 q3
          subst q0 q1 q2 q3
          exact ⟨⟨a0, a1, a2, a3⟩, ⟨by simpa using e0, by simpa using e1, by simpa using e2, by simpa using e3⟩, w0, w1, w2, w3⟩
    obtain ⟨q, hq⟩ := choose_lt hex
    refine ⟨(List.range len).map q, .inr ⟨x, cap, by simp, by simpa using hl, hm, fun i hi => ?_⟩, fun s hs => ?_⟩
    · simp at hi
      simp only [List.getElem_map, List.getElem_range]
      exact (hq i hi).1
    · simp at hs
      obtain ⟨i, hi, rfl⟩ := hs
      exact (hq i hi).2
end
end
section
open Go.ChangeShapes Go.WideShapes Go.ChangeAt Go.RowKit
attribute [local go_sem ↓] Go.wp_at_zero Go.wp_at_succ
attribute [local go_sem] later_cell later_frozen
set_option maxRecDepth 100000
def boxO (k a b : Int) (xs : ByteArray) : Obj := .cells #[.int .i64 k, .int .i64 a, .int .i64 b, .string xs] 35
theorem box_cells {w : World} {B : Nat} {k a b : Int} {xs : ByteArray} (h : w.heap[B]? = some (boxO k a b xs)) : w.cell? ⟨B, 0, none⟩ = some (.int .i64 k) ∧ w.cell? ⟨B, 1, none⟩ = some (.int .i64 a) ∧ w.cell? ⟨B, 2, none⟩ = some (.int .i64 b) ∧ w.cell? ⟨B, 3, none⟩ = some (.string xs) := by
  refine ⟨?_, ?_, ?_, ?_⟩
  all_goals
    rw [Lib.cell_of_heap h]
    rfl
theorem ins_in (x s : ByteArray) (p : Nat) (h : p ≤ x.size) : insT x s (p : Int) = x.extract 0 p ++ s ++ x.extract p x.size := by
  unfold insT
  rw [if_pos (by unfold mayR; rw [if_neg (by omega)])]
  rfl
theorem del_in (x : ByteArray) (p q : Nat) (h : p ≤ q) (h2 : q ≤ x.size) : delT x (p : Int) (q : Int) = x.extract 0 p ++ x.extract q x.size := by
  unfold delT
  rw [if_pos (by unfold mayR; rw [if_neg (by omega)])]
  rfl
theorem slc_in (x : ByteArray) (p q : Nat) (h : p ≤ q) (h2 : q ≤ x.size) : slcT x (p : Int) (q : Int) = x.extract p q := by
  unfold slcT
  rw [if_pos (by unfold mayR; rw [if_neg (by omega)])]
  rfl
theorem ins_out (x s : ByteArray) (A : Int) (h : mayR A A x.size = 3) : insT x s A = x := by unfold insT; rw [if_neg (by rw [h]; decide)]
theorem del_out (x : ByteArray) (A B : Int) (h : mayR A B x.size = 3) : delT x A B = x := by unfold delT; rw [if_neg (by rw [h]; decide)]
theorem slc_out (x : ByteArray) (A B : Int) (h : mayR A B x.size = 3) : slcT x A B = ⟨#[]⟩ := by unfold slcT; rw [if_neg (by rw [h]; decide)]
def DoesPost (w0 : World) (D : List (Nat × Nat)) (d n : Nat) (e : Ending) (w' : World) : Prop := ∃ (s' : ByteArray) (r' : Nat) (t' : T), e = .returned (.tuple #[.string s', .pointer (some ⟨r', 0, none⟩), .bool true]) ∧ s'.size ≤ n ∧ Tx t' s' ∧ Rst w0 w' D [(r', d, t')]
end
section
open Go.ChangeShapes Go.WideShapes Go.ChangeAt Go.RowKit
attribute [local go_sem ↓] Go.wp_at_zero Go.wp_at_succ
attribute [local go_sem] later_cell later_frozen
set_option maxRecDepth 100000
set_option linter.unusedVariables false
set_option maxHeartbeats 8000000 in
theorem does_ins {w0 w : World} {D : List (Nat × Nat)} {r d g : Nat} {t : T} (h : Rst w0 w D [(r, d, t)]) (hd : (d, g) ∈ D) {s : ByteArray} (hx : Tx t s) (k a b : Int) (xs : ByteArray) (hs : s.size + (xs.size + xs.size) ≤ 60000) (hk : lowN k 8 = 0 ∨ lowN k 8 = 1) :
    Calls Try.prog 18 #[.pointer (some ⟨r, 0, none⟩), .pointer (some ⟨d, 0, none⟩), .string s, .agg #[.int .i64 k, .int .i64 a, .int .i64 b, .string xs]] w (DoesPost w0 D d (s.size + (xs.size + xs.size))) := by
  have HX := hide (rst_box h (boxO k a b xs))
  obtain ⟨c0, c1, c2, c3⟩ := box_cells HX.out.at'
  have hba := bl_alloc (bl_refl w) (boxO k a b xs)
  have hbs := HX.out.lt
  unfold boxO at c0 c1 c2 c3 hba hbs
  have HA := hide (fun W => (low_any a (s.size + 3) W (by omega) (by omega) : Calls Try.prog 23 #[.int .i64 a, .int .i64 ((s.size : Int) + 3)] W fun e w' => e = .returned (.int .i64 (lowN a (s.size + 3) : Nat)) ∧ W = w'))
  have HB := hide (fun W => (low_any b (s.size + 3) W (by omega) (by omega) : Calls Try.prog 23 #[.int .i64 b, .int .i64 ((s.size : Int) + 3)] W fun e w' => e = .returned (.int .i64 (lowN b (s.size + 3) : Nat)) ∧ W = w'))
  have hlA := lowN_lt a (s.size + 3) (by omega)
  have hlB := lowN_lt b (s.size + 3) (by omega)
  obtain ⟨pA, hpA⟩ : ∃ p, lowN a (s.size + 3) = p := ⟨_, rfl⟩
  obtain ⟨pB, hpB⟩ : ∃ p, lowN b (s.size + 3) = p := ⟨_, rfl⟩
  rw [hpA] at HA hlA
  rw [hpB] at HB hlB
  obtain ⟨A, hA⟩ : ∃ A : Int, (pA : Int) - 1 = A := ⟨_, rfl⟩
  obtain ⟨B, hB⟩ : ∃ B : Int, (pB : Int) - 1 = B := ⟨_, rfl⟩
  have hwA : IntKind.i64.wrap ((pA : Int) - 1) = A := (IntWalk.i64_in _ (by omega)).trans hA
  have hwB : IntKind.i64.wrap ((pB : Int) - 1) = B := (IntWalk.i64_in _ (by omega)).trans hB
  clear hpA hpB
  rcases hk with hk | hk
  all_goals
    have HK := hide (fun W => (low_any k 8 W (by omega) (by omega)))
    rw [hk] at HK
    rcases mayR_cases A A s.size with ⟨hm, h1, h2, h3⟩ | ⟨hm, h1⟩
    · obtain ⟨p, rfl⟩ : ∃ p : Nat, A = p := ⟨A.toNat, by omega⟩
      have hps : p ≤ s.size := by omega
      have HIN := hide (fun W => inside_any p p s.size W)
      have HI := hide (fun W (hR : RstB w0 W D [(r, d, t)] w.heap.size (boxO k a b xs)) => rst_insB hR hd hx p xs (by omega))
      rw [ins_in _ _ _ hps] at HI
      rw [hm] at HIN HI
      have z1 : (s.extract 0 p ++ xs).size ≤ 60000 := by simp only [ByteArray.size_append, ByteArray.size_extract]; omega
      have z2 : (s.extract 0 p ++ xs ++ s.extract p s.size).size ≤ s.size + (xs.size + xs.size) := by simp only [ByteArray.size_append, ByteArray.size_extract]; omega
      have z3 : (s.extract 0 p ++ xs).size + (s.extract p s.size).size ≤ 60000 := by simp only [ByteArray.size_append, ByteArray.size_extract]; omega
      have z4 : (s.extract 0 p).size + xs.size ≤ 60000 := by simp only [ByteArray.size_extract]; omega
      have Z2 := hide z2
      clear z2 hm h1 h2 h3 hA hB hx h
      go_enter Try.func18, Try.ntmps18
      go_wp2
      refine wp_region_later (by kernel_rfl) (by kernel_rfl) ?_
      repeat (go_big_quiet_step (first
        | (go_at_call_of 23 (Value.int .i64 a); exact later_call_same (HA.out _))
        | (go_at_call_of 23 (Value.int .i64 b); exact later_call_same (HB.out _))
        | exact rfl))
      refine wpQuiet_nil ?_
      rintro w1 ⟨⟨_, hb1⟩, rfl⟩
      have HX := hide (HX.out.bl hb1)
      obtain ⟨c0, c1, c2, c3⟩ := box_cells HX.out.at'
      go_wp2_with fail
      refine (HK.out _).mono ?_
      rintro e w2 ⟨rfl, hw2⟩
      subst hw2
      go_wp2_with fail
      refine (HIN.out _).mono ?_
      rintro e w3 ⟨rfl, hw3⟩
      subst hw3
      go_wp2_with fail
      refine (HI.out _ HX.out).mono ?_
      rintro e w4 ⟨t', rfl, htx, hR⟩
      obtain ⟨c0, c1, c2, c3⟩ := box_cells hR.at'
      have HT := hide htx
      have HR := hide hR.st
      clear htx hR HI HX
      go_wp2
      go_quiet (fail)
      go_wp2
      go_ret3
      exact ⟨_, r, t', rfl, Z2.out, HT.out, HR.out.bl (bl_drewN (bl_refl _) _)⟩
    · have HIN := hide (fun W => inside_any A A s.size W)
      have HI := hide (fun W (hR : RstB w0 W D [(r, d, t)] w.heap.size (boxO k a b xs)) => rst_insB hR hd hx A xs (by omega))
      rw [ins_out _ _ _ hm] at HI
      rw [hm] at HIN HI
      clear hm h1 hA hB hx h
      go_enter Try.func18, Try.ntmps18
      go_wp2
      refine wp_region_later (by kernel_rfl) (by kernel_rfl) ?_
      repeat (go_big_quiet_step (first
        | (go_at_call_of 23 (Value.int .i64 a); exact later_call_same (HA.out _))
        | (go_at_call_of 23 (Value.int .i64 b); exact later_call_same (HB.out _))
        | exact rfl))
      refine wpQuiet_nil ?_
      rintro w1 ⟨⟨_, hb1⟩, rfl⟩
      have HX := hide (HX.out.bl hb1)
      obtain ⟨c0, c1, c2, c3⟩ := box_cells HX.out.at'
      go_wp2_with fail
      refine (HK.out _).mono ?_
      rintro e w2 ⟨rfl, hw2⟩
      subst hw2
      go_wp2_with fail
      refine (HIN.out _).mono ?_
      rintro e w3 ⟨rfl, hw3⟩
      subst hw3
      go_wp2_with fail
      refine (HI.out _ HX.out).mono ?_
      rintro e w4 ⟨t', rfl, htx, hR⟩
      have HT := hide htx
      have HR := hide hR.st
      clear htx hR HI HX
      go_wp2
      go_ret3
      exact ⟨_, r, t', rfl, Nat.le_add_right _ _, HT.out, HR.out⟩
end
section
open Go.ChangeShapes Go.WideShapes Go.ChangeAt Go.RowKit
attribute [local go_sem ↓] Go.wp_at_zero Go.wp_at_succ
attribute [local go_sem] later_cell later_frozen
set_option maxRecDepth 100000
set_option linter.unusedVariables false
set_option maxHeartbeats 8000000 in
theorem does_del {w0 w : World} {D : List (Nat × Nat)} {r d g : Nat} {t : T} (h : Rst w0 w D [(r, d, t)]) (hd : (d, g) ∈ D) {s : ByteArray} (hx : Tx t s) (k a b : Int) (xs : ByteArray) (hs : s.size + (xs.size + xs.size) ≤ 60000) (hk : lowN k 8 = 2) :
    Calls Try.prog 18 #[.pointer (some ⟨r, 0, none⟩), .pointer (some ⟨d, 0, none⟩), .string s, .agg #[.int .i64 k, .int .i64 a, .int .i64 b, .string xs]] w (DoesPost w0 D d (s.size + (xs.size + xs.size))) := by
  have HX := hide (rst_box h (boxO k a b xs))
  obtain ⟨c0, c1, c2, c3⟩ := box_cells HX.out.at'
  have hba := bl_alloc (bl_refl w) (boxO k a b xs)
  have hbs := HX.out.lt
  unfold boxO at c0 c1 c2 c3 hba hbs
  have HA := hide (fun W => (low_any a (s.size + 3) W (by omega) (by omega) : Calls Try.prog 23 #[.int .i64 a, .int .i64 ((s.size : Int) + 3)] W fun e w' => e = .returned (.int .i64 (lowN a (s.size + 3) : Nat)) ∧ W = w'))
  have HB := hide (fun W => (low_any b (s.size + 3) W (by omega) (by omega) : Calls Try.prog 23 #[.int .i64 b, .int .i64 ((s.size : Int) + 3)] W fun e w' => e = .returned (.int .i64 (lowN b (s.size + 3) : Nat)) ∧ W = w'))
  have hlA := lowN_lt a (s.size + 3) (by omega)
  have hlB := lowN_lt b (s.size + 3) (by omega)
  obtain ⟨pA, hpA⟩ : ∃ p, lowN a (s.size + 3) = p := ⟨_, rfl⟩
  obtain ⟨pB, hpB⟩ : ∃ p, lowN b (s.size + 3) = p := ⟨_, rfl⟩
  rw [hpA] at HA hlA
  rw [hpB] at HB hlB
  obtain ⟨A, hA⟩ : ∃ A : Int, (pA : Int) - 1 = A := ⟨_, rfl⟩
  obtain ⟨B, hB⟩ : ∃ B : Int, (pB : Int) - 1 = B := ⟨_, rfl⟩
  have hwA : IntKind.i64.wrap ((pA : Int) - 1) = A := (IntWalk.i64_in _ (by omega)).trans hA
  have hwB : IntKind.i64.wrap ((pB : Int) - 1) = B := (IntWalk.i64_in _ (by omega)).trans hB
  clear hpA hpB
  have HK := hide (fun W => (low_any k 8 W (by omega) (by omega)))
  rw [hk] at HK
  rcases mayR_cases A B s.size with ⟨hm, h1, h2, h3⟩ | ⟨hm, h1⟩
  · obtain ⟨p, rfl⟩ : ∃ p : Nat, A = p := ⟨A.toNat, by omega⟩
    obtain ⟨q, rfl⟩ : ∃ q : Nat, B = q := ⟨B.toNat, by omega⟩
    have hpq : p ≤ q := by omega
    have hqs : q ≤ s.size := by omega
    have hps : p ≤ s.size := by omega
    have HIN := hide (fun W => inside_any p q s.size W)
    have HI := hide (fun W (hR : Rst w0 W D [(r, d, t)]) => rst_del hR hd hx p q (by omega))
    rw [del_in _ _ _ hpq hqs] at HI
    rw [hm] at HIN HI
    have z2 : (s.extract 0 p ++ s.extract q s.size).size ≤ s.size + (xs.size + xs.size) := by simp only [ByteArray.size_append, ByteArray.size_extract]; omega
    have z3 : (s.extract 0 p).size + (s.extract q s.size).size ≤ 60000 := by simp only [ByteArray.size_extract]; omega
    have Z2 := hide z2
    clear z2 hm h1 h2 h3 hA hB hx h
    go_enter Try.func18, Try.ntmps18
    go_wp2
    refine wp_region_later (by kernel_rfl) (by kernel_rfl) ?_
    repeat (go_big_quiet_step (first
      | (go_at_call_of 23 (Value.int .i64 a); exact later_call_same (HA.out _))
      | (go_at_call_of 23 (Value.int .i64 b); exact later_call_same (HB.out _))
      | exact rfl))
    refine wpQuiet_nil ?_
    rintro w1 ⟨⟨_, hb1⟩, rfl⟩
    have HX := hide (HX.out.bl hb1)
    obtain ⟨c0, c1, c2, c3⟩ := box_cells HX.out.at'
    go_wp2_with fail
    refine (HK.out _).mono ?_
    rintro e w2 ⟨rfl, hw2⟩
    subst hw2
    go_wp2_with fail
    refine (HIN.out _).mono ?_
    rintro e w3 ⟨rfl, hw3⟩
    subst hw3
    go_wp2_with fail
    refine (HI.out _ HX.out.st).mono ?_
    rintro e w4 ⟨t', rfl, htx, hR⟩
    have HT := hide htx
    have HR := hide hR
    clear htx hR HI HX
    go_wp2
    go_quiet (fail)
    go_wp2
    go_ret3
    exact ⟨_, r, t', rfl, Z2.out, HT.out, HR.out.bl (bl_drewN (bl_refl _) _)⟩
  · have HIN := hide (fun W => inside_any A B s.size W)
    have HI := hide (fun W (hR : Rst w0 W D [(r, d, t)]) => rst_del hR hd hx A B (by omega))
    rw [del_out _ _ _ hm] at HI
    rw [hm] at HIN HI
    clear hm h1 hA hB hx h
    go_enter Try.func18, Try.ntmps18
    go_wp2
    refine wp_region_later (by kernel_rfl) (by kernel_rfl) ?_
    repeat (go_big_quiet_step (first
      | (go_at_call_of 23 (Value.int .i64 a); exact later_call_same (HA.out _))
      | (go_at_call_of 23 (Value.int .i64 b); exact later_call_same (HB.out _))
      | exact rfl))
    refine wpQuiet_nil ?_
    rintro w1 ⟨⟨_, hb1⟩, rfl⟩
    have HX := hide (HX.out.bl hb1)
    obtain ⟨c0, c1, c2, c3⟩ := box_cells HX.out.at'
    go_wp2_with fail
    refine (HK.out _).mono ?_
    rintro e w2 ⟨rfl, hw2⟩
    subst hw2
    go_wp2_with fail
    refine (HIN.out _).mono ?_
    rintro e w3 ⟨rfl, hw3⟩
    subst hw3
    go_wp2_with fail
    refine (HI.out _ HX.out.st).mono ?_
    rintro e w4 ⟨t', rfl, htx, hR⟩
    have HT := hide htx
    have HR := hide hR
    clear htx hR HI HX
    go_wp2
    go_ret3
    exact ⟨_, r, t', rfl, Nat.le_add_right _ _, HT.out, HR.out⟩
end
section
open Go.ChangeShapes Go.WideShapes Go.ChangeAt Go.RowKit
attribute [local go_sem ↓] Go.wp_at_zero Go.wp_at_succ
attribute [local go_sem] later_cell later_frozen
set_option maxRecDepth 100000
set_option linter.unusedVariables false
set_option maxHeartbeats 8000000 in
theorem does_slc {w0 w : World} {D : List (Nat × Nat)} {r d g : Nat} {t : T} (h : Rst w0 w D [(r, d, t)]) (hd : (d, g) ∈ D) {s : ByteArray} (hx : Tx t s) (k a b : Int) (xs : ByteArray) (hs : s.size + (xs.size + xs.size) ≤ 60000) (hk : lowN k 8 = 3) :
    Calls Try.prog 18 #[.pointer (some ⟨r, 0, none⟩), .pointer (some ⟨d, 0, none⟩), .string s, .agg #[.int .i64 k, .int .i64 a, .int .i64 b, .string xs]] w (DoesPost w0 D d (s.size + (xs.size + xs.size))) := by
  have HX := hide (rst_box h (boxO k a b xs))
  obtain ⟨c0, c1, c2, c3⟩ := box_cells HX.out.at'
  have hba := bl_alloc (bl_refl w) (boxO k a b xs)
  have hbs := HX.out.lt
  unfold boxO at c0 c1 c2 c3 hba hbs
  have HA := hide (fun W => (low_any a (s.size + 3) W (by omega) (by omega) : Calls Try.prog 23 #[.int .i64 a, .int .i64 ((s.size : Int) + 3)] W fun e w' => e = .returned (.int .i64 (lowN a (s.size + 3) : Nat)) ∧ W = w'))
  have HB := hide (fun W => (low_any b (s.size + 3) W (by omega) (by omega) : Calls Try.prog 23 #[.int .i64 b, .int .i64 ((s.size : Int) + 3)] W fun e w' => e = .returned (.int .i64 (lowN b (s.size + 3) : Nat)) ∧ W = w'))
  have hlA := lowN_lt a (s.size + 3) (by omega)
  have hlB := lowN_lt b (s.size + 3) (by omega)
  obtain ⟨pA, hpA⟩ : ∃ p, lowN a (s.size + 3) = p := ⟨_, rfl⟩
  obtain ⟨pB, hpB⟩ : ∃ p, lowN b (s.size + 3) = p := ⟨_, rfl⟩
  rw [hpA] at HA hlA
  rw [hpB] at HB hlB
  obtain ⟨A, hA⟩ : ∃ A : Int, (pA : Int) - 1 = A := ⟨_, rfl⟩
  obtain ⟨B, hB⟩ : ∃ B : Int, (pB : Int) - 1 = B := ⟨_, rfl⟩
  have hwA : IntKind.i64.wrap ((pA : Int) - 1) = A := (IntWalk.i64_in _ (by omega)).trans hA
  have hwB : IntKind.i64.wrap ((pB : Int) - 1) = B := (IntWalk.i64_in _ (by omega)).trans hB
  clear hpA hpB
  have HK := hide (fun W => (low_any k 8 W (by omega) (by omega)))
  rw [hk] at HK
  rcases mayR_cases A B s.size with ⟨hm, h1, h2, h3⟩ | ⟨hm, h1⟩
  · obtain ⟨p, rfl⟩ : ∃ p : Nat, A = p := ⟨A.toNat, by omega⟩
    obtain ⟨q, rfl⟩ : ∃ q : Nat, B = q := ⟨B.toNat, by omega⟩
    have hpq : p ≤ q := by omega
    have hqs : q ≤ s.size := by omega
    have HIN := hide (fun W => inside_any p q s.size W)
    have HI := hide (fun W (hR : Rst w0 W D [(r, d, t)]) => rst_slc hR (r := r) (d := d) (t := t) (by simp) hx p q (by omega))
    rw [slc_in _ _ _ hpq hqs] at HI
    rw [hm] at HIN HI
    have HT := hide hx
    clear hm h1 h2 h3 hA hB hx h
    go_enter Try.func18, Try.ntmps18
    go_wp2
    refine wp_region_later (by kernel_rfl) (by kernel_rfl) ?_
    repeat (go_big_quiet_step (first
      | (go_at_call_of 23 (Value.int .i64 a); exact later_call_same (HA.out _))
      | (go_at_call_of 23 (Value.int .i64 b); exact later_call_same (HB.out _))
      | exact rfl))
    refine wpQuiet_nil ?_
    rintro w1 ⟨⟨_, hb1⟩, rfl⟩
    have HX := hide (HX.out.bl hb1)
    obtain ⟨c0, c1, c2, c3⟩ := box_cells HX.out.at'
    go_wp2_with fail
    refine (HK.out _).mono ?_
    rintro e w2 ⟨rfl, hw2⟩
    subst hw2
    go_wp2_with fail
    refine (HIN.out _).mono ?_
    rintro e w3 ⟨rfl, hw3⟩
    subst hw3
    go_wp2_with fail
    refine (HI.out _ HX.out.st).mono ?_
    rintro e w4 ⟨rfl, hb4⟩
    have HR := hide (HX.out.st.bl hb4)
    clear HI HX
    go_wp2
    go_ret3
    exact ⟨_, r, t, rfl, Nat.le_add_right _ _, HT.out, HR.out⟩
  · have HIN := hide (fun W => inside_any A B s.size W)
    have HI := hide (fun W (hR : Rst w0 W D [(r, d, t)]) => rst_slc hR (r := r) (d := d) (t := t) (by simp) hx A B (by omega))
    rw [slc_out _ _ _ hm] at HI
    rw [hm] at HIN HI
    have HT := hide hx
    clear hm h1 hA hB hx h
    go_enter Try.func18, Try.ntmps18
    go_wp2
    refine wp_region_later (by kernel_rfl) (by kernel_rfl) ?_
    repeat (go_big_quiet_step (first
      | (go_at_call_of 23 (Value.int .i64 a); exact later_call_same (HA.out _))
      | (go_at_call_of 23 (Value.int .i64 b); exact later_call_same (HB.out _))
      | exact rfl))
    refine wpQuiet_nil ?_
    rintro w1 ⟨⟨_, hb1⟩, rfl⟩
    have HX := hide (HX.out.bl hb1)
    obtain ⟨c0, c1, c2, c3⟩ := box_cells HX.out.at'
    go_wp2_with fail
    refine (HK.out _).mono ?_
    rintro e w2 ⟨rfl, hw2⟩
    subst hw2
    go_wp2_with fail
    refine (HIN.out _).mono ?_
    rintro e w3 ⟨rfl, hw3⟩
    subst hw3
    go_wp2_with fail
    refine (HI.out _ HX.out.st).mono ?_
    rintro e w4 ⟨rfl, hb4⟩
    have HR := hide (HX.out.st.bl hb4)
    clear HI HX
    go_wp2
    go_ret3
    exact ⟨_, r, t, rfl, Nat.le_add_right _ _, HT.out, HR.out⟩
end
section
open Go.ChangeShapes Go.WideShapes Go.ChangeAt Go.RowKit
attribute [local go_sem ↓] Go.wp_at_zero Go.wp_at_succ
attribute [local go_sem] later_cell later_frozen
set_option maxRecDepth 100000
set_option linter.unusedVariables false
set_option maxHeartbeats 8000000 in
theorem does_cut {w0 w : World} {D : List (Nat × Nat)} {r d g : Nat} {t : T} (h : Rst w0 w D [(r, d, t)]) (hd : (d, g) ∈ D) {s : ByteArray} (hx : Tx t s) (k a b : Int) (xs : ByteArray) (hs : s.size + (xs.size + xs.size) ≤ 60000) (hk : lowN k 8 = 4) :
    Calls Try.prog 18 #[.pointer (some ⟨r, 0, none⟩), .pointer (some ⟨d, 0, none⟩), .string s, .agg #[.int .i64 k, .int .i64 a, .int .i64 b, .string xs]] w (DoesPost w0 D d (s.size + (xs.size + xs.size))) := by
  have HX := hide (rst_box h (boxO k a b xs))
  obtain ⟨c0, c1, c2, c3⟩ := box_cells HX.out.at'
  have hba := bl_alloc (bl_refl w) (boxO k a b xs)
  have hbs := HX.out.lt
  unfold boxO at c0 c1 c2 c3 hba hbs
  have HA := hide (fun W => (low_any a (s.size + 3) W (by omega) (by omega) : Calls Try.prog 23 #[.int .i64 a, .int .i64 ((s.size : Int) + 3)] W fun e w' => e = .returned (.int .i64 (lowN a (s.size + 3) : Nat)) ∧ W = w'))
  have HB := hide (fun W => (low_any b (s.size + 3) W (by omega) (by omega) : Calls Try.prog 23 #[.int .i64 b, .int .i64 ((s.size : Int) + 3)] W fun e w' => e = .returned (.int .i64 (lowN b (s.size + 3) : Nat)) ∧ W = w'))
  have hlA := lowN_lt a (s.size + 3) (by omega)
  have hlB := lowN_lt b (s.size + 3) (by omega)
  obtain ⟨pA, hpA⟩ : ∃ p, lowN a (s.size + 3) = p := ⟨_, rfl⟩
  obtain ⟨pB, hpB⟩ : ∃ p, lowN b (s.size + 3) = p := ⟨_, rfl⟩
  rw [hpA] at HA hlA
  rw [hpB] at HB hlB
  obtain ⟨A, hA⟩ : ∃ A : Int, (pA : Int) - 1 = A := ⟨_, rfl⟩
  obtain ⟨B, hB⟩ : ∃ B : Int, (pB : Int) - 1 = B := ⟨_, rfl⟩
  have hwA : IntKind.i64.wrap ((pA : Int) - 1) = A := (IntWalk.i64_in _ (by omega)).trans hA
  have hwB : IntKind.i64.wrap ((pB : Int) - 1) = B := (IntWalk.i64_in _ (by omega)).trans hB
  clear hpA hpB
  have HK := hide (fun W => (low_any k 8 W (by omega) (by omega)))
  rw [hk] at HK
  rcases mayR_cases A A s.size with ⟨hm, h1, h2, h3⟩ | ⟨hm, h1⟩
  · obtain ⟨p, rfl⟩ : ∃ p : Nat, A = p := ⟨A.toNat, by omega⟩
    have hps : p ≤ s.size := by omega
    have HIN := hide (fun W => inside_any p p s.size W)
    have HI := hide (fun W (hR : Rst w0 W D [(r, d, t)]) => rst_cut hR hd hx p hps (by omega))
    rw [hm] at HIN
    have z1 : (s.extract 0 p).size ≤ 60000 := by simp only [ByteArray.size_extract]; omega
    have z2 : (s.extract p s.size).size ≤ 60000 := by simp only [ByteArray.size_extract]; omega
    have z3 : (s.extract 0 p).size + (s.extract p s.size).size ≤ 65536 := by simp only [ByteArray.size_extract]; omega
    have e1 : s.extract 0 p ++ s.extract p s.size = s := str_ext (by rw [app_list, ext_take, ext_drop, List.take_append_drop])
    have HD := hide hd
    clear hm h1 h2 h3 hA hB hx h
    go_enter Try.func18, Try.ntmps18
    go_wp2
    refine wp_region_later (by kernel_rfl) (by kernel_rfl) ?_
    repeat (go_big_quiet_step (first
      | (go_at_call_of 23 (Value.int .i64 a); exact later_call_same (HA.out _))
      | (go_at_call_of 23 (Value.int .i64 b); exact later_call_same (HB.out _))
      | exact rfl))
    refine wpQuiet_nil ?_
    rintro w1 ⟨⟨_, hb1⟩, rfl⟩
    have HX := hide (HX.out.bl hb1)
    obtain ⟨c0, c1, c2, c3⟩ := box_cells HX.out.at'
    go_wp2_with fail
    refine (HK.out _).mono ?_
    rintro e w2 ⟨rfl, hw2⟩
    subst hw2
    go_wp2_with fail
    refine (HI.out _ HX.out.st).mono ?_
    rintro e w3 ⟨o, u, v, rfl, hor, htu, htv, hR⟩
    have HU := hide htu
    have HV := hide htv
    have HR := hide hR
    clear htu htv hR HI HX
    go_wp2_with fail
    refine (HIN.out _).mono ?_
    rintro e w4 ⟨rfl, hw4⟩
    subst hw4
    have hT1 := hide (fun W (hb : Below w3.heap.size w3 W) => (rst_text (HR.out.bl hb) (r := r) (d := d) (t := u) (by simp) HU.out (by omega)).mono fun e w' (hh : e = _ ∧ _ ∧ _) => (⟨hh.1, hh.2.1⟩ : e = _ ∧ _))
    have hT2 := hide (fun W (hb : Below w3.heap.size w3 W) => (rst_text (HR.out.bl hb) (r := o) (d := d) (t := v) (by simp) HV.out (by omega)).mono fun e w' (hh : e = _ ∧ _ ∧ _) => (⟨hh.1, hh.2.1⟩ : e = _ ∧ _))
    have hT3 := hide (fun W (hb : Below w3.heap.size w3 W) => (rst_whole (HR.out.bl hb) (r := r) (d := d) (t := u) (by simp) HU.out (by omega)).mono fun e w' (hh : e = _ ∧ _ ∧ _) => (⟨hh.1, hh.2.1⟩ : e = _ ∧ _))
    have hT4 := hide (fun W (hb : Below w3.heap.size w3 W) => (rst_whole (HR.out.bl hb) (r := o) (d := d) (t := v) (by simp) HV.out (by omega)).mono fun e w' (hh : e = _ ∧ _ ∧ _) => (⟨hh.1, hh.2.1⟩ : e = _ ∧ _))
    go_wp2
    refine wp_region_later (by kernel_rfl) (by kernel_rfl) ?_
    repeat (go_big_quiet_step (first
      | (go_at_call_of 21 (Value.pointer (some ⟨r, 0, none⟩)); exact later_call (hT3.out _ (Later.below _)))
      | (go_at_call_of 21 (Value.pointer (some ⟨o, 0, none⟩)); exact later_call (hT4.out _ (Later.below _)))
      | (go_at_call_of 19 (Value.pointer (some ⟨r, 0, none⟩)); exact later_call (hT1.out _ (Later.below _)))
      | (go_at_call_of 19 (Value.pointer (some ⟨o, 0, none⟩)); exact later_call (hT2.out _ (Later.below _)))
      | exact rfl))
    refine wpQuiet_nil ?_
    rintro w5 ⟨⟨_, hb5⟩, rfl⟩
    have HJ := hide (rst_join (HR.out.bl hb5).swap HD.out HU.out HV.out z3)
    rw [e1] at HJ
    clear hT1 hT2 hT3 hT4 HR HU HV
    go_wp2_with fail
    refine HJ.out.mono ?_
    rintro e w6 ⟨t', rfl, htx, hR⟩
    have HT := hide htx
    have HR := hide hR
    have HL := hide (rst_len hR (r := o) (d := d) (t := .nil) (x := ⟨#[]⟩) (by simp) rfl)
    have HTX := hide (rst_text hR (r := o) (d := d) (t := .nil) (x := ⟨#[]⟩) (by simp) rfl (by decide))
    clear htx hR HJ
    go_wp2_with fail
    refine HL.out.mono ?_
    rintro e w7 ⟨rfl, hw7⟩
    subst hw7
    go_wp2_with fail
    refine HTX.out.mono ?_
    rintro e w8 ⟨rfl, _, hR⟩
    have HR := hide hR
    clear hR HTX
    go_wp2
    go_ret3
    exact ⟨_, r, t', rfl, Nat.le_add_right _ _, HT.out, HR.out.swap.drop⟩
  · have HIN := hide (fun W => inside_any A A s.size W)
    rw [hm] at HIN
    have HI := hide (fun W (hR : Rst w0 W D [(r, d, t)]) => cut_no (hR.rp (r, d, t) (by simp)) (hR.at' (q := (r, d, t)) (by simp)).1 A (by rw [hx.len]; omega))
    have HT := hide hx
    clear hm h1 hA hB hx h
    go_enter Try.func18, Try.ntmps18
    go_wp2
    refine wp_region_later (by kernel_rfl) (by kernel_rfl) ?_
    repeat (go_big_quiet_step (first
      | (go_at_call_of 23 (Value.int .i64 a); exact later_call_same (HA.out _))
      | (go_at_call_of 23 (Value.int .i64 b); exact later_call_same (HB.out _))
      | exact rfl))
    refine wpQuiet_nil ?_
    rintro w1 ⟨⟨_, hb1⟩, rfl⟩
    have HX := hide (HX.out.bl hb1)
    obtain ⟨c0, c1, c2, c3⟩ := box_cells HX.out.at'
    go_wp2_with fail
    refine (HK.out _).mono ?_
    rintro e w2 ⟨rfl, hw2⟩
    subst hw2
    go_wp2_with fail
    refine (HI.out _ HX.out.st).mono ?_
    rintro e w3 ⟨rfl, hw3⟩
    subst hw3
    go_wp2_with fail
    refine (HIN.out _).mono ?_
    rintro e w4 ⟨rfl, hw4⟩
    subst hw4
    have HR := hide HX.out.st
    clear HI HX
    go_wp2
    go_ret3
    exact ⟨_, r, t, rfl, Nat.le_add_right _ _, HT.out, HR.out⟩
end
section
open Go.ChangeShapes Go.WideShapes Go.ChangeAt Go.RowKit
attribute [local go_sem ↓] Go.wp_at_zero Go.wp_at_succ
attribute [local go_sem] later_cell later_frozen
set_option maxRecDepth 100000
set_option linter.unusedVariables false
set_option maxHeartbeats 8000000 in
theorem does_join {w0 w : World} {D : List (Nat × Nat)} {r d g : Nat} {t : T} (h : Rst w0 w D [(r, d, t)]) (hd : (d, g) ∈ D) {s : ByteArray} (hx : Tx t s) (k a b : Int) (xs : ByteArray) (hs : s.size + (xs.size + xs.size) ≤ 60000) (hk : lowN k 8 = 5) :
    Calls Try.prog 18 #[.pointer (some ⟨r, 0, none⟩), .pointer (some ⟨d, 0, none⟩), .string s, .agg #[.int .i64 k, .int .i64 a, .int .i64 b, .string xs]] w (DoesPost w0 D d (s.size + (xs.size + xs.size))) := by
  have HX := hide (rst_box h (boxO k a b xs))
  obtain ⟨c0, c1, c2, c3⟩ := box_cells HX.out.at'
  have hba := bl_alloc (bl_refl w) (boxO k a b xs)
  have hbs := HX.out.lt
  unfold boxO at c0 c1 c2 c3 hba hbs
  have HA := hide (fun W => (low_any a (s.size + 3) W (by omega) (by omega) : Calls Try.prog 23 #[.int .i64 a, .int .i64 ((s.size : Int) + 3)] W fun e w' => e = .returned (.int .i64 (lowN a (s.size + 3) : Nat)) ∧ W = w'))
  have HB := hide (fun W => (low_any b (s.size + 3) W (by omega) (by omega) : Calls Try.prog 23 #[.int .i64 b, .int .i64 ((s.size : Int) + 3)] W fun e w' => e = .returned (.int .i64 (lowN b (s.size + 3) : Nat)) ∧ W = w'))
  have hlA := lowN_lt a (s.size + 3) (by omega)
  have hlB := lowN_lt b (s.size + 3) (by omega)
  obtain ⟨pA, hpA⟩ : ∃ p, lowN a (s.size + 3) = p := ⟨_, rfl⟩
  obtain ⟨pB, hpB⟩ : ∃ p, lowN b (s.size + 3) = p := ⟨_, rfl⟩
  rw [hpA] at HA hlA
  rw [hpB] at HB hlB
  obtain ⟨A, hA⟩ : ∃ A : Int, (pA : Int) - 1 = A := ⟨_, rfl⟩
  obtain ⟨B, hB⟩ : ∃ B : Int, (pB : Int) - 1 = B := ⟨_, rfl⟩
  have hwA : IntKind.i64.wrap ((pA : Int) - 1) = A := (IntWalk.i64_in _ (by omega)).trans hA
  have hwB : IntKind.i64.wrap ((pB : Int) - 1) = B := (IntWalk.i64_in _ (by omega)).trans hB
  clear hpA hpB
  have HK := hide (fun W => (low_any k 8 W (by omega) (by omega)))
  rw [hk] at HK
  have z1 : s.size + (xs ++ xs).size ≤ 65536 := by rw [ByteArray.size_append]; omega
  have z2 : s.size + xs.size ≤ 60000 := by omega
  have z3 : (s ++ xs).size + xs.size ≤ 60000 := by rw [ByteArray.size_append]; omega
  have z4 : (s ++ xs ++ xs).size ≤ s.size + (xs.size + xs.size) := by simp only [ByteArray.size_append]; omega
  have Z4 := hide z4
  have HE := hide (ByteArray.append_assoc (a := s) (b := xs) (c := xs)).symm
  have HD := hide hd
  have HS := hide hx
  clear z4 hA hB hx h
  go_enter Try.func18, Try.ntmps18
  go_wp2
  refine wp_region_later (by kernel_rfl) (by kernel_rfl) ?_
  repeat (go_big_quiet_step (first
    | (go_at_call_of 23 (Value.int .i64 a); exact later_call_same (HA.out _))
    | (go_at_call_of 23 (Value.int .i64 b); exact later_call_same (HB.out _))
    | exact rfl))
  refine wpQuiet_nil ?_
  rintro w1 ⟨⟨_, hb1⟩, rfl⟩
  have HX := hide (HX.out.bl hb1)
  obtain ⟨c0, c1, c2, c3⟩ := box_cells HX.out.at'
  go_wp2_with fail
  refine (HK.out _).mono ?_
  rintro e w2 ⟨rfl, hw2⟩
  subst hw2
  have HN := hide (rst_new2B HX.out hd xs xs (by omega))
  clear HX
  go_wp2_with fail
  refine HN.out.mono ?_
  rintro e w3 ⟨o, v, rfl, _, htv, hR⟩
  obtain ⟨c0, c1, c2, c3⟩ := box_cells hR.at'
  have HJ := hide (rst_joinB hR.swap HD.out HS.out htv z1)
  clear htv hR HN
  go_wp2_with fail
  refine HJ.out.mono ?_
  rintro e w4 ⟨t', rfl, htx, hR⟩
  have HT := hide htx
  have hTX := rst_text hR.st (r := o) (d := d) (t := .nil) (x := ⟨#[]⟩) (by simp) rfl (by decide)
  have HTX := hide hTX
  have HX := hide hR
  clear htx hR HJ hTX
  go_wp2_with fail
  refine HTX.out.mono ?_
  rintro e w5 ⟨rfl, hb5, hR⟩
  have HR := hide hR
  obtain ⟨c0, c1, c2, c3⟩ := box_cells (HX.out.bl hb5).at'
  clear hR HTX HX
  go_wp2
  go_ret3
  exact ⟨_, r, t', rfl, Z4.out, HE.out ▸ HT.out, HR.out.swap.drop⟩
end
section
open Go.ChangeShapes Go.WideShapes Go.ChangeAt Go.RowKit
attribute [local go_sem ↓] Go.wp_at_zero Go.wp_at_succ
attribute [local go_sem] later_cell later_frozen
set_option maxRecDepth 100000
set_option linter.unusedVariables false
theorem eql_tal (a b c d : Int) (w : World) : (binOp .eql 46 (.agg #[.int .i64 a, .int .i64 b, .int .i64 c, .int .i64 d]) (.agg #[.int .i64 a, .int .i64 b, .int .i64 c, .int .i64 d])).run Try.prog w = .ok (.bool true) w := by
  go_simp
theorem eqg_tal (p q : Operand) (a b c d : Int) (w : World) : (eqGuard .eql 46 p q (.agg #[.int .i64 a, .int .i64 b, .int .i64 c, .int .i64 d]) (.agg #[.int .i64 a, .int .i64 b, .int .i64 c, .int .i64 d])).run Try.prog w = .ok () w :=
  run_eqGuard_agg _ _ _ _ _ _ _ (by kernel_rfl)
attribute [local go_sem] eql_tal eqg_tal
set_option maxHeartbeats 8000000 in
theorem does_cnt {w0 w : World} {D : List (Nat × Nat)} {r d g : Nat} {t : T} (h : Rst w0 w D [(r, d, t)]) (hd : (d, g) ∈ D) {s : ByteArray} (hx : Tx t s) (k a b : Int) (xs : ByteArray) (hs : s.size + (xs.size + xs.size) ≤ 60000) (hk : lowN k 8 = 6) :
    Calls Try.prog 18 #[.pointer (some ⟨r, 0, none⟩), .pointer (some ⟨d, 0, none⟩), .string s, .agg #[.int .i64 k, .int .i64 a, .int .i64 b, .string xs]] w (DoesPost w0 D d (s.size + (xs.size + xs.size))) := by
  have HX := hide (rst_box h (boxO k a b xs))
  obtain ⟨c0, c1, c2, c3⟩ := box_cells HX.out.at'
  have hba := bl_alloc (bl_refl w) (boxO k a b xs)
  have hbs := HX.out.lt
  unfold boxO at c0 c1 c2 c3 hba hbs
  have HA := hide (fun W => (low_any a (s.size + 3) W (by omega) (by omega) : Calls Try.prog 23 #[.int .i64 a, .int .i64 ((s.size : Int) + 3)] W fun e w' => e = .returned (.int .i64 (lowN a (s.size + 3) : Nat)) ∧ W = w'))
  have HB := hide (fun W => (low_any b (s.size + 3) W (by omega) (by omega) : Calls Try.prog 23 #[.int .i64 b, .int .i64 ((s.size : Int) + 3)] W fun e w' => e = .returned (.int .i64 (lowN b (s.size + 3) : Nat)) ∧ W = w'))
  have hlA := lowN_lt a (s.size + 3) (by omega)
  have hlB := lowN_lt b (s.size + 3) (by omega)
  obtain ⟨pA, hpA⟩ : ∃ p, lowN a (s.size + 3) = p := ⟨_, rfl⟩
  obtain ⟨pB, hpB⟩ : ∃ p, lowN b (s.size + 3) = p := ⟨_, rfl⟩
  rw [hpA] at HA hlA
  rw [hpB] at HB hlB
  obtain ⟨A, hA⟩ : ∃ A : Int, (pA : Int) - 1 = A := ⟨_, rfl⟩
  obtain ⟨B, hB⟩ : ∃ B : Int, (pB : Int) - 1 = B := ⟨_, rfl⟩
  have hwA : IntKind.i64.wrap ((pA : Int) - 1) = A := (IntWalk.i64_in _ (by omega)).trans hA
  have hwB : IntKind.i64.wrap ((pB : Int) - 1) = B := (IntWalk.i64_in _ (by omega)).trans hB
  clear hpA hpB
  have HK := hide (fun W => (low_any k 8 W (by omega) (by omega)))
  rw [hk] at HK
  rcases mayR_cases A A s.size with ⟨hm, h1, h2, h3⟩ | ⟨hm, h1⟩
  · obtain ⟨p, rfl⟩ : ∃ p : Nat, A = p := ⟨A.toNat, by omega⟩
    have hps : p ≤ s.size := by omega
    have HIN := hide (fun W => inside_any p p s.size W)
    have hm0 : mayR 0 (p : Int) s.size = 0 := by unfold mayR; rw [if_neg (by omega)]
    have HI := hide (fun W (hR : Rst w0 W D [(r, d, t)]) => rst_cnt hR (r := r) (d := d) (t := t) (by simp) hx p (by omega))
    rw [hm] at HIN
    rw [hm0] at HI
    have HM := hide hm0
    have HT := hide hx
    clear hm hm0 h1 h2 h3 hA hB hx h
    go_enter Try.func18, Try.ntmps18
    go_wp2
    refine wp_region_later (by kernel_rfl) (by kernel_rfl) ?_
    repeat (go_big_quiet_step (first
      | (go_at_call_of 23 (Value.int .i64 a); exact later_call_same (HA.out _))
      | (go_at_call_of 23 (Value.int .i64 b); exact later_call_same (HB.out _))
      | exact rfl))
    refine wpQuiet_nil ?_
    rintro w1 ⟨⟨_, hb1⟩, rfl⟩
    have HX := hide (HX.out.bl hb1)
    obtain ⟨c0, c1, c2, c3⟩ := box_cells HX.out.at'
    go_wp2_with fail
    refine (HK.out _).mono ?_
    rintro e w2 ⟨rfl, hw2⟩
    subst hw2
    go_wp2_with fail
    refine (HI.out _ HX.out.st).mono ?_
    rintro e w3 ⟨v0, v1, v2, v3, hv, rfl, hb3⟩
    have HOF := hide (fun W => of_any (s.extract 0 p) W (by simp only [ByteArray.size_extract]; omega))
    rw [show talOf (s.extract 0 p).data.toList = _ from hv.1 HM.out] at HOF
    have HX := hide (HX.out.st.bl hb3)
    clear hv HI
    go_wp2_with fail
    refine (HIN.out _).mono ?_
    rintro e w4 ⟨rfl, hw4⟩
    subst hw4
    go_wp2
    refine wp_region_later (by kernel_rfl) (by kernel_rfl) ?_
    repeat (go_big_quiet_step (first
      | (go_at_call 37; exact later_call (HOF.out _))
      | exact rfl))
    refine wpQuiet_nil ?_
    rintro w5 ⟨⟨_, hb5⟩, rfl⟩
    go_wp2
    go_ret3
    exact ⟨_, r, t, rfl, Nat.le_add_right _ _, HT.out, HX.out.bl (bl_trans (by first | exact bl_alloc (bl_refl _) _ | exact bl_set (bl_alloc (bl_refl _) _) (Nat.le_refl _) _ | exact (by repeat (first | exact bl_refl _ | assumption | refine bl_alloc ?_ _ | refine bl_drewN ?_ _ | refine bl_drew ?_ | refine bl_trans ?_ (by assumption)))) hb5)⟩
  · have HIN := hide (fun W => inside_any A A s.size W)
    have hm0 : mayR 0 A s.size = 3 := by unfold mayR; rw [if_pos (by omega)]
    have HI := hide (fun W (hR : Rst w0 W D [(r, d, t)]) => rst_cnt hR (r := r) (d := d) (t := t) (by simp) hx A (by omega))
    rw [hm] at HIN
    rw [hm0] at HI
    have HM := hide hm0
    have HT := hide hx
    clear hm hm0 h1 hA hB hx h
    go_enter Try.func18, Try.ntmps18
    go_wp2
    refine wp_region_later (by kernel_rfl) (by kernel_rfl) ?_
    repeat (go_big_quiet_step (first
      | (go_at_call_of 23 (Value.int .i64 a); exact later_call_same (HA.out _))
      | (go_at_call_of 23 (Value.int .i64 b); exact later_call_same (HB.out _))
      | exact rfl))
    refine wpQuiet_nil ?_
    rintro w1 ⟨⟨_, hb1⟩, rfl⟩
    have HX := hide (HX.out.bl hb1)
    obtain ⟨c0, c1, c2, c3⟩ := box_cells HX.out.at'
    go_wp2_with fail
    refine (HK.out _).mono ?_
    rintro e w2 ⟨rfl, hw2⟩
    subst hw2
    go_wp2_with fail
    refine (HI.out _ HX.out.st).mono ?_
    rintro e w3 ⟨v0, v1, v2, v3, hv, rfl, hb3⟩
    obtain ⟨rfl, rfl, rfl, rfl⟩ := hv.2 (by rw [HM.out]; decide)
    have HX := hide (HX.out.st.bl hb3)
    clear hv HI
    go_wp2_with fail
    refine (HIN.out _).mono ?_
    rintro e w4 ⟨rfl, hw4⟩
    subst hw4
    go_wp2
    refine wp_region_later (by kernel_rfl) (by kernel_rfl) ?_
    repeat (go_big_quiet_step (first
      | exact rfl))
    refine wpQuiet_nil ?_
    rintro w5 ⟨⟨_, hb5⟩, rfl⟩
    go_wp2
    go_ret3
    exact ⟨_, r, t, rfl, Nat.le_add_right _ _, HT.out, HX.out.bl (bl_trans (by first | exact bl_alloc (bl_refl _) _ | exact bl_set (bl_alloc (bl_refl _) _) (Nat.le_refl _) _ | exact (by repeat (first | exact bl_refl _ | assumption | refine bl_alloc ?_ _ | refine bl_drewN ?_ _ | refine bl_drew ?_ | refine bl_trans ?_ (by assumption)))) hb5)⟩
end
section
open Go.ChangeShapes Go.WideShapes Go.ChangeAt Go.RowKit
attribute [local go_sem ↓] Go.wp_at_zero Go.wp_at_succ
attribute [local go_sem] later_cell later_frozen
set_option maxRecDepth 100000
set_option linter.unusedVariables false
set_option maxHeartbeats 8000000 in
theorem does_twin {w0 w : World} {D : List (Nat × Nat)} {r d g : Nat} {t : T} (h : Rst w0 w D [(r, d, t)]) (hd : (d, g) ∈ D) {s : ByteArray} (hx : Tx t s) (k a b : Int) (xs : ByteArray) (hs : s.size + (xs.size + xs.size) ≤ 60000) (hk : lowN k 8 = 7) :
    Calls Try.prog 18 #[.pointer (some ⟨r, 0, none⟩), .pointer (some ⟨d, 0, none⟩), .string s, .agg #[.int .i64 k, .int .i64 a, .int .i64 b, .string xs]] w (DoesPost w0 D d (s.size + (xs.size + xs.size))) := by
  have HX := hide (rst_box h (boxO k a b xs))
  obtain ⟨c0, c1, c2, c3⟩ := box_cells HX.out.at'
  have hba := bl_alloc (bl_refl w) (boxO k a b xs)
  have hbs := HX.out.lt
  unfold boxO at c0 c1 c2 c3 hba hbs
  have HA := hide (fun W => (low_any a (s.size + 3) W (by omega) (by omega) : Calls Try.prog 23 #[.int .i64 a, .int .i64 ((s.size : Int) + 3)] W fun e w' => e = .returned (.int .i64 (lowN a (s.size + 3) : Nat)) ∧ W = w'))
  have HB := hide (fun W => (low_any b (s.size + 3) W (by omega) (by omega) : Calls Try.prog 23 #[.int .i64 b, .int .i64 ((s.size : Int) + 3)] W fun e w' => e = .returned (.int .i64 (lowN b (s.size + 3) : Nat)) ∧ W = w'))
  have hlA := lowN_lt a (s.size + 3) (by omega)
  have hlB := lowN_lt b (s.size + 3) (by omega)
  obtain ⟨pA, hpA⟩ : ∃ p, lowN a (s.size + 3) = p := ⟨_, rfl⟩
  obtain ⟨pB, hpB⟩ : ∃ p, lowN b (s.size + 3) = p := ⟨_, rfl⟩
  rw [hpA] at HA hlA
  rw [hpB] at HB hlB
  obtain ⟨A, hA⟩ : ∃ A : Int, (pA : Int) - 1 = A := ⟨_, rfl⟩
  obtain ⟨B, hB⟩ : ∃ B : Int, (pB : Int) - 1 = B := ⟨_, rfl⟩
  have hwA : IntKind.i64.wrap ((pA : Int) - 1) = A := (IntWalk.i64_in _ (by omega)).trans hA
  have hwB : IntKind.i64.wrap ((pB : Int) - 1) = B := (IntWalk.i64_in _ (by omega)).trans hB
  clear hpA hpB
  have HK := hide (fun W => (low_any k 8 W (by omega) (by omega)))
  rw [hk] at HK
  have HU := hide (fun W => upto_any s 2 A W (by omega) (by omega))
  have HTW := hide (fun W (hR : Rst w0 W D [(r, d, t)]) => rst_twin hR (r := r) (d := d) (t := t) (d2 := d) (g2 := g) (by simp) hd hx (by omega))
  have HS := hide hx
  have hAm : A ≤ 9223372036854775807 := by omega
  obtain ⟨u, hu⟩ : ∃ u, upto 2 A s.data.toList = u := ⟨_, rfl⟩
  have HUE := hide hu
  rw [hu] at HU
  clear hu hA hB hx h
  go_enter Try.func18, Try.ntmps18
  go_wp2
  refine wp_region_later (by kernel_rfl) (by kernel_rfl) ?_
  repeat (go_big_quiet_step (first
    | (go_at_call_of 23 (Value.int .i64 a); exact later_call_same (HA.out _))
    | (go_at_call_of 23 (Value.int .i64 b); exact later_call_same (HB.out _))
    | exact rfl))
  refine wpQuiet_nil ?_
  rintro w1 ⟨⟨_, hb1⟩, rfl⟩
  have HX := hide (HX.out.bl hb1)
  obtain ⟨c0, c1, c2, c3⟩ := box_cells HX.out.at'
  go_wp2_with fail
  refine (HK.out _).mono ?_
  rintro e w2 ⟨rfl, hw2⟩
  subst hw2
  go_wp2_with fail
  refine (HTW.out _ HX.out.st).mono ?_
  rintro e w3 ⟨r2, t2, rfl, _, htx, hR⟩
  have HT := hide htx
  have HN := hide (rst_twin0 hR (r := r) (d := d) (t := t) (by simp) HS.out (by omega))
  clear htx hR HTW HX
  go_wp2_with fail
  refine HN.out.mono ?_
  rintro e w4 ⟨rfl, _, hR⟩
  have hUP := rst_upto hR (r := r) (d := d) (t := t) (by simp) HS.out 2 A hAm (by omega)
  rw [HUE.out] at hUP
  have HUP := hide hUP
  have HR := hide hR
  clear hR hUP HN
  go_wp2_with fail
  refine HUP.out.mono ?_
  rintro e w5 ⟨rfl, hb5⟩
  have HR := hide (HR.out.bl hb5)
  clear HUP
  go_wp2_with fail
  refine (HU.out _).mono ?_
  rintro e w6 ⟨rfl, hb6⟩
  have HR := hide (HR.out.bl hb6)
  go_wp2
  go_ret3
  exact ⟨_, r2, t2, rfl, Nat.le_add_right _ _, HT.out, HR.out.swap.drop⟩
end
section
open Go.ChangeShapes Go.WideShapes Go.ChangeAt Go.RowKit
attribute [local go_sem ↓] Go.wp_at_zero Go.wp_at_succ
attribute [local go_sem] later_cell later_frozen
set_option maxRecDepth 100000
set_option linter.unusedVariables false
theorem does_any {w0 w : World} {D : List (Nat × Nat)} {r d g : Nat} {t : T} (h : Rst w0 w D [(r, d, t)]) (hd : (d, g) ∈ D) {s : ByteArray} (hx : Tx t s) (k a b : Int) (xs : ByteArray) (hs : s.size + (xs.size + xs.size) ≤ 60000) :
    Calls Try.prog 18 #[.pointer (some ⟨r, 0, none⟩), .pointer (some ⟨d, 0, none⟩), .string s, .agg #[.int .i64 k, .int .i64 a, .int .i64 b, .string xs]] w (DoesPost w0 D d (s.size + (xs.size + xs.size))) := by
  have hl := lowN_lt k 8 (by omega)
  by_cases h2 : lowN k 8 < 2
  · exact does_ins h hd hx k a b xs hs (by omega)
  by_cases h3 : lowN k 8 = 2
  · exact does_del h hd hx k a b xs hs h3
  by_cases h4 : lowN k 8 = 3
  · exact does_slc h hd hx k a b xs hs h4
  by_cases h5 : lowN k 8 = 4
  · exact does_cut h hd hx k a b xs hs h5
  by_cases h6 : lowN k 8 = 5
  · exact does_join h hd hx k a b xs hs h6
  by_cases h7 : lowN k 8 = 6
  · exact does_cnt h hd hx k a b xs hs h7
  exact does_twin h hd hx k a b xs hs (by omega)
end
section
open Go.ChangeShapes Go.WideShapes Go.ChangeAt Go.RowKit
attribute [local go_sem ↓] Go.wp_at_zero Go.wp_at_succ
def Much3 (many N : Int) (l : List De) (w : World) (e : Ending) (w' : World) : Prop := ∃ r, e = .returned (.bool r) ∧ (r = false → (l.length : Int) ≤ many ∧ ∀ x ∈ l, (x.s.size : Int) ≤ N) ∧ w = w'
set_option maxRecDepth 100000 in
set_option maxHeartbeats 4000000 in
theorem much3_any (many N : Int) (hN : 0 ≤ N ∧ N ≤ 1000) (v : Value) (l : List De) (w : World) (h : DeAt w v l) (hl : l.length ≤ maxLen) :
    Calls Try.prog 14 #[.int .i64 many, .int .i64 N, v] w (Much3 many N l w) := by
  obtain ⟨aA, cA, rfl⟩ := deat_len h
  have W0 := hide h
  unfold maxLen at hl
  clear h
  by_cases hlen : (l.length : Int) ≤ many
  · have d0 : decide (many < (l.length : Int)) = false := by simp; omega
    go_enter Try.func14, Try.ntmps14
    go_wp2
    go_loopw [1, 7] (fun n i wr => ∃ (k : Nat) (m : Int), i = .int .i64 k ∧ k ≤ l.length ∧ n = .int .i64 m ∧ 0 ≤ m ∧ m ≤ N ∧ Hid (∀ x ∈ l.take k, (x.s.size : Int) ≤ N) ∧ w = wr) (fun _ i _ => l.length - (intOf i).toNat)
    case atStart => exact ⟨0, N, rfl, Nat.zero_le _, rfl, hN.1, Int.le_refl _, hide (by simp), rfl⟩
    case round =>
      obtain ⟨k, m, rfl, hk, rfl, hm0, hm, HX, rfl⟩ := hrel
      by_cases hlt : k < l.length
      · obtain ⟨b1, o1, c1, hv1, hc1, hm1, hlb1, hcell1⟩ := deat_some W0.out (by omega)
        injection hv1 with hv1 _ hv1c
        subst hv1 hv1c
        unfold maxLen at hm1
        obtain ⟨x0, x1, x2, x3⟩ := hcell1 k hlt
        have hsn : l.take (k + 1) = l.take k ++ [l[k]] := List.take_succ_eq_append_getElem hlt
        clear hcell1
        generalize l[k] = s at *
        obtain ⟨dk, da, db, x⟩ := s
        simp only at x0 x1 x2 x3
        have hnx : (x.size : Int) ≤ N → ∀ y ∈ l.take (k + 1), (y.s.size : Int) ≤ N := fun hx y hy => by
          rw [hsn] at hy
          rcases List.mem_append.1 hy with hy | hy
          · exact HX.out y hy
          · rw [List.mem_singleton] at hy; subst hy; exact hx
        have HNX := hide hnx
        clear hsn hnx HX x0 x1 x2
        by_cases hb : (x.size : Int) ≤ m
        · have d1 : decide (m < (x.size : Int)) = false := by simp; omega
          obtain ⟨m2, hm2⟩ : ∃ m2 : Int, m - (x.size : Int) = m2 := ⟨_, rfl⟩
          have hw1 : IntKind.i64.wrap (m - (x.size : Int)) = m2 := (IntWalk.i64_in _ (by omega)).trans hm2
          have HN2 := hide (HNX.out (by omega))
          have hm3 : 0 ≤ m2 := by omega
          have hm4 : m2 ≤ N := by omega
          clear HNX hm2
          go_wp2
          refine ⟨?_, by first | (simp [intOf]; done) | (simp [intOf]; omega)⟩
          first
            | exact ⟨k + 1, m2, by go_num, by omega, rfl, hm3, hm4, HN2, by first | rfl | trivial⟩
            | ((repeat apply Exists.intro); exact ⟨⟨k + 1, m2, by go_num, by omega, rfl, hm3, hm4, HN2, by first | rfl | trivial⟩, rfl⟩)
        · have d1 : decide (m < (x.size : Int)) = true := by simp; omega
          clear HNX
          go_wp2
          go_ret
          exact ⟨_, rfl, (fun h => absurd h (by decide)), by first | rfl | trivial⟩
      · obtain rfl : k = l.length := by omega
        have hx := HX.out
        rw [List.take_length] at hx
        have HX2 := hide hx
        clear HX hx
        go_wp2
        go_ret
        exact ⟨false, rfl, fun _ => ⟨hlen, HX2.out⟩, by first | rfl | trivial⟩
  · have d0 : decide (many < (l.length : Int)) = true := by simp; omega
    clear hlen
    go_enter Try.func14, Try.ntmps14
    go_wp2
    go_ret
    exact ⟨_, rfl, (fun h => absurd h (by decide)), by first | rfl | trivial⟩
/-- Deeds are done: what is kept from one to the next. -/
def DeInv (n : Nat) (B : Int) (w0 : World) (d g : Nat) (s r i : Value) (wr : World) : Prop :=
  ∃ (k : Nat) (sv : ByteArray) (rr : Nat) (t : T), s = .string sv ∧ r = .pointer (some ⟨rr, 0, none⟩) ∧ i = .int .i64 k ∧ k ≤ n ∧ (sv.size : Int) ≤ B + 1000 * (k : Int) ∧ Hid (Tx t sv) ∧ Hid (Rst w0 wr [(d, g)] [(rr, d, t)])
end
end Go.Proofs.Ytidfpnedbcaicaa
