/- A range that no edit touches at either end goes by the edits, and by what turns them back, to where it was, however it is posed. Conditions: none beyond the form's own. -/
import Derived.Test.YtjmoeahlbgdkbaaRows
import Derived.Test.YtjmoeahlbgdkbaaArgs
import Derived.Test.YtjmoeahlbgdkbaaTabArgs
import Derived.Test.YtjmoeahlbgdkbaaTabP
import Derived.Test.YtjmoeahlbgdkbaaTabL
namespace Go.Proofs.Ytjmoeahlbgdkbaa.marksReturn
open Go.Proofs.Ytjmoeahlbgdkbaa
open Go.ChangeShapes Go.WideShapes Go.ChangeAt Go.RowKit Go.Deep
open Go.ChangeMaps (open_string shut_string)
set_option linter.unusedVariables false

theorem own : ownKnob Try.prog.godebug = none := by kernel_rfl
theorem laidOut : laidOutB Try.prog = true := by kernel_rfl
-- opt:8000000
open SpanM EdM
attribute [local go_sem ↓] Go.wp_at_zero Go.wp_at_succ
theorem range_there {s : ByteArray} {A a b : Int} {l : List Ed} (r0 r1 : Bool) (h : Gath s.size A a b l) (hab : a ≤ b) : mvAll l [⟨1, a, b, r0, r1, 0⟩] = [⟨1, mvR r0 l a, mvR r1 l b, r0, r1, 0⟩] := by
  show [Mk.mk 1 (min (mvR r0 l a) (mvR r1 l b)) (mvR r1 l b) r0 r1 0] = _
  rw [range_on r0 r1 (chain_up h.chain h.top) h.awa h.awb hab]
/-- What the loop keeps. -/
def RetInv (S : Nat) (a b : Int) (B : Nat) (m : Nat) (w : World) (es at' i : Value) (wr : World) : Prop :=
  ∃ (k : Nat) (X : Int) (l : List Ed), i = .int .i64 k ∧ at' = .int .i64 X ∧ k ≤ m ∧ l.length ≤ k ∧ 0 ≤ X ∧ X ≤ S ∧ Hid (wr.ownsRow B 61 3 es l.length (flatE l)) ∧ Hid (Gath S X a b l) ∧ Hid (k = 0 → l = []) ∧ Below w.heap.size w wr
theorem three (p q : Bool) : (p = true ∧ q = true) ∨ (p = true ∧ q = false) ∨ p = false := by cases p <;> cases q <;> simp
set_option maxRecDepth 100000 in
set_option maxHeartbeats 8000000 in
theorem walk (a0 : ByteArray) (a1 : Int) (a2 : Int) (a3_0 a3_1 : Bool) (a4 : Value) (l4 : List SpanM.Sp) (a5 : Option Addr) (len5 cap5 : Nat) (z5 : List ByteArray) (w : World) (w0 : a0.size ≤ maxLen) (w1 : (Lit.int .i64 a1).wf = true) (w2 : (Lit.int .i64 a2).wf = true) (w4 : SpAt w a4 l4) (b4 : ∀ s ∈ l4, Wf s) (w5 : IsStrs w a5 len5 cap5 z5) :
    Calls Try.prog 11 #[.string a0, .int .i64 a1, .int .i64 a2, .agg #[.bool a3_0, .bool a3_1], a4, .slice a5 len5 cap5] w fun e w' => e = .returned (.bool true) ∧ Below w.heap.size w w' := by
  have hg : (80 < a0.size ∨ 8 < l4.length ∨ longL 100 (z5.take len5) = true) ∨ (a0.size ≤ 80 ∧ l4.length ≤ 8 ∧ longL 100 (z5.take len5) = false) := by
    cases h : longL 100 (z5.take len5)
    · by_cases c1 : 80 < a0.size
      · exact .inl (.inl c1)
      · by_cases c2 : 8 < l4.length
        · exact .inl (.inr (.inl c2))
        · exact .inr ⟨by omega, by omega, rfl⟩
    · exact .inl (.inr (.inr rfl))
  obtain ⟨aG, cG, rfl⟩ := spat_len w4
  rcases hg with hg | ⟨h1, h2, h3⟩
  · have hcond : (decide (80 < (a0.size : Int)) = true) ∨ (decide (80 < (a0.size : Int)) = false ∧ decide (8 < (l4.length : Int)) = true) ∨ (decide (80 < (a0.size : Int)) = false ∧ decide (8 < (l4.length : Int)) = false ∧ longL 100 (z5.take len5) = true) := by
      by_cases c1 : 80 < a0.size
      · exact .inl (by simp; omega)
      by_cases c2 : 8 < l4.length
      · exact .inr (.inl ⟨by simp; omega, by simp; omega⟩)
      · exact .inr (.inr ⟨by simp; omega, by simp; omega, by rcases hg with h | h | h <;> first | omega | exact h⟩)
    clear hg
    have hba := bl_alloc (bl_refl w) (.cells #[.bool a3_0, .bool a3_1] 64)
    rcases hcond with g1 | ⟨g1, g2⟩ | ⟨g1, g2, g3⟩
    · go_enter Try.func11, Try.ntmps11
      go_wp2_with fail
      refine (awake7_any _).mono ?_
      rintro e w1 ⟨rfl, hb1⟩
      have hb := bl_trans hba hb1
      go_wp2
      go_ret
      exact ⟨rfl, hb⟩
    · go_enter Try.func11, Try.ntmps11
      go_wp2_with fail
      refine (awake7_any _).mono ?_
      rintro e w1 ⟨rfl, hb1⟩
      have hb := bl_trans hba hb1
      go_wp2
      go_ret
      exact ⟨rfl, hb⟩
    · have HL := hide (longe_any _ 100 a5 len5 cap5 z5 true (strs_below w5 hba) (by omega) (by omega) g3)
      go_enter Try.func11, Try.ntmps11
      go_wp2_with fail
      refine HL.out.mono ?_
      rintro e w1 ⟨rfl, rfl⟩
      go_wp2_with fail
      refine (awake7_any _).mono ?_
      rintro e w2 ⟨rfl, hb1⟩
      have hb := bl_trans hba hb1
      go_wp2
      go_ret
      exact ⟨rfl, hb⟩
  have g1 : decide (80 < (a0.size : Int)) = false := by simp; omega
  have g2 : decide (8 < (l4.length : Int)) = false := by simp; omega
  obtain ⟨NA, hNA⟩ : ∃ NA, lowN a1 (a0.size + 1) = NA := ⟨_, rfl⟩
  have hNA1 : NA < a0.size + 1 := by rw [← hNA]; exact lowN_lt _ _ (by omega)
  obtain ⟨A, hA⟩ : ∃ A : Int, (NA : Int) = A := ⟨_, rfl⟩
  obtain ⟨NM, hNM⟩ : ∃ NM, lowN a2 (a0.size - NA + 1) = NM := ⟨_, rfl⟩
  have hNM1 : NM < a0.size - NA + 1 := by rw [← hNM]; exact lowN_lt _ _ (by omega)
  obtain ⟨M, hM⟩ : ∃ M : Int, (NM : Int) = M := ⟨_, rfl⟩
  have hA0 : 0 ≤ A := by omega
  have hAS : A ≤ (a0.size : Int) := by omega
  have hM0 : 0 ≤ M := by omega
  have hMS : A + M ≤ (a0.size : Int) := by omega
  have HLA := hide (show ∀ W, _ from fun W => low_f a1 ((a0.size : Int) + 1) (a0.size + 1) A W (by omega) (by omega) (by omega) (by rw [hNA]; exact hA))
  have HLM := hide (show ∀ W, _ from fun W => low_f a2 ((a0.size : Int) - A + 1) (a0.size - NA + 1) M W (by omega) (by omega) (by omega) (by rw [hNM]; exact hM))
  have hba := bl_alloc (bl_refl w) (.cells #[.bool a3_0, .bool a3_1] 64)
  have HL := hide (longe_any _ 100 a5 len5 cap5 z5 false (strs_below w5 hba) (by omega) (by omega) h3)
  have HLM5 := hide (long_mem _ _ h3)
  have W4 := hide (spat_below w4 hba)
  have W5 := hide (strs_below w5 hba)
  have hzl := strs_len w5
  clear hNA hA hNM hM h3 w4 w5 hNA1 hNM1 NA NM b4 w1 w2 w0
  have hb0 := (World.cell?_alloc_mark w #[.bool a3_0, .bool a3_1] 64 (0, 0) 0)
  have hb1 := (World.cell?_alloc_mark w #[.bool a3_0, .bool a3_1] 64 (0, 0) 1)
  obtain ⟨wB, hwB⟩ : ∃ wB, w.alloc (.cells #[.bool a3_0, .bool a3_1] 64) = wB := ⟨_, rfl⟩
  have hltB : w.heap.size < wB.heap.size := by rw [← hwB]; simp
  have hwB' := hide hwB
  rw [hwB] at hba HL W4 W5 hb0 hb1
  replace hb0 : wB.cell? ⟨w.heap.size, 0, none⟩ = some (.bool a3_0) := hb0
  replace hb1 : wB.cell? ⟨w.heap.size, 1, none⟩ = some (.bool a3_1) := hb1
  clear hwB
  go_enter Try.func11, Try.ntmps11
  go_wp2_with fail
  rw [hwB'.out]
  refine HL.out.mono ?_
  rintro e w1 ⟨rfl, rfl⟩
  go_wp2_with fail
  refine (HLA.out _).mono ?_
  rintro e w1 ⟨rfl, rfl⟩
  go_wp2_with fail
  refine (HLM.out _).mono ?_
  rintro e w1 ⟨rfl, rfl⟩
  clear HLA HLM HL
  go_wp2
  go_loopw [15, 16, 17] (fun es at' i wr => RetInv a0.size A (A + M) wB.heap.size l4.length wB es at' i wr) (fun _ _ i _ => l4.length - (intOf i).toNat)
  case atStart => exact ⟨0, 0, [], rfl, rfl, Nat.zero_le _, Nat.le_refl _, Int.le_refl _, by omega, hide ⟨rfl, .inl ⟨rfl, rfl⟩⟩, hide (gath_nil (by omega)), hide (fun _ => rfl), bl_refl wB⟩
  case round =>
    obtain ⟨k, X, l, rfl, rfl, hk, hlk, hX0, hXS, HO, HG, HK, hbl⟩ := hrel
    obtain ⟨aV, cV, hvE⟩ := own_slice HO.out
    by_cases hlt : k < l4.length ∧ k < len5
    · obtain ⟨hlt, hlt5⟩ := hlt
      have hd1 : decide ((k : Int) < (l4.length : Int)) = true := by simp; omega
      have hd2 : decide ((k : Int) < (len5 : Int)) = true := by simp; omega
      obtain ⟨b1, o1, c1', hv1, hc1, hm1, hlb1, hcell1⟩ := spat_some (spat_below W4.out hbl) (by omega)
      injection hv1 with hv1 _ hv1c
      subst hv1 hv1c
      unfold maxLen at hm1
      obtain ⟨x1, x2⟩ := hcell1 k hlt
      obtain ⟨b2, o2, hv2, hn2, hc2, hm2, hcell2⟩ := strs_cell (strs_below W5.out hbl) (by omega)
      subst hv2
      unfold maxLen at hm2
      have y1 := hcell2 k (by omega)
      have hsz := HLM5.out (z5.getD k ByteArray.empty) (by
        have e : z5.getD k ByteArray.empty = (z5.take len5)[k]'(by rw [List.length_take]; omega) := by
          rw [List.getElem_take]; simp [List.getD, show k < z5.length by omega]
        rw [e]; exact List.getElem_mem _)
      clear hcell1 hcell2
      generalize z5.getD k ByteArray.empty = tx at *
      generalize hgp : l4[k] = gp at x1 x2
      clear hgp
      obtain ⟨gf, gt⟩ := gp
      replace x1 : wr.cell? ⟨b1, o1 + k * 2, none⟩ = some (.int .i64 gf) := x1
      replace x2 : wr.cell? ⟨b1, o1 + k * 2 + 1, none⟩ = some (.int .i64 gt) := x2
      obtain ⟨P, hP⟩ : ∃ P : Int, (lowN gf 9 : Int) = P := ⟨_, rfl⟩
      obtain ⟨Q, hQ⟩ : ∃ Q : Int, (lowN gt 6 : Int) = Q := ⟨_, rfl⟩
      have hP1 : 0 ≤ P := by omega
      have hP2 : P < 9 := by have := lowN_lt gf 9 (by omega); omega
      have hQ1 : 0 ≤ Q := by omega
      have hQ2 : Q < 6 := by have := lowN_lt gt 6 (by omega); omega
      have HP := hide hP
      have HQ := hide hQ
      clear hP hQ
      go_wp2_with fail
      refine (low_f gf 9 9 P _ (by omega) (by omega) (by omega) HP.out).mono ?_
      rintro e w3 ⟨rfl, rfl⟩
      go_wp2_with fail
      refine (low_f gt 6 6 Q _ (by omega) (by omega) (by omega) HQ.out).mono ?_
      rintro e w3 ⟨rfl, rfl⟩
      clear x1 x2 HP HQ
      subst hvE
      obtain ⟨i0, hi0, hz0', hz1, hz2⟩ := info_parts info_ed
      rcases three (decide (X + P ≤ A)) (decide (A ≤ X + P + Q)) with ⟨e1, e2⟩ | ⟨e1, e2⟩ | e1
      · go_wp2
        refine ⟨?_, by first | (simp [intOf]; done) | (simp [intOf]; omega)⟩
        exact ⟨k + 1, X, l, by go_num, by first | rfl | trivial, by omega, by omega, hX0, hXS, HO, HG, hide (fun h => by omega), hbl⟩
      · rcases three (decide (X + P ≤ A + M)) (decide (A + M ≤ X + P + Q)) with ⟨e3, e4⟩ | ⟨e3, e4⟩ | e3
        · go_wp2
          refine ⟨?_, by first | (simp [intOf]; done) | (simp [intOf]; omega)⟩
          exact ⟨k + 1, X, l, by go_num, by first | rfl | trivial, by omega, by omega, hX0, hXS, HO, HG, hide (fun h => by omega), hbl⟩
        · by_cases hy : (a0.size : Int) < X + P + Q
          · have e5 : decide ((a0.size : Int) < X + P + Q) = true := by simp; omega
            go_wp2
            refine ⟨?_, by first | (simp [intOf]; done) | (simp [intOf]; omega)⟩
            exact ⟨k + 1, X, l, by go_num, by first | rfl | trivial, by omega, by omega, hX0, hXS, HO, HG, hide (fun h => by omega), hbl⟩
          · have e5 : decide ((a0.size : Int) < X + P + Q) = false := by simp; omega
            rcases Nat.eq_zero_or_pos k with hk0 | hk0
            · have e6 : decide ((0 : Int) < (k : Int)) = false := by simp; omega
              have e6' : decide (0 < k) = false := by simp; omega
              have HX : A < A ∨ True := .inr trivial
              clear HX
              have HX : X < X + P ∨ (l = [] ∧ X ≤ X + P) := .inr ⟨HK.out hk0, by omega⟩
              have hfin : ∀ (v' : Value) (W : World), W.ownsRow wB.heap.size 61 3 v' (l.length + 1) (flatE l ++ [.int .i64 (X + P), .int .i64 (X + P + Q), .string tx]) → Hid (W.ownsRow wB.heap.size 61 3 v' (l ++ [((X + P, X + P + Q), tx)]).length (flatE (l ++ [((X + P, X + P + Q), tx)]))) := fun v' W h => hide (by rw [List.length_append, flatE_app]; exact h)
              have HFIN := hide hfin
              have HG2 := hide (gath_snoc (s := tx) HG.out HX (show X + P ≤ X + P + Q by omega) (by omega) (by simp at *; omega) (by simp at *; omega) (by omega))
              have hrow := HO.out
              have hwBr : wB.heap.size ≤ wr.heap.size := hbl.size
              clear hfin HX
              (try clear hk0)
              (try clear hxx)
              go_wp2_with (at_builtin; (refine wpList_push wr rfl _ _ 35 rfl wB.heap.size 61 i0 (.agg #[.int .i64 0, .int .i64 0, .string ⟨#[]⟩]) 3 32 Try.underlying35 hi0 hz0' hz1 hz2 rfl (by decide) (.slice aV l.length cV) l.length (flatE l) rfl hrow 1 #[.int .i64 (X + P), .int .i64 (X + P + Q), .string tx] rfl rfl (by simp [Value.oneCell']) (by omega) (by decide) (by omega) ?_); intro v' w4 hv4 hg4 hat)
              have hb4 : Below wB.heap.size wB w4 := bl_own hbl hrow hg4 (Nat.le_refl _)
              refine ⟨?_, by first | (simp [intOf]; done) | (simp [intOf]; omega)⟩
              exact ⟨k + 1, X + P + Q, l ++ [((X + P, X + P + Q), tx)], by go_num, by first | rfl | trivial, by omega, by rw [List.length_append]; simp; omega, by omega, by omega, HFIN.out _ _ hv4, hide HG2.out, hide (fun h => by omega), hb4⟩
            · have e6 : decide ((0 : Int) < (k : Int)) = true := by simp; omega
              have e6' : decide (0 < k) = true := by simp; omega
              by_cases hxx : X + P = X
              · have e7 : (X + P == X) = true := beq_iff_eq.2 hxx
                clear hxx
                go_wp2
                refine ⟨?_, by first | (simp [intOf]; done) | (simp [intOf]; omega)⟩
                exact ⟨k + 1, X, l, by go_num, by first | rfl | trivial, by omega, by omega, hX0, hXS, HO, HG, hide (fun h => by omega), hbl⟩
              · have e7 : (X + P == X) = false := beq_eq_false_iff_ne.2 hxx
                have HX : X < X + P ∨ (l = [] ∧ X ≤ X + P) := .inl (by omega)
                have hfin : ∀ (v' : Value) (W : World), W.ownsRow wB.heap.size 61 3 v' (l.length + 1) (flatE l ++ [.int .i64 (X + P), .int .i64 (X + P + Q), .string tx]) → Hid (W.ownsRow wB.heap.size 61 3 v' (l ++ [((X + P, X + P + Q), tx)]).length (flatE (l ++ [((X + P, X + P + Q), tx)]))) := fun v' W h => hide (by rw [List.length_append, flatE_app]; exact h)
                have HFIN := hide hfin
                have HG2 := hide (gath_snoc (s := tx) HG.out HX (show X + P ≤ X + P + Q by omega) (by omega) (by simp at *; omega) (by simp at *; omega) (by omega))
                have hrow := HO.out
                have hwBr : wB.heap.size ≤ wr.heap.size := hbl.size
                clear hfin HX
                (try clear hk0)
                (try clear hxx)
                go_wp2_with (at_builtin; (refine wpList_push wr rfl _ _ 35 rfl wB.heap.size 61 i0 (.agg #[.int .i64 0, .int .i64 0, .string ⟨#[]⟩]) 3 32 Try.underlying35 hi0 hz0' hz1 hz2 rfl (by decide) (.slice aV l.length cV) l.length (flatE l) rfl hrow 1 #[.int .i64 (X + P), .int .i64 (X + P + Q), .string tx] rfl rfl (by simp [Value.oneCell']) (by omega) (by decide) (by omega) ?_); intro v' w4 hv4 hg4 hat)
                have hb4 : Below wB.heap.size wB w4 := bl_own hbl hrow hg4 (Nat.le_refl _)
                refine ⟨?_, by first | (simp [intOf]; done) | (simp [intOf]; omega)⟩
                exact ⟨k + 1, X + P + Q, l ++ [((X + P, X + P + Q), tx)], by go_num, by first | rfl | trivial, by omega, by rw [List.length_append]; simp; omega, by omega, by omega, HFIN.out _ _ hv4, hide HG2.out, hide (fun h => by omega), hb4⟩
        · by_cases hy : (a0.size : Int) < X + P + Q
          · have e5 : decide ((a0.size : Int) < X + P + Q) = true := by simp; omega
            go_wp2
            refine ⟨?_, by first | (simp [intOf]; done) | (simp [intOf]; omega)⟩
            exact ⟨k + 1, X, l, by go_num, by first | rfl | trivial, by omega, by omega, hX0, hXS, HO, HG, hide (fun h => by omega), hbl⟩
          · have e5 : decide ((a0.size : Int) < X + P + Q) = false := by simp; omega
            rcases Nat.eq_zero_or_pos k with hk0 | hk0
            · have e6 : decide ((0 : Int) < (k : Int)) = false := by simp; omega
              have e6' : decide (0 < k) = false := by simp; omega
              have HX : A < A ∨ True := .inr trivial
              clear HX
              have HX : X < X + P ∨ (l = [] ∧ X ≤ X + P) := .inr ⟨HK.out hk0, by omega⟩
              have hfin : ∀ (v' : Value) (W : World), W.ownsRow wB.heap.size 61 3 v' (l.length + 1) (flatE l ++ [.int .i64 (X + P), .int .i64 (X + P + Q), .string tx]) → Hid (W.ownsRow wB.heap.size 61 3 v' (l ++ [((X + P, X + P + Q), tx)]).length (flatE (l ++ [((X + P, X + P + Q), tx)]))) := fun v' W h => hide (by rw [List.length_append, flatE_app]; exact h)
              have HFIN := hide hfin
              have HG2 := hide (gath_snoc (s := tx) HG.out HX (show X + P ≤ X + P + Q by omega) (by omega) (by simp at *; omega) (by simp at *; omega) (by omega))
              have hrow := HO.out
              have hwBr : wB.heap.size ≤ wr.heap.size := hbl.size
              clear hfin HX
              (try clear hk0)
              (try clear hxx)
              go_wp2_with (at_builtin; (refine wpList_push wr rfl _ _ 35 rfl wB.heap.size 61 i0 (.agg #[.int .i64 0, .int .i64 0, .string ⟨#[]⟩]) 3 32 Try.underlying35 hi0 hz0' hz1 hz2 rfl (by decide) (.slice aV l.length cV) l.length (flatE l) rfl hrow 1 #[.int .i64 (X + P), .int .i64 (X + P + Q), .string tx] rfl rfl (by simp [Value.oneCell']) (by omega) (by decide) (by omega) ?_); intro v' w4 hv4 hg4 hat)
              have hb4 : Below wB.heap.size wB w4 := bl_own hbl hrow hg4 (Nat.le_refl _)
              refine ⟨?_, by first | (simp [intOf]; done) | (simp [intOf]; omega)⟩
              exact ⟨k + 1, X + P + Q, l ++ [((X + P, X + P + Q), tx)], by go_num, by first | rfl | trivial, by omega, by rw [List.length_append]; simp; omega, by omega, by omega, HFIN.out _ _ hv4, hide HG2.out, hide (fun h => by omega), hb4⟩
            · have e6 : decide ((0 : Int) < (k : Int)) = true := by simp; omega
              have e6' : decide (0 < k) = true := by simp; omega
              by_cases hxx : X + P = X
              · have e7 : (X + P == X) = true := beq_iff_eq.2 hxx
                clear hxx
                go_wp2
                refine ⟨?_, by first | (simp [intOf]; done) | (simp [intOf]; omega)⟩
                exact ⟨k + 1, X, l, by go_num, by first | rfl | trivial, by omega, by omega, hX0, hXS, HO, HG, hide (fun h => by omega), hbl⟩
              · have e7 : (X + P == X) = false := beq_eq_false_iff_ne.2 hxx
                have HX : X < X + P ∨ (l = [] ∧ X ≤ X + P) := .inl (by omega)
                have hfin : ∀ (v' : Value) (W : World), W.ownsRow wB.heap.size 61 3 v' (l.length + 1) (flatE l ++ [.int .i64 (X + P), .int .i64 (X + P + Q), .string tx]) → Hid (W.ownsRow wB.heap.size 61 3 v' (l ++ [((X + P, X + P + Q), tx)]).length (flatE (l ++ [((X + P, X + P + Q), tx)]))) := fun v' W h => hide (by rw [List.length_append, flatE_app]; exact h)
                have HFIN := hide hfin
                have HG2 := hide (gath_snoc (s := tx) HG.out HX (show X + P ≤ X + P + Q by omega) (by omega) (by simp at *; omega) (by simp at *; omega) (by omega))
                have hrow := HO.out
                have hwBr : wB.heap.size ≤ wr.heap.size := hbl.size
                clear hfin HX
                (try clear hk0)
                (try clear hxx)
                go_wp2_with (at_builtin; (refine wpList_push wr rfl _ _ 35 rfl wB.heap.size 61 i0 (.agg #[.int .i64 0, .int .i64 0, .string ⟨#[]⟩]) 3 32 Try.underlying35 hi0 hz0' hz1 hz2 rfl (by decide) (.slice aV l.length cV) l.length (flatE l) rfl hrow 1 #[.int .i64 (X + P), .int .i64 (X + P + Q), .string tx] rfl rfl (by simp [Value.oneCell']) (by omega) (by decide) (by omega) ?_); intro v' w4 hv4 hg4 hat)
                have hb4 : Below wB.heap.size wB w4 := bl_own hbl hrow hg4 (Nat.le_refl _)
                refine ⟨?_, by first | (simp [intOf]; done) | (simp [intOf]; omega)⟩
                exact ⟨k + 1, X + P + Q, l ++ [((X + P, X + P + Q), tx)], by go_num, by first | rfl | trivial, by omega, by rw [List.length_append]; simp; omega, by omega, by omega, HFIN.out _ _ hv4, hide HG2.out, hide (fun h => by omega), hb4⟩
      · rcases three (decide (X + P ≤ A + M)) (decide (A + M ≤ X + P + Q)) with ⟨e3, e4⟩ | ⟨e3, e4⟩ | e3
        · go_wp2
          refine ⟨?_, by first | (simp [intOf]; done) | (simp [intOf]; omega)⟩
          exact ⟨k + 1, X, l, by go_num, by first | rfl | trivial, by omega, by omega, hX0, hXS, HO, HG, hide (fun h => by omega), hbl⟩
        · by_cases hy : (a0.size : Int) < X + P + Q
          · have e5 : decide ((a0.size : Int) < X + P + Q) = true := by simp; omega
            go_wp2
            refine ⟨?_, by first | (simp [intOf]; done) | (simp [intOf]; omega)⟩
            exact ⟨k + 1, X, l, by go_num, by first | rfl | trivial, by omega, by omega, hX0, hXS, HO, HG, hide (fun h => by omega), hbl⟩
          · have e5 : decide ((a0.size : Int) < X + P + Q) = false := by simp; omega
            rcases Nat.eq_zero_or_pos k with hk0 | hk0
            · have e6 : decide ((0 : Int) < (k : Int)) = false := by simp; omega
              have e6' : decide (0 < k) = false := by simp; omega
              have HX : A < A ∨ True := .inr trivial
              clear HX
              have HX : X < X + P ∨ (l = [] ∧ X ≤ X + P) := .inr ⟨HK.out hk0, by omega⟩
              have hfin : ∀ (v' : Value) (W : World), W.ownsRow wB.heap.size 61 3 v' (l.length + 1) (flatE l ++ [.int .i64 (X + P), .int .i64 (X + P + Q), .string tx]) → Hid (W.ownsRow wB.heap.size 61 3 v' (l ++ [((X + P, X + P + Q), tx)]).length (flatE (l ++ [((X + P, X + P + Q), tx)]))) := fun v' W h => hide (by rw [List.length_append, flatE_app]; exact h)
              have HFIN := hide hfin
              have HG2 := hide (gath_snoc (s := tx) HG.out HX (show X + P ≤ X + P + Q by omega) (by omega) (by simp at *; omega) (by simp at *; omega) (by omega))
              have hrow := HO.out
              have hwBr : wB.heap.size ≤ wr.heap.size := hbl.size
              clear hfin HX
              (try clear hk0)
              (try clear hxx)
              go_wp2_with (at_builtin; (refine wpList_push wr rfl _ _ 35 rfl wB.heap.size 61 i0 (.agg #[.int .i64 0, .int .i64 0, .string ⟨#[]⟩]) 3 32 Try.underlying35 hi0 hz0' hz1 hz2 rfl (by decide) (.slice aV l.length cV) l.length (flatE l) rfl hrow 1 #[.int .i64 (X + P), .int .i64 (X + P + Q), .string tx] rfl rfl (by simp [Value.oneCell']) (by omega) (by decide) (by omega) ?_); intro v' w4 hv4 hg4 hat)
              have hb4 : Below wB.heap.size wB w4 := bl_own hbl hrow hg4 (Nat.le_refl _)
              refine ⟨?_, by first | (simp [intOf]; done) | (simp [intOf]; omega)⟩
              exact ⟨k + 1, X + P + Q, l ++ [((X + P, X + P + Q), tx)], by go_num, by first | rfl | trivial, by omega, by rw [List.length_append]; simp; omega, by omega, by omega, HFIN.out _ _ hv4, hide HG2.out, hide (fun h => by omega), hb4⟩
            · have e6 : decide ((0 : Int) < (k : Int)) = true := by simp; omega
              have e6' : decide (0 < k) = true := by simp; omega
              by_cases hxx : X + P = X
              · have e7 : (X + P == X) = true := beq_iff_eq.2 hxx
                clear hxx
                go_wp2
                refine ⟨?_, by first | (simp [intOf]; done) | (simp [intOf]; omega)⟩
                exact ⟨k + 1, X, l, by go_num, by first | rfl | trivial, by omega, by omega, hX0, hXS, HO, HG, hide (fun h => by omega), hbl⟩
              · have e7 : (X + P == X) = false := beq_eq_false_iff_ne.2 hxx
                have HX : X < X + P ∨ (l = [] ∧ X ≤ X + P) := .inl (by omega)
                have hfin : ∀ (v' : Value) (W : World), W.ownsRow wB.heap.size 61 3 v' (l.length + 1) (flatE l ++ [.int .i64 (X + P), .int .i64 (X + P + Q), .string tx]) → Hid (W.ownsRow wB.heap.size 61 3 v' (l ++ [((X + P, X + P + Q), tx)]).length (flatE (l ++ [((X + P, X + P + Q), tx)]))) := fun v' W h => hide (by rw [List.length_append, flatE_app]; exact h)
                have HFIN := hide hfin
                have HG2 := hide (gath_snoc (s := tx) HG.out HX (show X + P ≤ X + P + Q by omega) (by omega) (by simp at *; omega) (by simp at *; omega) (by omega))
                have hrow := HO.out
                have hwBr : wB.heap.size ≤ wr.heap.size := hbl.size
                clear hfin HX
                (try clear hk0)
                (try clear hxx)
                go_wp2_with (at_builtin; (refine wpList_push wr rfl _ _ 35 rfl wB.heap.size 61 i0 (.agg #[.int .i64 0, .int .i64 0, .string ⟨#[]⟩]) 3 32 Try.underlying35 hi0 hz0' hz1 hz2 rfl (by decide) (.slice aV l.length cV) l.length (flatE l) rfl hrow 1 #[.int .i64 (X + P), .int .i64 (X + P + Q), .string tx] rfl rfl (by simp [Value.oneCell']) (by omega) (by decide) (by omega) ?_); intro v' w4 hv4 hg4 hat)
                have hb4 : Below wB.heap.size wB w4 := bl_own hbl hrow hg4 (Nat.le_refl _)
                refine ⟨?_, by first | (simp [intOf]; done) | (simp [intOf]; omega)⟩
                exact ⟨k + 1, X + P + Q, l ++ [((X + P, X + P + Q), tx)], by go_num, by first | rfl | trivial, by omega, by rw [List.length_append]; simp; omega, by omega, by omega, HFIN.out _ _ hv4, hide HG2.out, hide (fun h => by omega), hb4⟩
        · by_cases hy : (a0.size : Int) < X + P + Q
          · have e5 : decide ((a0.size : Int) < X + P + Q) = true := by simp; omega
            go_wp2
            refine ⟨?_, by first | (simp [intOf]; done) | (simp [intOf]; omega)⟩
            exact ⟨k + 1, X, l, by go_num, by first | rfl | trivial, by omega, by omega, hX0, hXS, HO, HG, hide (fun h => by omega), hbl⟩
          · have e5 : decide ((a0.size : Int) < X + P + Q) = false := by simp; omega
            rcases Nat.eq_zero_or_pos k with hk0 | hk0
            · have e6 : decide ((0 : Int) < (k : Int)) = false := by simp; omega
              have e6' : decide (0 < k) = false := by simp; omega
              have HX : A < A ∨ True := .inr trivial
              clear HX
              have HX : X < X + P ∨ (l = [] ∧ X ≤ X + P) := .inr ⟨HK.out hk0, by omega⟩
              have hfin : ∀ (v' : Value) (W : World), W.ownsRow wB.heap.size 61 3 v' (l.length + 1) (flatE l ++ [.int .i64 (X + P), .int .i64 (X + P + Q), .string tx]) → Hid (W.ownsRow wB.heap.size 61 3 v' (l ++ [((X + P, X + P + Q), tx)]).length (flatE (l ++ [((X + P, X + P + Q), tx)]))) := fun v' W h => hide (by rw [List.length_append, flatE_app]; exact h)
              have HFIN := hide hfin
              have HG2 := hide (gath_snoc (s := tx) HG.out HX (show X + P ≤ X + P + Q by omega) (by omega) (by simp at *; omega) (by simp at *; omega) (by omega))
              have hrow := HO.out
              have hwBr : wB.heap.size ≤ wr.heap.size := hbl.size
              clear hfin HX
              (try clear hk0)
              (try clear hxx)
              go_wp2_with (at_builtin; (refine wpList_push wr rfl _ _ 35 rfl wB.heap.size 61 i0 (.agg #[.int .i64 0, .int .i64 0, .string ⟨#[]⟩]) 3 32 Try.underlying35 hi0 hz0' hz1 hz2 rfl (by decide) (.slice aV l.length cV) l.length (flatE l) rfl hrow 1 #[.int .i64 (X + P), .int .i64 (X + P + Q), .string tx] rfl rfl (by simp [Value.oneCell']) (by omega) (by decide) (by omega) ?_); intro v' w4 hv4 hg4 hat)
              have hb4 : Below wB.heap.size wB w4 := bl_own hbl hrow hg4 (Nat.le_refl _)
              refine ⟨?_, by first | (simp [intOf]; done) | (simp [intOf]; omega)⟩
              exact ⟨k + 1, X + P + Q, l ++ [((X + P, X + P + Q), tx)], by go_num, by first | rfl | trivial, by omega, by rw [List.length_append]; simp; omega, by omega, by omega, HFIN.out _ _ hv4, hide HG2.out, hide (fun h => by omega), hb4⟩
            · have e6 : decide ((0 : Int) < (k : Int)) = true := by simp; omega
              have e6' : decide (0 < k) = true := by simp; omega
              by_cases hxx : X + P = X
              · have e7 : (X + P == X) = true := beq_iff_eq.2 hxx
                clear hxx
                go_wp2
                refine ⟨?_, by first | (simp [intOf]; done) | (simp [intOf]; omega)⟩
                exact ⟨k + 1, X, l, by go_num, by first | rfl | trivial, by omega, by omega, hX0, hXS, HO, HG, hide (fun h => by omega), hbl⟩
              · have e7 : (X + P == X) = false := beq_eq_false_iff_ne.2 hxx
                have HX : X < X + P ∨ (l = [] ∧ X ≤ X + P) := .inl (by omega)
                have hfin : ∀ (v' : Value) (W : World), W.ownsRow wB.heap.size 61 3 v' (l.length + 1) (flatE l ++ [.int .i64 (X + P), .int .i64 (X + P + Q), .string tx]) → Hid (W.ownsRow wB.heap.size 61 3 v' (l ++ [((X + P, X + P + Q), tx)]).length (flatE (l ++ [((X + P, X + P + Q), tx)]))) := fun v' W h => hide (by rw [List.length_append, flatE_app]; exact h)
                have HFIN := hide hfin
                have HG2 := hide (gath_snoc (s := tx) HG.out HX (show X + P ≤ X + P + Q by omega) (by omega) (by simp at *; omega) (by simp at *; omega) (by omega))
                have hrow := HO.out
                have hwBr : wB.heap.size ≤ wr.heap.size := hbl.size
                clear hfin HX
                (try clear hk0)
                (try clear hxx)
                go_wp2_with (at_builtin; (refine wpList_push wr rfl _ _ 35 rfl wB.heap.size 61 i0 (.agg #[.int .i64 0, .int .i64 0, .string ⟨#[]⟩]) 3 32 Try.underlying35 hi0 hz0' hz1 hz2 rfl (by decide) (.slice aV l.length cV) l.length (flatE l) rfl hrow 1 #[.int .i64 (X + P), .int .i64 (X + P + Q), .string tx] rfl rfl (by simp [Value.oneCell']) (by omega) (by decide) (by omega) ?_); intro v' w4 hv4 hg4 hat)
                have hb4 : Below wB.heap.size wB w4 := bl_own hbl hrow hg4 (Nat.le_refl _)
                refine ⟨?_, by first | (simp [intOf]; done) | (simp [intOf]; omega)⟩
                exact ⟨k + 1, X + P + Q, l ++ [((X + P, X + P + Q), tx)], by go_num, by first | rfl | trivial, by omega, by rw [List.length_append]; simp; omega, by omega, by omega, HFIN.out _ _ hv4, hide HG2.out, hide (fun h => by omega), hb4⟩
    · have hd : (decide ((k : Int) < (l4.length : Int)) = false) ∨ (decide ((k : Int) < (l4.length : Int)) = true ∧ decide ((k : Int) < (len5 : Int)) = false) := by
        by_cases h : k < l4.length
        · exact .inr ⟨by simp; omega, by simp; omega⟩
        · exact .inl (by simp; omega)
      have hll : l.length ≤ 8 := by omega
      have HGD := hide (gathered HG.out h1 hll)
      have HGG := hide HG.out
      have HE := hide (own_edat HO.out)
      rw [hvE] at HE
      subst hvE
      have HBK := hide (range_back a3_0 a3_1 HG.out (by omega : A ≤ A + M))
      have HTH := hide (range_there a3_0 a3_1 HG.out (by omega : A ≤ A + M))
      have HB0 := hide (moved_bound a3_0 HG.out h1 hll A (by omega))
      have HB1 := hide (moved_bound a3_1 HG.out h1 hll (A + M) (by omega))
      clear HG HK HO hX0 hXS hlk W4 W5 HLM5 hlt hk
      have hmay : mayB (A, A + M) 65536 = true := by unfold mayB; simp; omega
      have hdd : Hid (l.length ≤ 8) := hide hll
      rcases hd with hd | ⟨hd, hd'⟩
      all_goals (try have hd2' : decide (k < l4.length) = false := by simp at hd ⊢; omega)
      all_goals (try have hd3' : decide (k < l4.length) = true := by simp at hd ⊢; omega)
      all_goals (try have hd4' : decide (k < len5) = false := by simp at hd' ⊢; omega)
      all_goals
        go_wp2_with fail
        refine (back_fine a0 (inv (bts a0) 0 l) _ l _ HE.out (by omega) HGD.out.small (by omega) HGD.out.fine HGD.out.back).mono ?_
        rintro e w3 ⟨vb, rfl, hb3, hob⟩
        have HEB := hide (own_edat hob)
        obtain ⟨aK, cK, rfl⟩ := own_slice hob
        have HE3 := hide (edat_below HE.out hb3)
        have b3 : Below wB.heap.size wB w3 := bl_trans hbl hb3
        have T0 := hide (tab_new w3)
        have B0 := hide (bl_alloc (bl_refl w3) (.cells #[.int .i64 0, .slice none 0 0] 75))
        have hs3 : w3.heap.size ≤ (w3.alloc (.cells #[.int .i64 0, .slice none 0 0] 75)).heap.size := by simp
        clear HE hob hb3
        go_wp2_with fail
        refine (mnew_any _).mono ?_
        rintro e w4 ⟨rfl, hw4⟩
        rw [hw4] at T0 B0 hs3
        clear hw4
        have b4 : Below wB.heap.size wB w4 := b3.trans (B0.out.mono b3.size)
        have c40 := b4.cell (p := ⟨w.heap.size, 0, none⟩) hltB
        have c41 := b4.cell (p := ⟨w.heap.size, 1, none⟩) hltB
        rw [hb0] at c40
        rw [hb1] at c41
        have hl4 : w.heap.size < w4.heap.size := Nat.lt_of_lt_of_le hltB b4.size
        go_wp2_with fail
        refine (add_any w3.heap.size w3.heap.size 0 _ [] A (A + M) a3_0 a3_1 _ T0.out (by omega) hs3 hmay (by decide)).mono ?_
        rintro e w5 ⟨rfl, ⟨v5, T5⟩, B5⟩
        rw [List.nil_append, show (0 : Int) + 1 = 1 from rfl] at T5
        have B35 := B0.out.trans B5
        have HMOVE := hide (tmove_any w3.heap.size w3.heap.size _ v5 _ _ l _ T5 (rise_one _) (by simp) B35.size (edat_below HE3.out B35) (by have := hdd.out; omega) HGD.out.good HGD.out.may (by intro r hr; rw [List.mem_singleton] at hr; subst hr; simp only; omega))
        rw [HGD.out.sorted, HTH.out] at HMOVE
        clear T5 T0 c40 c41
        go_wp2_with fail
        refine HMOVE.out.mono ?_
        rintro e w6 ⟨rfl, T6, B6⟩
        have B36 := B35.trans B6
        have HMOVE2 := hide (tmove_any w3.heap.size w3.heap.size _ v5 _ _ (inv (bts a0) 0 l) _ T6 (rise_one _) (by simp) B36.size (edat_below HEB.out B36) (by rw [HGD.out.blen]; have := hdd.out; omega) HGD.out.bgood HGD.out.bmay (by intro r hr; rw [List.mem_singleton] at hr; subst hr; exact ⟨by simp, HB0.out, HB1.out⟩))
        rw [HGD.out.bsorted, ← HTH.out, HBK.out] at HMOVE2
        clear T6 HMOVE
        go_wp2_with fail
        refine HMOVE2.out.mono ?_
        rintro e w7 ⟨rfl, T7, B7⟩
        have B37 := B36.trans B7
        have b7 : Below wB.heap.size wB w7 := b3.trans (B37.mono b3.size)
        have HT7 := hide T7
        clear T7 HMOVE2
        go_wp2_with fail
        refine (get_any w3.heap.size w3.heap.size _ _ _ 1 _ HT7.out (rise_one _) (by simp)).mono ?_
        rintro e w8 ⟨⟨r, ok, rfl, hgot⟩, hb8⟩
        obtain ⟨rfl, rfl⟩ := got_one hgot rfl
        have b8 := fun o => bl_alloc (bl_trans (bl_trans hba b7) hb8) o
        clear hgot HT7
        unfold vR
        go_wp2_with fail
        refine (awake7_any _).mono ?_
        rintro e w9 ⟨rfl, hb9⟩
        have b9 := bl_trans (b8 _) hb9
        go_wp2
        go_ret
        exact ⟨rfl, b9⟩

set_option maxRecDepth 100000 in
theorem lifted (os : Os) (started : os.Started) (H : Type) (enc : TypeId × Value → H) :
    ReturnsInHanded {} Try.checked os 11 .any (Rows.marksReturnSpec.pre6 enc Try.prog Try.f11 Rows.marksReturnRow.domain false) (Rows.marksReturnSpec.post enc Try.prog Try.f11 false true false false) := by
  refine returnsInHanded_of_change (C := Try.checked) own started (by kernel_rfl) Try.func11
    (ChangeSpec.witness6 (enc := enc) (C := Try.checked) false ⟨#[], #[.string ByteArray.empty, .int .i64 0, .int .i64 0, .agg #[.bool false, .bool false], .slice none 0 0, .slice none 0 0], []⟩ 8 (by kernel_rfl) (by kernel_rfl) (by kernel_rfl) (by kernel_rfl)) ?_
  intro W base args ds gs before hval0 hW hcnd _
  have hval : ∀ (j : Nat) t v, Try.f11.params[j]? = some t → args[j]? = some v → Value.okWide Try.prog W .any base t v := hval0
  have hW' := hW
  obtain ⟨p, q, hA0, hV, rfl, hfz, hnd⟩ := hW
  have hA : DataW.TrodAll enc Try.prog W 0 (fun _ => true) true Try.f11.params.toList args.toList ds p := hA0
  rw [Try.params11] at hA hval
  obtain ⟨v0, vs0, d0, ds0, p0, q0, hargs, rfl, rfl, h0, r0⟩ := trodAll_cons hA
  obtain ⟨v1, vs1, d1, ds1, p1, q1, rfl, rfl, rfl, h1, r1⟩ := trodAll_cons r0
  obtain ⟨v2, vs2, d2, ds2, p2, q2, rfl, rfl, rfl, h2, r2⟩ := trodAll_cons r1
  obtain ⟨v3, vs3, d3, ds3, p3, q3, rfl, rfl, rfl, h3, r3⟩ := trodAll_cons r2
  obtain ⟨v4, vs4, d4, ds4, p4, q4, rfl, rfl, rfl, h4, r4⟩ := trodAll_cons r3
  obtain ⟨v5, vs5, d5, ds5, p5, q5, rfl, rfl, rfl, h5, r5⟩ := trodAll_cons r4
  obtain ⟨rfl, rfl, rfl⟩ := trodAll_nil r5
  obtain rfl : args = #[v0, v1, v2, v3, v4, v5] := by cases args; simp_all
  obtain ⟨rfl, rfl⟩ := trodVars_none hV
  have k0 := h0
  have lt0 : ∀ x ∈ p0, x.block < W.heap.size := by obtain ⟨m, hm⟩ := k0; exact DataW.trod_lt m _ _ _ hm
  obtain ⟨a0, rfl, hd0, hp0, w0⟩ := open_string Try.underlying9 (hval 0 9 v0 rfl rfl) h0
  have k1 := h1
  have lt1 : ∀ x ∈ p1, x.block < W.heap.size := by obtain ⟨m, hm⟩ := k1; exact DataW.trod_lt m _ _ _ hm
  obtain ⟨a1, rfl, hd1, hp1, w1⟩ := open_int Try.underlying3 (hval 1 3 v1 rfl rfl) h1
  have k2 := h2
  have lt2 : ∀ x ∈ p2, x.block < W.heap.size := by obtain ⟨m, hm⟩ := k2; exact DataW.trod_lt m _ _ _ hm
  obtain ⟨a2, rfl, hd2, hp2, w2⟩ := open_int Try.underlying3 (hval 2 3 v2 rfl rfl) h2
  have k3 := h3
  have lt3 : ∀ x ∈ p3, x.block < W.heap.size := by obtain ⟨m, hm⟩ := k3; exact DataW.trod_lt m _ _ _ hm
  obtain ⟨a3_0, a3_1, rfl⟩ := open_bools2 Try.underlying64 Try.underlying4 (by kernel_rfl) (by kernel_rfl) (hval 3 64 v3 rfl rfl) h3
  have k4 := h4
  have lt4 : ∀ x ∈ p4, x.block < W.heap.size := by obtain ⟨m, hm⟩ := k4; exact DataW.trod_lt m _ _ _ hm
  obtain ⟨l4, w4, b4⟩ := open_pairs (hval 4 53 v4 rfl rfl) h4
  have k5 := h5
  have lt5 : ∀ x ∈ p5, x.block < W.heap.size := by obtain ⟨m, hm⟩ := k5; exact DataW.trod_lt m _ _ _ hm
  obtain ⟨a5, len5, cap5, rfl⟩ := okWide_slice Try.underlying55 (hval 5 55 v5 rfl rfl)
  obtain ⟨z5, w5⟩ : ∃ zs, IsStrs W a5 len5 cap5 zs := by
    obtain ⟨fuel, hf⟩ := h5
    rcases open_strings Try.underlying55 Try.underlying9 (by kernel_rfl) hf with ⟨hcs, _⟩ | ⟨x, l, c, zs, hcs, _, hl, hm, hz, _, hcell, hwz⟩
    · simp [Value.cells] at hcs
      obtain ⟨rfl, rfl, rfl⟩ := hcs
      exact ⟨[], .inl ⟨rfl, rfl, rfl, rfl⟩⟩
    · simp [Value.cells] at hcs
      obtain ⟨rfl, rfl, rfl⟩ := hcs
      exact ⟨zs, .inr ⟨_, rfl, hl, hm, by simpa using hz, hcell, hwz⟩⟩
  clear hA0 hval0
  refine (walk a0 a1 a2 a3_0 a3_1 v4 l4 a5 len5 cap5 z5 W w0 w1 w2 w4 b4 w5).mono fun e W' ⟨he, bel⟩ => ?_
  subst he
  exact ⟨_, rfl, _, _, _, [], _, [], hW', trodAll_mk1 (shut_bool Try.underlying4 _), (trodAll_cons_mk (Below.trod laidOut (by kernel_rfl) (of_decide_eq_true (by kernel_rfl)) k0 bel lt0) (trodAll_cons_mk (Below.trod laidOut (by kernel_rfl) (of_decide_eq_true (by kernel_rfl)) k1 bel lt1) (trodAll_cons_mk (Below.trod laidOut (by kernel_rfl) (of_decide_eq_true (by kernel_rfl)) k2 bel lt2) (trodAll_cons_mk (Below.trod laidOut (by kernel_rfl) (of_decide_eq_true (by kernel_rfl)) k3 bel lt3) (trodAll_cons_mk (Below.trod laidOut (by kernel_rfl) (of_decide_eq_true (by kernel_rfl)) k4 bel lt4) (trodAll_cons_mk (Below.trod laidOut (by kernel_rfl) (of_decide_eq_true (by kernel_rfl)) k5 bel lt5) trodAll_mk0)))))), rfl, bel.frame _, fun h => by cases h⟩

theorem over : Rows.marksReturnRow.holds Try.pinned (OpenSpec.ofChange Rows.marksReturnSpec) :=
  OpenClaim.holds_of_wide 11 Try.f11 rfl rfl rfl rfl rfl rfl rfl ⟨rfl, rfl, rfl, rfl, rfl⟩ rfl rfl rfl rfl rfl (by kernel_rfl) Try.func11 (by kernel_rfl)
    (of_decide_eq_true (by kernel_rfl)) (by unfold Func.isWrapper; first | (rw [if_pos (by decide +kernel)]; kernel_rfl) | (rw [if_neg (by decide +kernel)]; exact ⟨rfl, rfl⟩))
    (fun os started H enc _ => lifted os started H enc)

theorem proved : Rows.MarksReturnSaid := over
end Go.Proofs.Ytjmoeahlbgdkbaa.marksReturn
