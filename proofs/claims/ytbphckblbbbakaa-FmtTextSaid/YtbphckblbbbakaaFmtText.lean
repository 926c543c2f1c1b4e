/- A text without the four signs is read as itself; with a backslash ahead of each of them, too. Conditions: none beyond the form's own. -/
import Derived.Test.YtbphckblbbbakaaRows
import Derived.Test.YtbphckblbbbakaaArgs
import Derived.Test.YtbphckblbbbakaaFmZ
namespace Go.Proofs.Ytbphckblbbbakaa.fmtText
open Go.Proofs.Ytbphckblbbbakaa
open Go.ChangeShapes Go.WideShapes Go.ChangeAt Go.RowKit Go.Deep
open Go.ChangeMaps (open_string shut_string)
set_option linter.unusedVariables false

theorem own : ownKnob Try.prog.godebug = none := by kernel_rfl
theorem laidOut : laidOutB Try.prog = true := by kernel_rfl
-- opt: 8000000
/-- The bytes of a text that are put in. -/
def keptF (p : Bool) (l : List UInt8) : List UInt8 := if p = true then l.filter (fun c => !decide (c ∈ inT)) else l
theorem guard_app (of l m : List UInt8) : guardF of (l ++ m) = guardF of l ++ guardF of m := by
  induction l with
  | nil => rfl
  | cons c l ih => rw [List.cons_append, guardF, guardF, ih]; split <;> rfl
theorem kept_app (p : Bool) (l : List UInt8) (c : UInt8) : keptF p (l ++ [c]) = keptF p l ++ (if p = true ∧ c ∈ inT then [] else [c]) := by
  unfold keptF
  cases p
  · simp
  · by_cases h : c ∈ inT <;> simp [h]
theorem kept_len (p : Bool) (l : List UInt8) : (keptF p l).length ≤ l.length := by
  unfold keptF; split
  · exact List.length_filter_le _ _
  · exact Nat.le_refl _
theorem take_snoc (s : ByteArray) (k : Nat) (h : k < s.size) : s.data.toList.take (k + 1) = s.data.toList.take k ++ [s[k]] := by
  rw [List.take_succ_eq_append_getElem (by simpa using h)]; rfl
theorem conv_drop (l : List UInt8) : (mkB l ++ (⟨#[47]⟩ : ByteArray)).data.toList.drop 0 = l ++ [47] := by rw [ByteArray.toList_data_append]; rfl
theorem eql_txt (t e : ByteArray) (w : World) : (binOp .eql 28 (.agg #[.int .i64 0, .int .i64 0, .int .i64 0, .string t, .string e]) (.agg #[.int .i64 0, .int .i64 0, .int .i64 0, .string t, .string e])).run Try.prog w = .ok (.bool true) w := by
  rw [eql_fm, eqF_self]
attribute [local go_sem] eqge_fm later_cell later_frozen
attribute [local go_sem ↓] eql_txt
set_option maxRecDepth 100000 in
set_option maxHeartbeats 8000000 in
theorem walk (a0 : ByteArray) (a1 : Bool) (w : World) (w0 : a0.size ≤ maxLen) :
    Calls Try.prog 3 #[.string a0, .bool a1] w fun e w' => e = .returned (.bool true) ∧ Below w.heap.size w w' := by
  by_cases hA : 100 < a0.size
  · have g1 : decide ((100 : Int) < (a0.size : Int)) = true := decide_eq_true (by omega)
    have g1' : decide (100 < a0.size) = true := decide_eq_true hA
    clear hA
    go_enter Try.func3, Try.ntmps3
    go_wp2_with fail
    refine (awake18_any _).mono ?_
    rintro e w9 ⟨rfl, hb9⟩
    go_wp2
    go_ret
    exact ⟨rfl, hb9⟩
  have g1 : decide ((100 : Int) < (a0.size : Int)) = false := decide_eq_false (by omega)
  have g1' : decide (100 < a0.size) = false := decide_eq_false hA
  obtain ⟨i0, hi0, hz0', hz1, hz2⟩ := info_parts info_by
  go_enter Try.func3, Try.ntmps3
  go_wp2
  clear g1 g1'
  go_loopw [5, 6, 7] (fun b c i wr => ∃ (k : Nat) (X Y : List UInt8), i = .int .i64 k ∧ k ≤ a0.size ∧ X.length ≤ 2 * k ∧ Y.length ≤ k ∧ Hid (guardF inT Y = X) ∧ Hid (keptF a1 (a0.data.toList.take k) = Y) ∧ Hid (Two wr w.heap.size b c X Y) ∧ Hid (Below w.heap.size w wr)) (fun _ _ i _ => a0.size - (intOf i).toNat)
  case atStart => exact ⟨0, [], [], rfl, Nat.zero_le _, Nat.zero_le _, Nat.zero_le _, hide rfl, hide (by unfold keptF; split <;> rfl), hide (two_new _ _), hide (bl_refl w)⟩
  case round =>
    obtain ⟨k, X, Y, rfl, hk, hX, hY, HX, HY, HT, HB⟩ := hrel
    by_cases hlt : k < a0.size
    · have hyn := kept_app a1 (a0.data.toList.take k) a0[k]
      rw [← take_snoc a0 k hlt, HY.out] at hyn
      have hxn := guard_app inT Y [a0[k]]
      rw [HX.out] at hxn
      obtain ⟨c, hc⟩ : ∃ c, a0[k] = c := ⟨_, rfl⟩
      rw [hc] at hyn hxn
      have hsc : (a0[k].toNat : Int) = c.toNat := by rw [hc]
      have gl : decide ((k : Int) < (a0.size : Int)) = true := decide_eq_true (by omega)
      have gl' : decide (k < a0.size) = true := decide_eq_true hlt
      have e5 : IntKind.i64.wrap ((k : Int) + 1) = (k : Int) + 1 := by rw [IntKind.wrap_i64]; omega
      have i1 : (0 : Int) ≤ (k : Int) := by omega
      have i2 : (k : Int) < (a0.size : Int) := by omega
      have hh0 : w.heap.size ≤ wr.heap.size := HB.out.size
      have hin : c ∈ inT ↔ (c.toNat = 36 ∨ c.toNat = 125 ∨ c.toNat = 92 ∨ c.toNat = 47) := by
        have key : ∀ d : UInt8, c = d ↔ c.toNat = d.toNat := fun d => ⟨fun e => by rw [e], fun e => UInt8.toNat_inj.1 e⟩
        simp only [inT, List.mem_cons, List.not_mem_nil, or_false, key]; rfl
      have n92 : ((92 : UInt8).toNat : Int) = 92 := rfl
      clear hc
      by_cases hs : c ∈ inT
      · rw [show guardF inT [c] = [92, c] by simp [guardF, hs]] at hxn
        have hcase := hin.1 hs
        cases a1
        · rw [if_neg (by simp)] at hyn
          have HXN := hide (show guardF inT (Y ++ [c]) = X ++ [92] ++ [c] by rw [hxn, List.append_assoc]; rfl)
          have HYN := hide hyn
          have HLN := hide (show k + 1 ≤ a0.size ∧ (X ++ [92] ++ [c]).length ≤ 2 * (k + 1) ∧ (Y ++ [c]).length ≤ k + 1 by simp; omega)
          clear hyn hxn hin hs HX HY
          rcases hcase with h | h | h | h
          · have z0 : ((c.toNat : Int) == 36) = true := by rw [h]; rfl
            have z1 : ((c.toNat : Int) == 125) = false := by rw [h]; rfl
            have z2 : ((c.toNat : Int) == 92) = false := by rw [h]; rfl
            have z3 : ((c.toNat : Int) == 47) = false := by rw [h]; rfl
            clear h
            go_wp2_with (first | (at_builtin; (refine wpList_push wr (by rfl) (.tmp 49) (.tmp 50) 23 (by rfl) w.heap.size 5 i0 (.int .u8 0) 1 1 Try.underlying23 hi0 hz0' hz1 hz2 rfl (by decide) _ X.length (Lib.byteCells X) (by rfl) HT.out.one 1 #[.int .u8 92] (by rfl) (by rfl) (by simp [Value.oneCell']) (by omega) (by decide) hh0 ?_); intro v4 w4 hv4 hg4 hat4; have T4 := hide (HT.out.pushB 92 hg4 hv4 hat4); have hh4 := Nat.le_trans hh0 hg4.size; have B4 := hide (bl_own HB.out HT.out.one hg4 (Nat.le_refl _)); clear hv4 hat4 hg4) | (at_builtin; (refine wpList_push w4 (by rfl) (.tmp 52) (.tmp 56) 23 (by rfl) w.heap.size 5 i0 (.int .u8 0) 1 1 Try.underlying23 hi0 hz0' hz1 hz2 rfl (by decide) _ (X ++ [92]).length (Lib.byteCells (X ++ [92])) (by rfl) T4.out.one 1 #[.int .u8 (c.toNat : Int)] (by rfl) (by rfl) (by simp [Value.oneCell']) (by simp; omega) (by decide) hh4 ?_); intro v5 w5 hv5 hg5 hat5; have T5 := hide (T4.out.pushB c hg5 hv5 hat5); have hh5 := Nat.le_trans hh4 hg5.size; have B5 := hide (bl_own B4.out T4.out.one hg5 (Nat.le_refl _)); clear hv5 hat5 hg5) | (at_builtin; (refine wpList_push w5 (by rfl) (.tmp 58) (.tmp 62) 23 (by rfl) w.heap.size 5 i0 (.int .u8 0) 1 1 Try.underlying23 hi0 hz0' hz1 hz2 rfl (by decide) _ Y.length (Lib.byteCells Y) (by rfl) T5.out.two 1 #[.int .u8 (c.toNat : Int)] (by rfl) (by rfl) (by simp [Value.oneCell']) (by omega) (by decide) hh5 ?_); intro v6 w6 hv6 hg6 hat6; have T6 := hide (T5.out.pushC c hg6 hv6 hat6); have B6 := hide (bl_own B5.out T5.out.two hg6 (Nat.le_refl _)); clear hv6 hat6 hg6))
            refine ⟨?_, by first | (simp [intOf]; done) | (simp [intOf]; omega)⟩
            first
              | exact ⟨k + 1, _, _, by go_num, HLN.out.1, HLN.out.2.1, HLN.out.2.2, HXN, HYN, T6, B6⟩
              | ((repeat apply Exists.intro); exact ⟨⟨k + 1, _, _, by go_num, HLN.out.1, HLN.out.2.1, HLN.out.2.2, HXN, HYN, T6, B6⟩, rfl⟩)
          · have z0 : ((c.toNat : Int) == 36) = false := by rw [h]; rfl
            have z1 : ((c.toNat : Int) == 125) = true := by rw [h]; rfl
            have z2 : ((c.toNat : Int) == 92) = false := by rw [h]; rfl
            have z3 : ((c.toNat : Int) == 47) = false := by rw [h]; rfl
            clear h
            go_wp2_with (first | (at_builtin; (refine wpList_push wr (by rfl) (.tmp 49) (.tmp 50) 23 (by rfl) w.heap.size 5 i0 (.int .u8 0) 1 1 Try.underlying23 hi0 hz0' hz1 hz2 rfl (by decide) _ X.length (Lib.byteCells X) (by rfl) HT.out.one 1 #[.int .u8 92] (by rfl) (by rfl) (by simp [Value.oneCell']) (by omega) (by decide) hh0 ?_); intro v4 w4 hv4 hg4 hat4; have T4 := hide (HT.out.pushB 92 hg4 hv4 hat4); have hh4 := Nat.le_trans hh0 hg4.size; have B4 := hide (bl_own HB.out HT.out.one hg4 (Nat.le_refl _)); clear hv4 hat4 hg4) | (at_builtin; (refine wpList_push w4 (by rfl) (.tmp 52) (.tmp 56) 23 (by rfl) w.heap.size 5 i0 (.int .u8 0) 1 1 Try.underlying23 hi0 hz0' hz1 hz2 rfl (by decide) _ (X ++ [92]).length (Lib.byteCells (X ++ [92])) (by rfl) T4.out.one 1 #[.int .u8 (c.toNat : Int)] (by rfl) (by rfl) (by simp [Value.oneCell']) (by simp; omega) (by decide) hh4 ?_); intro v5 w5 hv5 hg5 hat5; have T5 := hide (T4.out.pushB c hg5 hv5 hat5); have hh5 := Nat.le_trans hh4 hg5.size; have B5 := hide (bl_own B4.out T4.out.one hg5 (Nat.le_refl _)); clear hv5 hat5 hg5) | (at_builtin; (refine wpList_push w5 (by rfl) (.tmp 58) (.tmp 62) 23 (by rfl) w.heap.size 5 i0 (.int .u8 0) 1 1 Try.underlying23 hi0 hz0' hz1 hz2 rfl (by decide) _ Y.length (Lib.byteCells Y) (by rfl) T5.out.two 1 #[.int .u8 (c.toNat : Int)] (by rfl) (by rfl) (by simp [Value.oneCell']) (by omega) (by decide) hh5 ?_); intro v6 w6 hv6 hg6 hat6; have T6 := hide (T5.out.pushC c hg6 hv6 hat6); have B6 := hide (bl_own B5.out T5.out.two hg6 (Nat.le_refl _)); clear hv6 hat6 hg6))
            refine ⟨?_, by first | (simp [intOf]; done) | (simp [intOf]; omega)⟩
            first
              | exact ⟨k + 1, _, _, by go_num, HLN.out.1, HLN.out.2.1, HLN.out.2.2, HXN, HYN, T6, B6⟩
              | ((repeat apply Exists.intro); exact ⟨⟨k + 1, _, _, by go_num, HLN.out.1, HLN.out.2.1, HLN.out.2.2, HXN, HYN, T6, B6⟩, rfl⟩)
          · have z0 : ((c.toNat : Int) == 36) = false := by rw [h]; rfl
            have z1 : ((c.toNat : Int) == 125) = false := by rw [h]; rfl
            have z2 : ((c.toNat : Int) == 92) = true := by rw [h]; rfl
            have z3 : ((c.toNat : Int) == 47) = false := by rw [h]; rfl
            clear h
            go_wp2_with (first | (at_builtin; (refine wpList_push wr (by rfl) (.tmp 49) (.tmp 50) 23 (by rfl) w.heap.size 5 i0 (.int .u8 0) 1 1 Try.underlying23 hi0 hz0' hz1 hz2 rfl (by decide) _ X.length (Lib.byteCells X) (by rfl) HT.out.one 1 #[.int .u8 92] (by rfl) (by rfl) (by simp [Value.oneCell']) (by omega) (by decide) hh0 ?_); intro v4 w4 hv4 hg4 hat4; have T4 := hide (HT.out.pushB 92 hg4 hv4 hat4); have hh4 := Nat.le_trans hh0 hg4.size; have B4 := hide (bl_own HB.out HT.out.one hg4 (Nat.le_refl _)); clear hv4 hat4 hg4) | (at_builtin; (refine wpList_push w4 (by rfl) (.tmp 52) (.tmp 56) 23 (by rfl) w.heap.size 5 i0 (.int .u8 0) 1 1 Try.underlying23 hi0 hz0' hz1 hz2 rfl (by decide) _ (X ++ [92]).length (Lib.byteCells (X ++ [92])) (by rfl) T4.out.one 1 #[.int .u8 (c.toNat : Int)] (by rfl) (by rfl) (by simp [Value.oneCell']) (by simp; omega) (by decide) hh4 ?_); intro v5 w5 hv5 hg5 hat5; have T5 := hide (T4.out.pushB c hg5 hv5 hat5); have hh5 := Nat.le_trans hh4 hg5.size; have B5 := hide (bl_own B4.out T4.out.one hg5 (Nat.le_refl _)); clear hv5 hat5 hg5) | (at_builtin; (refine wpList_push w5 (by rfl) (.tmp 58) (.tmp 62) 23 (by rfl) w.heap.size 5 i0 (.int .u8 0) 1 1 Try.underlying23 hi0 hz0' hz1 hz2 rfl (by decide) _ Y.length (Lib.byteCells Y) (by rfl) T5.out.two 1 #[.int .u8 (c.toNat : Int)] (by rfl) (by rfl) (by simp [Value.oneCell']) (by omega) (by decide) hh5 ?_); intro v6 w6 hv6 hg6 hat6; have T6 := hide (T5.out.pushC c hg6 hv6 hat6); have B6 := hide (bl_own B5.out T5.out.two hg6 (Nat.le_refl _)); clear hv6 hat6 hg6))
            refine ⟨?_, by first | (simp [intOf]; done) | (simp [intOf]; omega)⟩
            first
              | exact ⟨k + 1, _, _, by go_num, HLN.out.1, HLN.out.2.1, HLN.out.2.2, HXN, HYN, T6, B6⟩
              | ((repeat apply Exists.intro); exact ⟨⟨k + 1, _, _, by go_num, HLN.out.1, HLN.out.2.1, HLN.out.2.2, HXN, HYN, T6, B6⟩, rfl⟩)
          · have z0 : ((c.toNat : Int) == 36) = false := by rw [h]; rfl
            have z1 : ((c.toNat : Int) == 125) = false := by rw [h]; rfl
            have z2 : ((c.toNat : Int) == 92) = false := by rw [h]; rfl
            have z3 : ((c.toNat : Int) == 47) = true := by rw [h]; rfl
            clear h
            go_wp2_with (first | (at_builtin; (refine wpList_push wr (by rfl) (.tmp 49) (.tmp 50) 23 (by rfl) w.heap.size 5 i0 (.int .u8 0) 1 1 Try.underlying23 hi0 hz0' hz1 hz2 rfl (by decide) _ X.length (Lib.byteCells X) (by rfl) HT.out.one 1 #[.int .u8 92] (by rfl) (by rfl) (by simp [Value.oneCell']) (by omega) (by decide) hh0 ?_); intro v4 w4 hv4 hg4 hat4; have T4 := hide (HT.out.pushB 92 hg4 hv4 hat4); have hh4 := Nat.le_trans hh0 hg4.size; have B4 := hide (bl_own HB.out HT.out.one hg4 (Nat.le_refl _)); clear hv4 hat4 hg4) | (at_builtin; (refine wpList_push w4 (by rfl) (.tmp 52) (.tmp 56) 23 (by rfl) w.heap.size 5 i0 (.int .u8 0) 1 1 Try.underlying23 hi0 hz0' hz1 hz2 rfl (by decide) _ (X ++ [92]).length (Lib.byteCells (X ++ [92])) (by rfl) T4.out.one 1 #[.int .u8 (c.toNat : Int)] (by rfl) (by rfl) (by simp [Value.oneCell']) (by simp; omega) (by decide) hh4 ?_); intro v5 w5 hv5 hg5 hat5; have T5 := hide (T4.out.pushB c hg5 hv5 hat5); have hh5 := Nat.le_trans hh4 hg5.size; have B5 := hide (bl_own B4.out T4.out.one hg5 (Nat.le_refl _)); clear hv5 hat5 hg5) | (at_builtin; (refine wpList_push w5 (by rfl) (.tmp 58) (.tmp 62) 23 (by rfl) w.heap.size 5 i0 (.int .u8 0) 1 1 Try.underlying23 hi0 hz0' hz1 hz2 rfl (by decide) _ Y.length (Lib.byteCells Y) (by rfl) T5.out.two 1 #[.int .u8 (c.toNat : Int)] (by rfl) (by rfl) (by simp [Value.oneCell']) (by omega) (by decide) hh5 ?_); intro v6 w6 hv6 hg6 hat6; have T6 := hide (T5.out.pushC c hg6 hv6 hat6); have B6 := hide (bl_own B5.out T5.out.two hg6 (Nat.le_refl _)); clear hv6 hat6 hg6))
            refine ⟨?_, by first | (simp [intOf]; done) | (simp [intOf]; omega)⟩
            first
              | exact ⟨k + 1, _, _, by go_num, HLN.out.1, HLN.out.2.1, HLN.out.2.2, HXN, HYN, T6, B6⟩
              | ((repeat apply Exists.intro); exact ⟨⟨k + 1, _, _, by go_num, HLN.out.1, HLN.out.2.1, HLN.out.2.2, HXN, HYN, T6, B6⟩, rfl⟩)
        · rw [if_pos ⟨rfl, hs⟩, List.append_nil] at hyn
          have HYN := hide hyn
          have HLN := hide (show k + 1 ≤ a0.size ∧ X.length ≤ 2 * (k + 1) ∧ Y.length ≤ k + 1 by omega)
          clear hyn hxn hin hs HY
          rcases hcase with h | h | h | h
          · have z0 : ((c.toNat : Int) == 36) = true := by rw [h]; rfl
            have z1 : ((c.toNat : Int) == 125) = false := by rw [h]; rfl
            have z2 : ((c.toNat : Int) == 92) = false := by rw [h]; rfl
            have z3 : ((c.toNat : Int) == 47) = false := by rw [h]; rfl
            clear h
            go_wp2
            refine ⟨?_, by first | (simp [intOf]; done) | (simp [intOf]; omega)⟩
            first
              | exact ⟨k + 1, X, Y, by go_num, HLN.out.1, HLN.out.2.1, HLN.out.2.2, HX, HYN, HT, HB⟩
              | ((repeat apply Exists.intro); exact ⟨⟨k + 1, X, Y, by go_num, HLN.out.1, HLN.out.2.1, HLN.out.2.2, HX, HYN, HT, HB⟩, rfl⟩)
          · have z0 : ((c.toNat : Int) == 36) = false := by rw [h]; rfl
            have z1 : ((c.toNat : Int) == 125) = true := by rw [h]; rfl
            have z2 : ((c.toNat : Int) == 92) = false := by rw [h]; rfl
            have z3 : ((c.toNat : Int) == 47) = false := by rw [h]; rfl
            clear h
            go_wp2
            refine ⟨?_, by first | (simp [intOf]; done) | (simp [intOf]; omega)⟩
            first
              | exact ⟨k + 1, X, Y, by go_num, HLN.out.1, HLN.out.2.1, HLN.out.2.2, HX, HYN, HT, HB⟩
              | ((repeat apply Exists.intro); exact ⟨⟨k + 1, X, Y, by go_num, HLN.out.1, HLN.out.2.1, HLN.out.2.2, HX, HYN, HT, HB⟩, rfl⟩)
          · have z0 : ((c.toNat : Int) == 36) = false := by rw [h]; rfl
            have z1 : ((c.toNat : Int) == 125) = false := by rw [h]; rfl
            have z2 : ((c.toNat : Int) == 92) = true := by rw [h]; rfl
            have z3 : ((c.toNat : Int) == 47) = false := by rw [h]; rfl
            clear h
            go_wp2
            refine ⟨?_, by first | (simp [intOf]; done) | (simp [intOf]; omega)⟩
            first
              | exact ⟨k + 1, X, Y, by go_num, HLN.out.1, HLN.out.2.1, HLN.out.2.2, HX, HYN, HT, HB⟩
              | ((repeat apply Exists.intro); exact ⟨⟨k + 1, X, Y, by go_num, HLN.out.1, HLN.out.2.1, HLN.out.2.2, HX, HYN, HT, HB⟩, rfl⟩)
          · have z0 : ((c.toNat : Int) == 36) = false := by rw [h]; rfl
            have z1 : ((c.toNat : Int) == 125) = false := by rw [h]; rfl
            have z2 : ((c.toNat : Int) == 92) = false := by rw [h]; rfl
            have z3 : ((c.toNat : Int) == 47) = true := by rw [h]; rfl
            clear h
            go_wp2
            refine ⟨?_, by first | (simp [intOf]; done) | (simp [intOf]; omega)⟩
            first
              | exact ⟨k + 1, X, Y, by go_num, HLN.out.1, HLN.out.2.1, HLN.out.2.2, HX, HYN, HT, HB⟩
              | ((repeat apply Exists.intro); exact ⟨⟨k + 1, X, Y, by go_num, HLN.out.1, HLN.out.2.1, HLN.out.2.2, HX, HYN, HT, HB⟩, rfl⟩)
      · rw [if_neg (fun q => hs q.2)] at hyn
        rw [show guardF inT [c] = [c] by simp [guardF, hs]] at hxn
        have hno : ¬ (c.toNat = 36 ∨ c.toNat = 125 ∨ c.toNat = 92 ∨ c.toNat = 47) := fun q => hs (hin.2 q)
        have z0 : ((c.toNat : Int) == 36) = false := beq_eq_false_iff_ne.2 (by omega)
        have z1 : ((c.toNat : Int) == 125) = false := beq_eq_false_iff_ne.2 (by omega)
        have z2 : ((c.toNat : Int) == 92) = false := beq_eq_false_iff_ne.2 (by omega)
        have z3 : ((c.toNat : Int) == 47) = false := beq_eq_false_iff_ne.2 (by omega)
        have HXN := hide hxn
        have HYN := hide hyn
        have HLN := hide (show k + 1 ≤ a0.size ∧ (X ++ [c]).length ≤ 2 * (k + 1) ∧ (Y ++ [c]).length ≤ k + 1 by simp; omega)
        clear hyn hxn hin hs hno HX HY
        go_wp2_with (first | (at_builtin; (refine wpList_push wr (by rfl) (.tmp 52) (.tmp 56) 23 (by rfl) w.heap.size 5 i0 (.int .u8 0) 1 1 Try.underlying23 hi0 hz0' hz1 hz2 rfl (by decide) _ X.length (Lib.byteCells X) (by rfl) HT.out.one 1 #[.int .u8 (c.toNat : Int)] (by rfl) (by rfl) (by simp [Value.oneCell']) (by omega) (by decide) hh0 ?_); intro v5 w5 hv5 hg5 hat5; have T5 := hide (HT.out.pushB c hg5 hv5 hat5); have hh5 := Nat.le_trans hh0 hg5.size; have B5 := hide (bl_own HB.out HT.out.one hg5 (Nat.le_refl _)); clear hv5 hat5 hg5) | (at_builtin; (refine wpList_push w5 (by rfl) (.tmp 58) (.tmp 62) 23 (by rfl) w.heap.size 5 i0 (.int .u8 0) 1 1 Try.underlying23 hi0 hz0' hz1 hz2 rfl (by decide) _ Y.length (Lib.byteCells Y) (by rfl) T5.out.two 1 #[.int .u8 (c.toNat : Int)] (by rfl) (by rfl) (by simp [Value.oneCell']) (by omega) (by decide) hh5 ?_); intro v6 w6 hv6 hg6 hat6; have T6 := hide (T5.out.pushC c hg6 hv6 hat6); have B6 := hide (bl_own B5.out T5.out.two hg6 (Nat.le_refl _)); clear hv6 hat6 hg6))
        refine ⟨?_, by first | (simp [intOf]; done) | (simp [intOf]; omega)⟩
        first
          | exact ⟨k + 1, _, _, by go_num, HLN.out.1, HLN.out.2.1, HLN.out.2.2, HXN, HYN, T6, B6⟩
          | ((repeat apply Exists.intro); exact ⟨⟨k + 1, _, _, by go_num, HLN.out.1, HLN.out.2.1, HLN.out.2.2, HXN, HYN, T6, B6⟩, rfl⟩)
    · obtain rfl : k = a0.size := by omega
      have gl : decide ((a0.size : Int) < (a0.size : Int)) = false := by simp
      have gl' : decide (a0.size < a0.size) = false := by simp
      have hy := HY.out
      rw [List.take_of_length_le (by simp)] at hy
      have hx := HX.out
      have hrd : readF ((mkB X ++ (⟨#[47]⟩ : ByteArray)).size + 1) ((mkB X ++ (⟨#[47]⟩ : ByteArray)).data.toList.drop 0) [] [] [] = some (flushF [] Y, [47]) := by
        rw [conv_drop, ← hx]
        refine read_guard Y [] _ ?_
        rw [hx, ByteArray.size_append, size_mk]
        simp
      have hsz : (mkB X ++ (⟨#[47]⟩ : ByteArray)).size = X.length + 1 := by rw [ByteArray.size_append, size_mk]; rfl
      have HR := hide (fun W => read_any (w := W) (s := mkB X ++ (⟨#[47]⟩ : ByteArray)) (k := 0) (Nat.zero_le _) (by omega) _ hrd)
      unfold RePost at HR
      dsimp only at HR
      rw [hsz, show X.length + 1 - ([47] : List UInt8).length = X.length from rfl] at HR
      have hcv := own_conv HT.out.one
      have hxz := size_mk X
      obtain ⟨S, hS⟩ : ∃ S, mkB X ++ (⟨#[47]⟩ : ByteArray) = S := ⟨_, rfl⟩
      have hS0 := hS
      obtain ⟨M, hM⟩ : ∃ M, mkB X = M := ⟨_, rfl⟩
      rw [hS] at HR
      rw [hM] at hS hcv hxz
      obtain ⟨bA, bc, rfl⟩ := own_slice HT.out.one
      obtain ⟨cA, cc, rfl⟩ := own_slice HT.out.two
      obtain ⟨xn, hxn⟩ : ∃ xn, X.length = xn := ⟨_, rfl⟩
      obtain ⟨yn, hyn⟩ : ∃ yn, Y.length = yn := ⟨_, rfl⟩
      rw [hxn] at HR hcv hxz hX HT ⊢
      rw [hyn] at HT hY ⊢
      have HS := hide hS
      have A1 : (⟨#[47]⟩ : ByteArray).size = 1 := rfl
      have HYN := hide hyn
      have HXN := hide hxn
      clear hy hx hrd hsz hS0 hM hS hxn hlt
      rcases hY0 : Y with _ | ⟨c0, Y1⟩
      · have h0 : yn = 0 := by rw [← hyn, hY0]; rfl
        subst h0
        rw [hY0, show flushF [] [] = [] from rfl] at HR
        have hs := HS.out
        clear hY0 hyn
        go_wp2_with fail
        refine (HR.out _).mono ?_
        rintro e w2 ⟨v, rfl, hv, hb2⟩
        obtain ⟨vA, vc, rfl⟩ := fmat_len hv
        have HB2 := hide (bl_trans HB.out hb2)
        clear hv hb2 hs hcv
        go_wp2_with fail
        refine (awake18_any _).mono ?_
        rintro e w9 ⟨rfl, hb9⟩
        have HB9 := hide (bl_trans HB2.out hb9)
        clear hb9
        go_wp2
        go_ret
        exact ⟨rfl, HB9.out⟩
      · have hpos : 0 < yn := by rw [← hyn, hY0]; simp
        have hfl : flushF [] Y = [⟨0, 0, 0, mkB Y, nilB⟩] := by rw [hY0]; rfl
        rw [hfl] at HR
        have hs := HS.out
        have hty := HT.out.two
        clear hY0 hyn hfl
        go_wp2_with fail
        refine (HR.out _).mono ?_
        rintro e w2 ⟨v, rfl, hv, hb2⟩
        obtain ⟨b1, o1, c1, rfl, hc1, hm1, hlb1, hcell⟩ := fmat_some hv (by simp)
        obtain ⟨x0, x1, x2, x3, x4⟩ : w2.cell? ⟨b1, o1, none⟩ = some (.int .i64 0) ∧ w2.cell? ⟨b1, o1 + 1, none⟩ = some (.int .i64 0) ∧ w2.cell? ⟨b1, o1 + 2, none⟩ = some (.int .i64 0) ∧ w2.cell? ⟨b1, o1 + 3, none⟩ = some (.string (mkB Y)) ∧ w2.cell? ⟨b1, o1 + 4, none⟩ = some (.string ⟨#[]⟩)   := hcell 0 (by simp)
        rw [show ([⟨0, 0, 0, mkB Y, nilB⟩] : List Fm).length = 1 from rfl]
        have HB2 := hide (bl_trans HB.out hb2)
        have hty2 := own_below hty hb2
        rw [← HYN.out] at hty2
        have hcvU : ∀ u : Later w2, (convert 23 9 (.slice cA yn cc)).run Try.prog u.now = .ok (.string (mkB Y)) u.now := fun u => by
          have := own_conv (own_below hty2 u.below)
          rwa [HYN.out] at this
        have e1 : ((yn : Int) == 0) = false := beq_eq_false_iff_ne.2 (by omega)
        have e1' : (yn == 0) = false := beq_eq_false_iff_ne.2 (by omega)
        obtain ⟨YB, hYB⟩ : ∃ YB, mkB Y = YB := ⟨_, rfl⟩
        rw [hYB] at x3 hcvU
        clear hv hcell hb2 hs hcv hty hty2 hYB
        go_wp2
        refine wp_region_later (by kernel_rfl) (by kernel_rfl) ?_
        repeat (go_big_quiet_step (first
          | (go_at_call 6; exact later_call (awake18_any _))
          | exact rfl))
        refine wpQuiet_nil ?_
        rintro w9 ⟨⟨_, hb9⟩, rfl⟩
        have HB9 := hide (bl_trans HB2.out hb9)
        clear hb9
        go_wp2
        go_ret
        exact ⟨rfl, HB9.out⟩

set_option maxRecDepth 100000 in
theorem lifted (os : Os) (started : os.Started) (H : Type) (enc : TypeId × Value → H) :
    ReturnsInHanded {} Try.checked os 3 .any (Rows.fmtTextSpec.pre6 enc Try.prog Try.f3 Rows.fmtTextRow.domain false) (Rows.fmtTextSpec.post enc Try.prog Try.f3 false true false false) := by
  refine returnsInHanded_of_change (C := Try.checked) own started (by kernel_rfl) Try.func3
    (ChangeSpec.witness6 (enc := enc) (C := Try.checked) false ⟨#[], #[.string ByteArray.empty, .bool false], []⟩ 8 (by kernel_rfl) (by kernel_rfl) (by kernel_rfl) (by kernel_rfl)) ?_
  intro W base args ds gs before hval0 hW hcnd _
  have hval : ∀ (j : Nat) t v, Try.f3.params[j]? = some t → args[j]? = some v → Value.okWide Try.prog W .any base t v := hval0
  have hW' := hW
  obtain ⟨p, q, hA0, hV, rfl, hfz, hnd⟩ := hW
  have hA : DataW.TrodAll enc Try.prog W 0 (fun _ => true) true Try.f3.params.toList args.toList ds p := hA0
  rw [Try.params3] at hA hval
  obtain ⟨v0, vs0, d0, ds0, p0, q0, hargs, rfl, rfl, h0, r0⟩ := trodAll_cons hA
  obtain ⟨v1, vs1, d1, ds1, p1, q1, rfl, rfl, rfl, h1, r1⟩ := trodAll_cons r0
  obtain ⟨rfl, rfl, rfl⟩ := trodAll_nil r1
  obtain rfl : args = #[v0, v1] := by cases args; simp_all
  obtain ⟨rfl, rfl⟩ := trodVars_none hV
  have k0 := h0
  have lt0 : ∀ x ∈ p0, x.block < W.heap.size := by obtain ⟨m, hm⟩ := k0; exact DataW.trod_lt m _ _ _ hm
  obtain ⟨a0, rfl, hd0, hp0, w0⟩ := open_string Try.underlying9 (hval 0 9 v0 rfl rfl) h0
  have k1 := h1
  have lt1 : ∀ x ∈ p1, x.block < W.heap.size := by obtain ⟨m, hm⟩ := k1; exact DataW.trod_lt m _ _ _ hm
  obtain ⟨a1, rfl, hd1, hp1⟩ := open_bool Try.underlying4 (hval 1 4 v1 rfl rfl) h1
  clear hA0 hval0
  refine (walk a0 a1 W w0).mono fun e W' ⟨he, bel⟩ => ?_
  subst he
  exact ⟨_, rfl, _, _, _, [], _, [], hW', trodAll_mk1 (shut_bool Try.underlying4 _), (trodAll_cons_mk (Below.trod laidOut (by kernel_rfl) (of_decide_eq_true (by kernel_rfl)) k0 bel lt0) (trodAll_cons_mk (Below.trod laidOut (by kernel_rfl) (of_decide_eq_true (by kernel_rfl)) k1 bel lt1) trodAll_mk0)), rfl, bel.frame _, fun h => by cases h⟩

theorem over : Rows.fmtTextRow.holds Try.pinned (OpenSpec.ofChange Rows.fmtTextSpec) :=
  OpenClaim.holds_of_wide 3 Try.f3 rfl rfl rfl rfl rfl rfl rfl ⟨rfl, rfl, rfl, rfl, rfl⟩ rfl rfl rfl rfl rfl (by kernel_rfl) Try.func3 (by kernel_rfl)
    (of_decide_eq_true (by kernel_rfl)) (by unfold Func.isWrapper; first | (rw [if_pos (by decide +kernel)]; kernel_rfl) | (rw [if_neg (by decide +kernel)]; exact ⟨rfl, rfl⟩))
    (fun os started H enc _ => lifted os started H enc)

theorem proved : Rows.FmtTextSaid := over
end Go.Proofs.Ytbphckblbbbakaa.fmtText
