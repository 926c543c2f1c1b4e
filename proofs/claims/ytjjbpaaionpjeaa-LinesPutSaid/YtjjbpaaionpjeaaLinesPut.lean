/- A text put in within a line leaves where it and those ahead of it begin, and moves where those behind it begin by its length. Conditions: none beyond the form's own. -/
import Derived.Test.YtjjbpaaionpjeaaRows
import Derived.Test.YtjjbpaaionpjeaaArgs
import Derived.Test.YtjjbpaaionpjeaaOf4
import Derived.Deep.DeepCutAuto
namespace Go.Proofs.Ytjjbpaaionpjeaa.linesPut
open Go.Proofs.Ytjjbpaaionpjeaa
open Go.ChangeShapes Go.WideShapes Go.ChangeAt Go.RowKit Go.Deep
open Go.ChangeMaps (open_string shut_string)
set_option linter.unusedVariables false

theorem own : ownKnob Try.prog.godebug = none := by kernel_rfl
theorem laidOut : laidOutB Try.prog = true := by kernel_rfl
-- opt:16000000
attribute [local go_sem ↓] Go.wp_at_zero Go.wp_at_succ
attribute [local go_sem] later_cell later_frozen
theorem put_lo (A B C : List UInt8) (i : Int) (h0 : 0 ≤ i) (h : i ≤ nBrk A) : lnS (A ++ (C ++ B)) i = lnS (A ++ B) i := by
  unfold lnS
  by_cases hz : i = 0
  · rw [if_pos hz, if_pos hz]
  · rw [if_neg hz, if_neg hz, upL_lo 3 A _ (i - 1) (by omega) (by rw [cnt3]; omega), upL_lo 3 A _ (i - 1) (by omega) (by rw [cnt3]; omega)]
theorem put_hi (A B C : List UInt8) (i : Int) (h : nBrk A < i) : lnS (A ++ (C ++ B)) (i + nBrk C) = lnS (A ++ B) i + C.length := by
  have ha := nBrk_le A
  have hc := nBrk_le C
  unfold lnS
  rw [if_neg (by omega), if_neg (by omega), upL_hi 3 A _ _ (by rw [cnt3]; omega), upL_hi 3 A _ _ (by rw [cnt3]; omega), upL_hi 3 C _ _ (by rw [cnt3, cnt3]; omega), cnt3, cnt3, show i + nBrk C - 1 - nBrk A - nBrk C = i - 1 - nBrk A by omega]
  omega
theorem box_set {w : World} {B : Nat} {v u : Value} {e : TypeId} (hh : w.heap[B]? = some (.cells #[v] e)) : (w.setCell ⟨B, 0, none⟩ u).cell? ⟨B, 0, none⟩ = some u := by
  have h2 : (w.setCell ⟨B, 0, none⟩ u).heap[B]? = some (.cells #[u] e) := by
    simp [World.setCell, Array.getElem?_modify, hh]
  rw [Lib.cell_of_heap h2]; rfl
def PutCut (x y : ByteArray) (w : World) (B r : Nat) (v ok : Value) (wx : World) : Prop :=
  ∃ B2 r2 : Nat, v = .pointer (some ⟨B2, 0, none⟩) ∧ ok = .bool true ∧ wx.cell? ⟨B2, 0, none⟩ = some (.pointer (some ⟨r2, 0, none⟩)) ∧ wx.cell? ⟨B, 0, none⟩ = some (.pointer (some ⟨r, 0, none⟩)) ∧ Hid (LnAt wx r2 y) ∧ Hid (LnAt wx r x) ∧ Hid (Below w.heap.size w wx)
def PutRel (x y : ByteArray) (w : World) (B r B2 r2 m : Nat) (i : Value) (wr : World) : Prop :=
  ∃ k : Nat, i = .int .i64 k ∧ k ≤ m + 1 ∧ wr.cell? ⟨B2, 0, none⟩ = some (.pointer (some ⟨r2, 0, none⟩)) ∧ wr.cell? ⟨B, 0, none⟩ = some (.pointer (some ⟨r, 0, none⟩)) ∧ Hid (LnAt wr r2 y) ∧ Hid (LnAt wr r x) ∧ Hid (Below w.heap.size w wr)
set_option maxRecDepth 100000 in
set_option maxHeartbeats 16000000 in
theorem walk (a0 : ByteArray) (a1 : Int) (a2 : ByteArray) (w : World) (w0 : a0.size ≤ maxLen) (w1 : (Lit.int .i64 a1).wf = true) (w2 : a2.size ≤ maxLen) :
    Calls Try.prog 10 #[.string a0, .int .i64 a1, .string a2] w fun e w' => e = .returned (.bool true) ∧ Below w.heap.size w w' := by
  by_cases h0 : a0.size ≤ 200
  · have g0 : decide (200 < (a0.size : Int)) = false := decide_eq_false (by omega)

    by_cases h2 : a2.size ≤ 60
    · have g2 : decide (60 < (a2.size : Int)) = false := decide_eq_false (by omega)
      have hlp := lowN_lt a1 (a0.size + 1) (by omega)
      have HLW := hide (fun W => (low_any a1 (a0.size + 1) W (by omega) (by omega) : Calls Try.prog 27 #[.int .i64 a1, .int .i64 ((a0.size : Int) + 1)] W fun e w' => e = .returned (.int .i64 (lowN a1 (a0.size + 1) : Nat)) ∧ W = w'))
      generalize lowN a1 (a0.size + 1) = p at *
      have hps : p ≤ a0.size := by omega
      have hxl : a0.data.toList.length = a0.size := rfl
      clear hlp
      have z1 : (a0.extract 0 p ++ a2).size ≤ 260 := by simp only [ByteArray.size_append, ByteArray.size_extract]; omega
      have z2 : (a0.extract 0 p ++ a2 ++ a0.extract p a0.size).size ≤ 260 := by simp only [ByteArray.size_append, ByteArray.size_extract]; omega
      have z3 : (a0.extract 0 p ++ a2).size + (a0.extract p a0.size).size ≤ 260 := by simp only [ByteArray.size_append, ByteArray.size_extract]; omega
      have z4 : (a0.extract 0 p).size + a2.size ≤ 260 := by simp only [ByteArray.size_extract]; omega
      have hm0 : mayR 0 (p : Int) a0.size = 0 := by unfold mayR; rw [if_neg (by omega)]
      have hA := fun (W : World) (r : Nat) (h : LnAt W r a0) => at_l h (by omega) p
      rw [atV_in (by rw [hxl]; exact hm0), hm0] at hA
      have hyl : (a0.extract 0 p ++ a2 ++ a0.extract p a0.size).data.toList = a0.data.toList.take p ++ (a2.data.toList ++ a0.data.toList.drop p) := by rw [app_list, app_list, ext_take, ext_drop, List.append_assoc]
      have hx0 : a0.data.toList = a0.data.toList.take p ++ a0.data.toList.drop p := (List.take_append_drop p _).symm
      have hbr := nBrk_le a0.data.toList
      have hbc := nBrk_le a2.data.toList
      have hcl : a2.data.toList.length = a2.size := rfl
      have hbt := nBrk_take a0.data.toList p
      have hbtl := nBrk_le (a0.data.toList.take p)
      have hby : nBrk (a0.extract 0 p ++ a2 ++ a0.extract p a0.size).data.toList = nBrk a0.data.toList + nBrk a2.data.toList := by
        have e1 : nBrk a0.data.toList = nBrk (a0.data.toList.take p) + nBrk (a0.data.toList.drop p) := by rw [← nBrk_app, List.take_append_drop]
        rw [hyl, nBrk_app, nBrk_app]
        omega
      have hlo := fun i h0 h => put_lo (a0.data.toList.take p) (a0.data.toList.drop p) a2.data.toList i h0 h
      have hhi := fun i h => put_hi (a0.data.toList.take p) (a0.data.toList.drop p) a2.data.toList i h
      rw [List.take_append_drop, ← hyl] at hlo hhi
      obtain ⟨m, hm⟩ : ∃ m : Nat, nBrk a0.data.toList = m := ⟨(nBrk a0.data.toList).toNat, by omega⟩
      obtain ⟨c, hc⟩ : ∃ c : Nat, nBrk a2.data.toList = c := ⟨(nBrk a2.data.toList).toNat, by omega⟩
      obtain ⟨ln, hln⟩ : ∃ ln : Nat, nBrk (a0.data.toList.take p) = ln := ⟨(nBrk (a0.data.toList.take p)).toNat, by omega⟩
      have hM := fun (W : World) (r : Nat) (h : LnAt W r a0) => many_l h (by omega)
      have hMy := fun (W : World) (r : Nat) (h : LnAt W r (a0.extract 0 p ++ a2 ++ a0.extract p a0.size)) => many_l h (by omega)
      have hOy := fun W => of4_b (a0.extract 0 p ++ a2 ++ a0.extract p a0.size) W (by omega)
      have hSy := fun (i : Int) (W : World) (r : Nat) (h : LnAt W r (a0.extract 0 p ++ a2 ++ a0.extract p a0.size)) => start_l h (by omega) i
      rw [hm] at hM hbr hbt
      rw [hby, hm, hc] at hMy
      rw [hc] at hhi hbc hby
      rw [hm] at hby
      rw [hln] at hA hlo hhi hbt hbtl
      have HM := hide hM
      have HMy := hide hMy
      have HOy := hide hOy
      have HSy := hide hSy
      have HA := hide hA
      have HLO := hide hlo
      have HHI := hide hhi
      have HBY := hide hby
      have hms : m ≤ a0.size := by omega
      have hml : m ≤ 200 := by omega
      have hcl2 : c ≤ 60 := by omega
      have hlm : ln ≤ m := by omega
      have HC := hide hc
      have HMM := hide hm
      clear hM hMy hOy hSy hA hlo hhi hby hm0 hyl hx0 hbr hbc hbt hbtl hm hc hln hcl
      obtain ⟨y, hy⟩ : ∃ y, a0.extract 0 p ++ a2 ++ a0.extract p a0.size = y := ⟨_, rfl⟩
      rw [hy] at HMy HOy HSy HLO HHI HBY
      clear w0 w1 w2
      go_enter Try.func10, Try.ntmps10
      go_wp2_with fail
      refine (of4_any a0 _ (by omega)).mono ?_
      rintro e w1 ⟨r, rfl, hL, hb1⟩
      have c0 := ln_c0 w1 r
      have HB := hide (bl_trans hb1 (ln_b0 w1 r))
      have HL := hide (hL.bl (ln_b0 w1 r))
      clear hL hb1
      go_wp2_with fail
      refine (HLW.out _).mono ?_
      rintro e wa ⟨rfl, hwa⟩
      subst hwa
      go_wp2_with fail
      refine (HA.out _ _ HL.out).mono ?_
      rintro e v35 ⟨rfl, hb⟩
      have c0 := cell_later hb c0
      have HB := hide (bl_trans HB.out hb)
      have HL := hide (HL.out.bl hb)
      clear hb
      have c00 := c0
      have HL00 := HL
      have HB00 := HB
      have hml0 : m ≤ a0.size := hms
      clear c0 HL HB hms
      go_wp2_with fail
      go_region_with (first
        | (go_at_call 12; refine (HOy.out _).mono ?_; rintro e v2 ⟨r2, rfl, hL2, hb2, hS2⟩; have hb3 : Below v35.heap.size v35 v2 := bl_trans (by repeat (first | exact bl_refl _ | refine bl_drew ?_ | refine bl_alloc ?_ _)) hb2; first
            | (have hh : v2.heap[v35.heap.size]? = some (.cells #[.pointer none] 25) := heap_later hb2 (heap_alloc_new v35 _); have hcB : v2.cell? ⟨v35.heap.size, 0, none⟩ = some (.pointer none) := (by rw [Lib.cell_of_heap hh]; rfl); have hfB : v2.frozen? ⟨v35.heap.size, 0, none⟩ = false := (by simp [World.frozen?, hh]); have HLy := hide (hS2 v35.heap.size 0 (.pointer (some ⟨r2, 0, none⟩)) (by show v35.heap.size < (v35.alloc _).heap.size; simp)); have HH := hide hh; clear hS2 hL2 hb2 hh)
            | (have HL2 := hide hL2; clear hS2 hL2 hb2))
        | fail)
      · have cB := ln_c0 v2 r2
        have hbx := bl_trans hb3 (ln_b0 v2 r2)
        have c0 := cell_later hbx c00
        have HLy := hide (HL2.out.bl (ln_b0 v2 r2))
        have HLx := hide (HL00.out.bl hbx)
        have HB := hide (bl_trans HB00.out hbx)
        clear hb3 hbx c00 HL2 HL00 HB00
        go_wp2
        go_loop [14, 15] (fun b i => ∃ k n : Nat, i = .int .i64 k ∧ b = .int .i64 n ∧ k ≤ a2.size ∧ n ≤ k ∧ Hid ((n : Int) = nBrk (a2.data.toList.take k))) (fun _ i => a2.size - (intOf i).toNat)
        case atStart => exact ⟨0, 0, rfl, rfl, Nat.zero_le _, Nat.le_refl _, hide (by simp [nBrk])⟩
        case round =>
          obtain ⟨k, n, rfl, rfl, hk, hnk, HN⟩ := hrel
          by_cases hlt : k < a2.size
          · have hc8 : (a2[k].toNat : Int) < 256 := by have := a2[k].toNat_lt; omega
            have hsn := nBrk_snoc (a2.data.toList.take k) a2[k]
            rw [← take_snoc a2 k hlt] at hsn
            by_cases h10 : a2[k].toNat = 10
            · have g10 : ((a2[k].toNat : Int) == 10) = true := by simp; omega
              have HN2 : Hid (((n + 1 : Nat) : Int) = nBrk (a2.data.toList.take (k + 1))) := hide (by have := HN.out; rw [if_pos h10] at hsn; omega)
              clear h10 hsn HN
              go_wp2
              refine ⟨?_, by first | (simp [intOf]; done) | (simp [intOf]; omega)⟩
              exact ⟨k + 1, n + 1, by go_num, by go_num, by omega, by omega, HN2⟩
            · have g10 : ((a2[k].toNat : Int) == 10) = false := by simp; omega
              have HN2 : Hid ((n : Int) = nBrk (a2.data.toList.take (k + 1))) := hide (by have := HN.out; rw [if_neg h10] at hsn; omega)
              clear h10 hsn HN
              go_wp2
              refine ⟨?_, by first | (simp [intOf]; done) | (simp [intOf]; omega)⟩
              exact ⟨k + 1, n, by go_num, rfl, by omega, by omega, HN2⟩
          · obtain rfl : k = a2.size := by omega
            have hnc : n = c := by have := HN.out; rw [take_all, HC.out] at this; omega
            subst hnc
            clear HN hlt
            have g5 : (((m : Int) + (n : Int) + 1) != ((m : Int) + 1 + (n : Int))) = false := by simp; omega
            have g6 : (((m : Int) + (n : Int) + 1) == ((m : Int) + 1 + (n : Int))) = true := by simp; omega
            go_wp2_with fail
            refine (HM.out _ _ HLx.out).mono ?_
            rintro e v41 ⟨rfl, hb⟩
            have c0 := cell_later hb c0
            have cB := cell_later hb cB
            have HB := hide (bl_trans HB.out hb)
            have HLx := hide (HLx.out.bl hb)
            have HLy := hide (HLy.out.bl hb)
            clear hb
            go_wp2_with fail
            refine (HMy.out _ _ HLy.out).mono ?_
            rintro e v41 ⟨rfl, hb⟩
            have c0 := cell_later hb c0
            have cB := cell_later hb cB
            have HB := hide (bl_trans HB.out hb)
            have HLx := hide (HLx.out.bl hb)
            have HLy := hide (HLy.out.bl hb)
            clear hb
            go_wp2
            clear g5 g6
            go_loopw [17, 18, 19, 20, 21] (fun i _ _ _ _ wr => PutRel a0 y w w1.heap.size r v2.heap.size r2 m i wr) (fun i _ _ _ _ _ => m + 1 - (intOf i).toNat)
            case atStart => exact ⟨0, rfl, Nat.zero_le _, cB, c0, HLy, HLx, HB⟩
            case round =>
              clear c0 cB HLy HLx HB
              obtain ⟨k, rfl, hkm, cB, c0, HLy, HLx, HB⟩ := hrel
              by_cases hlt : k ≤ m
              · have hlx : lnC a0.data.toList (k : Int) = 0 := by unfold lnC; rw [if_pos (by have := HMM.out; omega)]
                have hly : lnC y.data.toList (k : Int) = 0 := by unfold lnC; rw [if_pos (by have := HBY.out; omega)]
                have hsx := lnS_len a0.data.toList k (by omega) (by have := HMM.out; omega)
                have hsx2 : lnS a0.data.toList (k : Int) ≤ a0.size := hsx
                have hX := fun (W : World) (r : Nat) (h : LnAt W r a0) => start_l h (by omega) (k : Int)
                rw [lnSv_in hlx, hlx] at hX
                have HX := hide hX
                have hY := HSy.out (k : Int)
                rw [lnSv_in hly, hly] at hY
                have gm : decide ((k : Int) < (m : Int) + 1) = true := decide_eq_true (by omega)
                have gm2 : decide (k < m + 1) = true := decide_eq_true (by omega)
                have gs : decide ((k : Int) ≤ (a0.size : Int)) = true := decide_eq_true (by omega)
                have gs2 : decide (k ≤ a0.size) = true := decide_eq_true (by omega)
                by_cases hkl : k ≤ ln
                · have e1 := HLO.out (k : Int) (by omega) (by omega)
                  rw [e1] at hY
                  have HY2 := hide hY
                  have gl : decide ((ln : Int) < (k : Int)) = false := decide_eq_false (by omega)
                  have gl2 : decide (ln < k) = false := decide_eq_false (by omega)
                  clear hX hY hlx hly e1 hsx
                  generalize lnS a0.data.toList (k : Int) = s at *
                  go_wp2_with fail
                  refine (HX.out _ _ HLx.out).mono ?_
                  rintro e v41 ⟨rfl, hb⟩
                  have c0 := cell_later hb c0
                  have cB := cell_later hb cB
                  have HB := hide (bl_trans HB.out hb)
                  have HLx := hide (HLx.out.bl hb)
                  have HLy := hide (HLy.out.bl hb)
                  clear hb
                  go_wp2_with fail
                  refine (HY2.out _ _ HLy.out).mono ?_
                  rintro e v41 ⟨rfl, hb⟩
                  have c0 := cell_later hb c0
                  have cB := cell_later hb cB
                  have HB := hide (bl_trans HB.out hb)
                  have HLx := hide (HLx.out.bl hb)
                  have HLy := hide (HLy.out.bl hb)
                  clear hb
                  go_wp2
                  refine ⟨?_, by first | (simp [intOf]; done) | (simp [intOf]; omega)⟩
                  first
                    | exact ⟨k + 1, by go_num, by omega, cB, c0, HLy, HLx, HB⟩
                    | ((repeat apply Exists.intro); exact ⟨⟨k + 1, by go_num, by omega, cB, c0, HLy, HLx, HB⟩, rfl⟩)
                · have e2 := HHI.out (k : Int) (by omega)
                  have hly2 : lnC y.data.toList ((k : Int) + (n : Int)) = 0 := by unfold lnC; rw [if_pos (by have := HBY.out; omega)]
                  have hZ := HSy.out ((k : Int) + (n : Int))
                  rw [lnSv_in hly2, hly2, e2] at hZ
                  have HZ := hide hZ
                  have HY2 := hide hY
                  have gl : decide ((ln : Int) < (k : Int)) = true := decide_eq_true (by omega)
                  have gl2 : decide (ln < k) = true := decide_eq_true (by omega)
                  have hws : IntKind.i64.wrap (((lnS a0.data.toList (k : Int) : Nat) : Int) + (a2.size : Int)) = ((lnS a0.data.toList (k : Int) + a2.data.toList.length : Nat) : Int) := by
                    rw [IntWalk.i64_in _ (by omega)]
                    have : a2.data.toList.length = a2.size := rfl
                    omega
                  have hws2 : ((lnS a0.data.toList (k : Int) : Nat) : Int) + (a2.size : Int) = ((lnS a0.data.toList (k : Int) + a2.data.toList.length : Nat) : Int) := by
                    have : a2.data.toList.length = a2.size := rfl
                    omega
                  have gq : ((((lnS a0.data.toList (k : Int) : Nat) : Int) + (a2.size : Int)) != ((lnS a0.data.toList (k : Int) + a2.data.toList.length : Nat) : Int)) = false := by rw [hws2]; simp
                  have HWS := hide hws2
                  clear hX hY hZ hlx hly hly2 e2 hsx hws hws2
                  generalize lnS y.data.toList (k : Int) = sy at *
                  generalize lnS a0.data.toList (k : Int) = s at *
                  generalize s + a2.data.toList.length = s3 at *
                  go_wp2_with fail
                  refine (HX.out _ _ HLx.out).mono ?_
                  rintro e v41 ⟨rfl, hb⟩
                  have c0 := cell_later hb c0
                  have cB := cell_later hb cB
                  have HB := hide (bl_trans HB.out hb)
                  have HLx := hide (HLx.out.bl hb)
                  have HLy := hide (HLy.out.bl hb)
                  clear hb
                  go_wp2_with fail
                  refine (HY2.out _ _ HLy.out).mono ?_
                  rintro e v41 ⟨rfl, hb⟩
                  have c0 := cell_later hb c0
                  have cB := cell_later hb cB
                  have HB := hide (bl_trans HB.out hb)
                  have HLx := hide (HLx.out.bl hb)
                  have HLy := hide (HLy.out.bl hb)
                  clear hb
                  go_wp2_with fail
                  refine (HZ.out _ _ HLy.out).mono ?_
                  rintro e v41 ⟨rfl, hb⟩
                  have c0 := cell_later hb c0
                  have cB := cell_later hb cB
                  have HB := hide (bl_trans HB.out hb)
                  have HLx := hide (HLx.out.bl hb)
                  have HLy := hide (HLy.out.bl hb)
                  clear hb
                  go_wp2
                  refine ⟨?_, by first | (simp [intOf]; done) | (simp [intOf]; omega)⟩
                  first
                    | exact ⟨k + 1, by go_num, by omega, cB, c0, HLy, HLx, HB⟩
                    | ((repeat apply Exists.intro); exact ⟨⟨k + 1, by go_num, by omega, cB, c0, HLy, HLx, HB⟩, rfl⟩)
              · obtain rfl : k = m + 1 := by omega
                have gm : decide (((m + 1 : Nat) : Int) < (m : Int) + 1) = false := decide_eq_false (by omega)
                have gm2 : decide (m + 1 < m + 1) = false := decide_eq_false (by omega)
                go_wp2_with fail
                refine (awake4_any _).mono ?_
                rintro e w9 ⟨rfl, hb⟩
                have HB := hide (bl_trans HB.out hb)
                go_wp2
                go_ret
                exact ⟨rfl, HB.out⟩
      all_goals
        have cB := box_set (u := .pointer (some ⟨r2, 0, none⟩)) HH.out
        have hbx := bl_set hb3 (p := ⟨v35.heap.size, 0, none⟩) (Nat.le_refl _) (.pointer (some ⟨r2, 0, none⟩))
        have c0 := cell_later hbx c00
        have HLx := hide (HL00.out.bl hbx)
        have HB := hide (bl_trans HB00.out hbx)
        clear hb3 hbx c00 HL00 HB00 HH hcB hfB
        go_wp2
        go_loop [14, 15] (fun b i => ∃ k n : Nat, i = .int .i64 k ∧ b = .int .i64 n ∧ k ≤ a2.size ∧ n ≤ k ∧ Hid ((n : Int) = nBrk (a2.data.toList.take k))) (fun _ i => a2.size - (intOf i).toNat)
        case atStart => exact ⟨0, 0, rfl, rfl, Nat.zero_le _, Nat.le_refl _, hide (by simp [nBrk])⟩
        case round =>
          obtain ⟨k, n, rfl, rfl, hk, hnk, HN⟩ := hrel
          by_cases hlt : k < a2.size
          · have hc8 : (a2[k].toNat : Int) < 256 := by have := a2[k].toNat_lt; omega
            have hsn := nBrk_snoc (a2.data.toList.take k) a2[k]
            rw [← take_snoc a2 k hlt] at hsn
            by_cases h10 : a2[k].toNat = 10
            · have g10 : ((a2[k].toNat : Int) == 10) = true := by simp; omega
              have HN2 : Hid (((n + 1 : Nat) : Int) = nBrk (a2.data.toList.take (k + 1))) := hide (by have := HN.out; rw [if_pos h10] at hsn; omega)
              clear h10 hsn HN
              go_wp2
              refine ⟨?_, by first | (simp [intOf]; done) | (simp [intOf]; omega)⟩
              exact ⟨k + 1, n + 1, by go_num, by go_num, by omega, by omega, HN2⟩
            · have g10 : ((a2[k].toNat : Int) == 10) = false := by simp; omega
              have HN2 : Hid ((n : Int) = nBrk (a2.data.toList.take (k + 1))) := hide (by have := HN.out; rw [if_neg h10] at hsn; omega)
              clear h10 hsn HN
              go_wp2
              refine ⟨?_, by first | (simp [intOf]; done) | (simp [intOf]; omega)⟩
              exact ⟨k + 1, n, by go_num, rfl, by omega, by omega, HN2⟩
          · obtain rfl : k = a2.size := by omega
            have hnc : n = c := by have := HN.out; rw [take_all, HC.out] at this; omega
            subst hnc
            clear HN hlt
            have g5 : (((m : Int) + (n : Int) + 1) != ((m : Int) + 1 + (n : Int))) = false := by simp; omega
            have g6 : (((m : Int) + (n : Int) + 1) == ((m : Int) + 1 + (n : Int))) = true := by simp; omega
            go_wp2_with fail
            refine (HM.out _ _ HLx.out).mono ?_
            rintro e v41 ⟨rfl, hb⟩
            have c0 := cell_later hb c0
            have cB := cell_later hb cB
            have HB := hide (bl_trans HB.out hb)
            have HLx := hide (HLx.out.bl hb)
            have HLy := hide (HLy.out.bl hb)
            clear hb
            go_wp2_with fail
            refine (HMy.out _ _ HLy.out).mono ?_
            rintro e v41 ⟨rfl, hb⟩
            have c0 := cell_later hb c0
            have cB := cell_later hb cB
            have HB := hide (bl_trans HB.out hb)
            have HLx := hide (HLx.out.bl hb)
            have HLy := hide (HLy.out.bl hb)
            clear hb
            go_wp2
            clear g5 g6
            go_loopw [17, 18, 19, 20, 21] (fun i _ _ _ _ wr => PutRel a0 y w w1.heap.size r v35.heap.size r2 m i wr) (fun i _ _ _ _ _ => m + 1 - (intOf i).toNat)
            case atStart => exact ⟨0, rfl, Nat.zero_le _, cB, c0, HLy, HLx, HB⟩
            case round =>
              clear c0 cB HLy HLx HB
              obtain ⟨k, rfl, hkm, cB, c0, HLy, HLx, HB⟩ := hrel
              by_cases hlt : k ≤ m
              · have hlx : lnC a0.data.toList (k : Int) = 0 := by unfold lnC; rw [if_pos (by have := HMM.out; omega)]
                have hly : lnC y.data.toList (k : Int) = 0 := by unfold lnC; rw [if_pos (by have := HBY.out; omega)]
                have hsx := lnS_len a0.data.toList k (by omega) (by have := HMM.out; omega)
                have hsx2 : lnS a0.data.toList (k : Int) ≤ a0.size := hsx
                have hX := fun (W : World) (r : Nat) (h : LnAt W r a0) => start_l h (by omega) (k : Int)
                rw [lnSv_in hlx, hlx] at hX
                have HX := hide hX
                have hY := HSy.out (k : Int)
                rw [lnSv_in hly, hly] at hY
                have gm : decide ((k : Int) < (m : Int) + 1) = true := decide_eq_true (by omega)
                have gm2 : decide (k < m + 1) = true := decide_eq_true (by omega)
                have gs : decide ((k : Int) ≤ (a0.size : Int)) = true := decide_eq_true (by omega)
                have gs2 : decide (k ≤ a0.size) = true := decide_eq_true (by omega)
                by_cases hkl : k ≤ ln
                · have e1 := HLO.out (k : Int) (by omega) (by omega)
                  rw [e1] at hY
                  have HY2 := hide hY
                  have gl : decide ((ln : Int) < (k : Int)) = false := decide_eq_false (by omega)
                  have gl2 : decide (ln < k) = false := decide_eq_false (by omega)
                  clear hX hY hlx hly e1 hsx
                  generalize lnS a0.data.toList (k : Int) = s at *
                  go_wp2_with fail
                  refine (HX.out _ _ HLx.out).mono ?_
                  rintro e v41 ⟨rfl, hb⟩
                  have c0 := cell_later hb c0
                  have cB := cell_later hb cB
                  have HB := hide (bl_trans HB.out hb)
                  have HLx := hide (HLx.out.bl hb)
                  have HLy := hide (HLy.out.bl hb)
                  clear hb
                  go_wp2_with fail
                  refine (HY2.out _ _ HLy.out).mono ?_
                  rintro e v41 ⟨rfl, hb⟩
                  have c0 := cell_later hb c0
                  have cB := cell_later hb cB
                  have HB := hide (bl_trans HB.out hb)
                  have HLx := hide (HLx.out.bl hb)
                  have HLy := hide (HLy.out.bl hb)
                  clear hb
                  go_wp2
                  refine ⟨?_, by first | (simp [intOf]; done) | (simp [intOf]; omega)⟩
                  first
                    | exact ⟨k + 1, by go_num, by omega, cB, c0, HLy, HLx, HB⟩
                    | ((repeat apply Exists.intro); exact ⟨⟨k + 1, by go_num, by omega, cB, c0, HLy, HLx, HB⟩, rfl⟩)
                · have e2 := HHI.out (k : Int) (by omega)
                  have hly2 : lnC y.data.toList ((k : Int) + (n : Int)) = 0 := by unfold lnC; rw [if_pos (by have := HBY.out; omega)]
                  have hZ := HSy.out ((k : Int) + (n : Int))
                  rw [lnSv_in hly2, hly2, e2] at hZ
                  have HZ := hide hZ
                  have HY2 := hide hY
                  have gl : decide ((ln : Int) < (k : Int)) = true := decide_eq_true (by omega)
                  have gl2 : decide (ln < k) = true := decide_eq_true (by omega)
                  have hws : IntKind.i64.wrap (((lnS a0.data.toList (k : Int) : Nat) : Int) + (a2.size : Int)) = ((lnS a0.data.toList (k : Int) + a2.data.toList.length : Nat) : Int) := by
                    rw [IntWalk.i64_in _ (by omega)]
                    have : a2.data.toList.length = a2.size := rfl
                    omega
                  have hws2 : ((lnS a0.data.toList (k : Int) : Nat) : Int) + (a2.size : Int) = ((lnS a0.data.toList (k : Int) + a2.data.toList.length : Nat) : Int) := by
                    have : a2.data.toList.length = a2.size := rfl
                    omega
                  have gq : ((((lnS a0.data.toList (k : Int) : Nat) : Int) + (a2.size : Int)) != ((lnS a0.data.toList (k : Int) + a2.data.toList.length : Nat) : Int)) = false := by rw [hws2]; simp
                  have HWS := hide hws2
                  clear hX hY hZ hlx hly hly2 e2 hsx hws hws2
                  generalize lnS y.data.toList (k : Int) = sy at *
                  generalize lnS a0.data.toList (k : Int) = s at *
                  generalize s + a2.data.toList.length = s3 at *
                  go_wp2_with fail
                  refine (HX.out _ _ HLx.out).mono ?_
                  rintro e v41 ⟨rfl, hb⟩
                  have c0 := cell_later hb c0
                  have cB := cell_later hb cB
                  have HB := hide (bl_trans HB.out hb)
                  have HLx := hide (HLx.out.bl hb)
                  have HLy := hide (HLy.out.bl hb)
                  clear hb
                  go_wp2_with fail
                  refine (HY2.out _ _ HLy.out).mono ?_
                  rintro e v41 ⟨rfl, hb⟩
                  have c0 := cell_later hb c0
                  have cB := cell_later hb cB
                  have HB := hide (bl_trans HB.out hb)
                  have HLx := hide (HLx.out.bl hb)
                  have HLy := hide (HLy.out.bl hb)
                  clear hb
                  go_wp2_with fail
                  refine (HZ.out _ _ HLy.out).mono ?_
                  rintro e v41 ⟨rfl, hb⟩
                  have c0 := cell_later hb c0
                  have cB := cell_later hb cB
                  have HB := hide (bl_trans HB.out hb)
                  have HLx := hide (HLx.out.bl hb)
                  have HLy := hide (HLy.out.bl hb)
                  clear hb
                  go_wp2
                  refine ⟨?_, by first | (simp [intOf]; done) | (simp [intOf]; omega)⟩
                  first
                    | exact ⟨k + 1, by go_num, by omega, cB, c0, HLy, HLx, HB⟩
                    | ((repeat apply Exists.intro); exact ⟨⟨k + 1, by go_num, by omega, cB, c0, HLy, HLx, HB⟩, rfl⟩)
              · obtain rfl : k = m + 1 := by omega
                have gm : decide (((m + 1 : Nat) : Int) < (m : Int) + 1) = false := decide_eq_false (by omega)
                have gm2 : decide (m + 1 < m + 1) = false := decide_eq_false (by omega)
                go_wp2_with fail
                refine (awake4_any _).mono ?_
                rintro e w9 ⟨rfl, hb⟩
                have HB := hide (bl_trans HB.out hb)
                go_wp2
                go_ret
                exact ⟨rfl, HB.out⟩
    · have g2 : decide (60 < (a2.size : Int)) = true := decide_eq_true (by omega)
      go_enter Try.func10, Try.ntmps10
      go_wp2_with fail
      refine (awake4_any _).mono ?_
      rintro e w9 ⟨rfl, hb⟩
      go_wp2
      go_ret
      exact ⟨rfl, hb⟩
  · have g0 : decide (200 < (a0.size : Int)) = true := decide_eq_true (by omega)
    go_enter Try.func10, Try.ntmps10
    go_wp2_with fail
    refine (awake4_any _).mono ?_
    rintro e w9 ⟨rfl, hb⟩
    go_wp2
    go_ret
    exact ⟨rfl, hb⟩

set_option maxRecDepth 100000 in
theorem lifted (os : Os) (started : os.Started) (H : Type) (enc : TypeId × Value → H) :
    ReturnsInHanded {} Try.checked os 10 .any (Rows.linesPutSpec.pre6 enc Try.prog Try.f10 Rows.linesPutRow.domain false) (Rows.linesPutSpec.post enc Try.prog Try.f10 false true false false) := by
  refine returnsInHanded_of_change (C := Try.checked) own started (by kernel_rfl) Try.func10
    (ChangeSpec.witness6 (enc := enc) (C := Try.checked) false ⟨#[], #[.string ByteArray.empty, .int .i64 0, .string ByteArray.empty], []⟩ 8 (by kernel_rfl) (by kernel_rfl) (by kernel_rfl) (by kernel_rfl)) ?_
  intro W base args ds gs before hval0 hW hcnd _
  have hval : ∀ (j : Nat) t v, Try.f10.params[j]? = some t → args[j]? = some v → Value.okWide Try.prog W .any base t v := hval0
  have hW' := hW
  obtain ⟨p, q, hA0, hV, rfl, hfz, hnd⟩ := hW
  have hA : DataW.TrodAll enc Try.prog W 0 (fun _ => true) true Try.f10.params.toList args.toList ds p := hA0
  rw [Try.params10] at hA hval
  obtain ⟨v0, vs0, d0, ds0, p0, q0, hargs, rfl, rfl, h0, r0⟩ := trodAll_cons hA
  obtain ⟨v1, vs1, d1, ds1, p1, q1, rfl, rfl, rfl, h1, r1⟩ := trodAll_cons r0
  obtain ⟨v2, vs2, d2, ds2, p2, q2, rfl, rfl, rfl, h2, r2⟩ := trodAll_cons r1
  obtain ⟨rfl, rfl, rfl⟩ := trodAll_nil r2
  obtain rfl : args = #[v0, v1, v2] := by cases args; simp_all
  obtain ⟨rfl, rfl⟩ := trodVars_none hV
  have k0 := h0
  have lt0 : ∀ x ∈ p0, x.block < W.heap.size := by obtain ⟨m, hm⟩ := k0; exact DataW.trod_lt m _ _ _ hm
  obtain ⟨a0, rfl, hd0, hp0, w0⟩ := open_string Try.underlying9 (hval 0 9 v0 rfl rfl) h0
  have k1 := h1
  have lt1 : ∀ x ∈ p1, x.block < W.heap.size := by obtain ⟨m, hm⟩ := k1; exact DataW.trod_lt m _ _ _ hm
  obtain ⟨a1, rfl, hd1, hp1, w1⟩ := open_int Try.underlying3 (hval 1 3 v1 rfl rfl) h1
  have k2 := h2
  have lt2 : ∀ x ∈ p2, x.block < W.heap.size := by obtain ⟨m, hm⟩ := k2; exact DataW.trod_lt m _ _ _ hm
  obtain ⟨a2, rfl, hd2, hp2, w2⟩ := open_string Try.underlying9 (hval 2 9 v2 rfl rfl) h2
  clear hA0 hval0
  refine (walk a0 a1 a2 W w0 w1 w2).mono fun e W' ⟨he, bel⟩ => ?_
  subst he
  exact ⟨_, rfl, _, _, _, [], _, [], hW', trodAll_mk1 (shut_bool Try.underlying4 _), (trodAll_cons_mk (Below.trod laidOut (by kernel_rfl) (of_decide_eq_true (by kernel_rfl)) k0 bel lt0) (trodAll_cons_mk (Below.trod laidOut (by kernel_rfl) (of_decide_eq_true (by kernel_rfl)) k1 bel lt1) (trodAll_cons_mk (Below.trod laidOut (by kernel_rfl) (of_decide_eq_true (by kernel_rfl)) k2 bel lt2) trodAll_mk0))), rfl, bel.frame _, fun h => by cases h⟩

theorem over : Rows.linesPutRow.holds Try.pinned (OpenSpec.ofChange Rows.linesPutSpec) :=
  OpenClaim.holds_of_wide 10 Try.f10 rfl rfl rfl rfl rfl rfl rfl ⟨rfl, rfl, rfl, rfl, rfl⟩ rfl rfl rfl rfl rfl (by kernel_rfl) Try.func10 (by kernel_rfl)
    (of_decide_eq_true (by kernel_rfl)) (by unfold Func.isWrapper; first | (rw [if_pos (by decide +kernel)]; kernel_rfl) | (rw [if_neg (by decide +kernel)]; exact ⟨rfl, rfl⟩))
    (fun os started H enc _ => lifted os started H enc)

theorem proved : Rows.LinesPutSaid := over
end Go.Proofs.Ytjjbpaaionpjeaa.linesPut
