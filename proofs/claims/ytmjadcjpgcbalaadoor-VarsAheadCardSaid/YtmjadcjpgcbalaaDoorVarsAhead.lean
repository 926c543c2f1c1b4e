/- What a place gives stands ahead of what is set by the same name; a path is its directory, a sign, its file, the file its base and the rest. Conditions: none beyond the form's own. -/
import Derived.Test.YtmjadcjpgcbalaaDoorRows
import Derived.Test.YtmjadcjpgcbalaaDoorCards
import Derived.Test.YtmjadcjpgcbalaaDoorTie
import Derived.Lay
import Derived.LaidMore
import Derived.MakeChecks
import Derived.Stop.Joined
import Derived.SevenTiedAt
import Derived.Test.YtmjadcjpgcbalaaDoorArgs
import Derived.Test.YtmjadcjpgcbalaaDoorVarJ
import Derived.Test.YtmjadcjpgcbalaaDoorLow
namespace Go.Proofs.YtmjadcjpgcbalaaDoor.varsAhead
open Go.Proofs.YtmjadcjpgcbalaaDoor
open Go.ChangeShapes Go.WideShapes Go.ChangeAt Go.RowKit Go.Deep
open Go.ChangeMaps (open_string shut_string)
set_option linter.unusedVariables false

theorem own : ownKnob Tryd.prog.godebug = none := by kernel_rfl
theorem laidOut : laidOutB Tryd.prog = true := by kernel_rfl
-- opt:16000000
-- tied
open SpanM SetM
attribute [local go_sem ↓] Go.wp_at_zero Go.wp_at_succ
theorem size_lst (x : ByteArray) : x.toList.isEmpty = decide (x.size = 0) := by
  rw [Go.ByteArray.toList_eq, Bool.eq_iff_iff, List.isEmpty_iff, decide_eq_true_eq]
  show _ ↔ x.data.toList.length = 0
  rw [List.length_eq_zero_iff]
set_option maxRecDepth 100000 in
set_option maxHeartbeats 16000000 in
theorem walk (a0 : ByteArray) (a1 : Int) (a2 : ByteArray) (a3 : ByteArray) (w : World) (w0 : a0.size ≤ maxLen) (w1 : (Lit.int .i64 a1).wf = true) (w2 : a2.size ≤ maxLen) (w3 : a3.size ≤ maxLen) (hT : laidMetH Tryd.prog Rows.varsAheadRow.laid w) :
    Calls Tryd.prog 6 #[.string a0, .int .i64 a1, .string a2, .string a3] w fun e w' => e = .returned (.bool true) ∧ Below w.heap.size w w' := by
  have HTAB := hide (pow_tab hT)
  clear hT
  by_cases ha0 : 100 < a0.size
  · have ga0 : decide ((100 : Int) < (a0.size : Int)) = true := decide_eq_true (by omega)
    have ga0' : decide (100 < a0.size) = true := decide_eq_true ha0
    clear ha0
    go_enter Tryd.func6, Tryd.ntmps6
    go_wp2_with fail
    refine (awake23_any _).mono ?_
    rintro e w9 ⟨rfl, hb9⟩
    go_wp2
    go_ret
    exact ⟨rfl, hb9⟩
  have ga0 : decide ((100 : Int) < (a0.size : Int)) = false := decide_eq_false (by omega)
  have ga0' : decide (100 < a0.size) = false := decide_eq_false ha0
  by_cases ha2 : 60 < a2.size
  · have ga2 : decide ((60 : Int) < (a2.size : Int)) = true := decide_eq_true (by omega)
    have ga2' : decide (60 < a2.size) = true := decide_eq_true ha2
    clear ha0 ha2
    go_enter Tryd.func6, Tryd.ntmps6
    go_wp2_with fail
    refine (awake23_any _).mono ?_
    rintro e w9 ⟨rfl, hb9⟩
    go_wp2
    go_ret
    exact ⟨rfl, hb9⟩
  have ga2 : decide ((60 : Int) < (a2.size : Int)) = false := decide_eq_false (by omega)
  have ga2' : decide (60 < a2.size) = false := decide_eq_false ha2
  by_cases ha3 : 30 < a3.size
  · have ga3 : decide ((30 : Int) < (a3.size : Int)) = true := decide_eq_true (by omega)
    have ga3' : decide (30 < a3.size) = true := decide_eq_true ha3
    clear ha0 ha2 ha3
    go_enter Tryd.func6, Tryd.ntmps6
    go_wp2_with fail
    refine (awake23_any _).mono ?_
    rintro e w9 ⟨rfl, hb9⟩
    go_wp2
    go_ret
    exact ⟨rfl, hb9⟩
  have ga3 : decide ((30 : Int) < (a3.size : Int)) = false := decide_eq_false (by omega)
  have ga3' : decide (30 < a3.size) = false := decide_eq_false ha3
  have hs100 : a0.size ≤ 100 := by omega
  have hs60 : a2.size ≤ 60 := by omega
  have hklt := lowN_lt a1 (a0.size + 1) (by omega)
  have HLW : Hid (∀ W, Calls Tryd.prog 19 #[.int .i64 a1, .int .i64 ((a0.size : Int) + 1)] W fun e w' => e = .returned (.int .i64 (lowN a1 (a0.size + 1) : Nat)) ∧ W = w') := hide (fun W => low_any a1 (a0.size + 1) W (by omega) (by omega))
  generalize lowN a1 (a0.size + 1) = k at *
  have hk : k ≤ a0.size := by omega
  have qs : IntKind.i64.wrap ((a0.size : Int) + 1) = (a0.size : Int) + 1 := by rw [IntKind.wrap_i64]; omega
  have HO := hide (of23_b a0 w (by omega))
  obtain ⟨idx, S, E, d, k1, k2, k3, k4, k5, k6, k7, k8⟩ := ln_of a0 k hk
  have hm : mayR 0 (k : Int) a0.size = 0 := by unfold mayR; rw [if_neg (by omega)]
  have hAT : ∀ (W : World) (r : Nat), LnAt W r a0 → Calls Tryd.prog 24 #[.agg #[.pointer (some ⟨r, 0, none⟩)], .int .i64 k] W fun e w' => e = .returned (.tuple #[.int .i64 idx, .int .i64 0]) ∧ Below W.heap.size W w' := fun W r h => by
    have := at_l h (by omega) (k : Int)
    rwa [k1, hm] at this
  have hST : ∀ (W : World) (r : Nat), LnAt W r a0 → Calls Tryd.prog 25 #[.agg #[.pointer (some ⟨r, 0, none⟩)], .int .i64 idx] W fun e w' => e = .returned (.tuple #[.int .i64 S, .int .i64 0]) ∧ Below W.heap.size W w' := fun W r h => by
    have := start_l h (by omega) (idx : Int)
    rwa [k2, k8] at this
  have hEN : ∀ (W : World) (r : Nat), LnAt W r a0 → Calls Tryd.prog 26 #[.agg #[.pointer (some ⟨r, 0, none⟩)], .int .i64 idx] W fun e w' => e = .returned (.tuple #[.int .i64 E, .int .i64 0]) ∧ Below W.heap.size W w' := fun W r h => by
    have := end_l h (by omega) (idx : Int)
    rwa [k3, k8] at this
  have HAT := hide hAT
  have HST := hide hST
  have HEN := hide hEN
  obtain ⟨line, hline⟩ : ∃ line, a0.extract S E = line := ⟨_, rfl⟩
  obtain ⟨wd, hwd⟩ : ∃ wd, wrdF line d = wd := ⟨_, rfl⟩
  have hP := fun (W : World) (r : Nat) (v0 : Value) (hw : Below w.heap.size w W) (h : LnAt W r a0) (he : RwAt W v0 (envA a3 a2)) => place_any h (by omega) k k k k idx S E d v0 (envA a3 a2) he (by simp [envA]) (by omega) (by omega) (by omega) k1 k2 k3 k4 k5 k6 (by omega) line wd a2 true hline hwd (env_path a3 a2).1 (env_path a3 a2).2 (by omega) (it_tab (tab_bl HTAB.out hw) idx (by omega)) (it_tab (tab_bl HTAB.out hw) (idx + 1) (by omega)) k8
  obtain ⟨⟨u1, u2⟩, ⟨u3, u4⟩, ⟨u5, u6⟩, ⟨u7, u8⟩, u9, u10⟩ := pl_gets a0 k line wd idx a3 a2
  have hRl := pl_short a0 k line wd idx a3 a2
  obtain ⟨R, hR⟩ : ∃ R, plAll a0 k k line wd idx true a2 ++ envA a3 a2 = R := ⟨_, rfl⟩
  rw [hR] at u1 u2 u3 u4 u5 u6 u7 u8 u9 u10 hRl
  have hP2 : ∀ (W : World) (r : Nat) (v0 : Value), Below w.heap.size w W → LnAt W r a0 → RwAt W v0 (envA a3 a2) → Calls Tryd.prog 22 #[.agg #[.pointer (some ⟨r, 0, none⟩)], .agg #[.int .i64 k, .int .i64 k], v0] W (VPost W R) := fun W r v0 h1 h2 h3 => by have := hP W r v0 h1 h2 h3; rwa [hR] at this
  have HP := hide hP2
  have HG1 := hide (fun (W : World) (v : Value) (h : RwAt W v R) => get_any v R nLn line true W h hRl u1 u2)
  have HG2 := hide (fun (W : World) (v : Value) (h : RwAt W v R) => get_any v R nSe a3 true W h hRl u3 u4)
  obtain ⟨pf, pc⟩ := path_facts a2
  obtain ⟨bf1, bf2, bf3⟩ := base_facts (cutF a2)
  have hfz : (cutF a2).size ≤ 60 := by
    unfold cutF
    split
    · omega
    · rw [ByteArray.size_extract]; omega
  have hdz : (cutD a2).size ≤ 60 := by
    unfold cutD
    split
    · exact Nat.zero_le _
    · rw [ByteArray.size_extract]; omega
  obtain ⟨dir, hdir⟩ : ∃ x, cutD a2 = x := ⟨_, rfl⟩
  obtain ⟨file, hfile⟩ : ∃ x, cutF a2 = x := ⟨_, rfl⟩
  rw [hfile] at u7 u9 pf pc bf1 bf2 bf3 hfz
  rw [hdir] at u5 pc hdz
  obtain ⟨base, hbase⟩ : ∃ x, basF file = x := ⟨_, rfl⟩
  rw [hbase] at u9 bf1 bf2 bf3
  have HG3 := hide (fun (W : World) (v : Value) (h : RwAt W v R) => get_any v R nDi dir true W h hRl u5 u6)
  have HG4 := hide (fun (W : World) (v : Value) (h : RwAt W v R) => get_any v R nFi file true W h hRl u7 u8)
  have HG5 := hide (fun (W : World) (v : Value) (h : RwAt W v R) => get_any v R nBa base true W h hRl u9 u10)
  have HPF := hide pf
  have HPC := hide pc
  have HB3 := hide bf3
  have HB2 := hide bf2
  have HLI := hide hline
  have hSE : S ≤ E := by omega
  have p1 : decide ((E : Int) < (S : Int)) = false := decide_eq_false (by omega)
  have p1' : decide (E < S) = false := decide_eq_false (by omega)
  have p2 : decide ((a0.size : Int) < (E : Int)) = false := decide_eq_false (by omega)
  have p2' : decide (a0.size < E) = false := decide_eq_false (by omega)
  have p3 : (line.toList != line.toList) = false := by simp
  have p4 : (a3.toList != a3.toList) = false := by simp
  have p5 : (a3.toList == a3.toList) = true := by simp
  clear ha0 ha2 ha3 hklt k1 k2 k3 k4 k5 k7 k8 hm hAT hST hEN hwd hP hP2 u1 u2 u3 u4 u5 u6 u7 u8 u9 u10 hRl hR pf pc bf2 bf3 hdir hfile hbase hline
  go_enter Tryd.func6, Tryd.ntmps6
  go_wp2_with fail
  refine HO.out.mono ?_
  rintro e w1 ⟨r, rfl, hL, hb1, _⟩
  have c0 := ln_c0 w1 r
  have HB := hide (bl_trans hb1 (ln_b0 w1 r))
  have HL := hide (hL.bl (ln_b0 w1 r))
  clear hL hb1 HO
  obtain ⟨wx, hwx⟩ : ∃ wx, w1.alloc (.cells #[.pointer (some ⟨r, 0, none⟩)] 42) = wx := ⟨_, rfl⟩
  rw [hwx] at c0 HB HL
  go_wp2_with fail
  refine (HLW.out _).mono ?_
  rintro e wl ⟨rfl, hwl⟩
  subst hwl
  have hbz := bl_alloc (bl_refl wx) (.cells #[.string nLn, .string a3, .string nSe, .string a3, .string nPa, .string a2, .string nFi, .string a3] 46)
  have HPP := hide (HP.out _ r _ (bl_trans HB.out hbz) (HL.out.bl hbz) (rwat_four wx a3 a2))
  have c0 := cell_later hbz c0
  have HB := hide (bl_trans HB.out hbz)
  have HL := hide (HL.out.bl hbz)
  clear hbz HP HLW
  go_wp2_with fail
  refine HPP.out.mono ?_
  rintro e w2 ⟨v2, rfl, hb2, ho2⟩
  have R2 := own_rwat ho2
  have c0 := cell_later hb2 c0
  have HB := hide (bl_trans HB.out hb2)
  have HL := hide (HL.out.bl hb2)
  clear ho2 hb2 HPP
  go_wp2_with fail
  refine (HG1.out _ _ R2).mono ?_
  rintro e w3 ⟨rfl, hb3⟩
  have R2 := rwat_below R2 hb3
  have c0 := cell_later hb3 c0
  have HB := hide (bl_trans HB.out hb3)
  have HL := hide (HL.out.bl hb3)
  clear hb3 HG1
  go_wp2_with fail
  refine (HG2.out _ _ R2).mono ?_
  rintro e w3 ⟨rfl, hb3⟩
  have R2 := rwat_below R2 hb3
  have c0 := cell_later hb3 c0
  have HB := hide (bl_trans HB.out hb3)
  have HL := hide (HL.out.bl hb3)
  clear hb3 HG2
  go_wp2_with fail
  refine (HG3.out _ _ R2).mono ?_
  rintro e w3 ⟨rfl, hb3⟩
  have R2 := rwat_below R2 hb3
  have c0 := cell_later hb3 c0
  have HB := hide (bl_trans HB.out hb3)
  have HL := hide (HL.out.bl hb3)
  clear hb3 HG3
  go_wp2_with fail
  refine (HG4.out _ _ R2).mono ?_
  rintro e w3 ⟨rfl, hb3⟩
  have R2 := rwat_below R2 hb3
  have c0 := cell_later hb3 c0
  have HB := hide (bl_trans HB.out hb3)
  have HL := hide (HL.out.bl hb3)
  clear hb3 HG4
  go_wp2_with fail
  refine (HG5.out _ _ R2).mono ?_
  rintro e w3 ⟨rfl, hb3⟩
  have R2 := rwat_below R2 hb3
  have c0 := cell_later hb3 c0
  have HB := hide (bl_trans HB.out hb3)
  have HL := hide (HL.out.bl hb3)
  clear hb3 HG5
  go_wp2_with fail
  refine (HAT.out _ r HL.out).mono ?_
  rintro e w3 ⟨rfl, hb3⟩
  have c0 := cell_later hb3 c0
  have HB := hide (bl_trans HB.out hb3)
  have HL := hide (HL.out.bl hb3)
  clear hb3 HAT
  go_wp2_with fail
  refine (HST.out _ r HL.out).mono ?_
  rintro e w3 ⟨rfl, hb3⟩
  have c0 := cell_later hb3 c0
  have HB := hide (bl_trans HB.out hb3)
  have HL := hide (HL.out.bl hb3)
  clear hb3 HST
  go_wp2_with fail
  refine (HEN.out _ r HL.out).mono ?_
  rintro e w3 ⟨rfl, hb3⟩
  have c0 := cell_later hb3 c0
  have HB := hide (bl_trans HB.out hb3)
  have HL := hide (HL.out.bl hb3)
  clear hb3 HEN
  have hx := HLI.out
  go_wp2
  clear hx
  clear p1 p1' p2 p2' p3 p4 p5 c0 R2
  go_loopw [30, 31] (fun b i wr => ∃ j : Nat, i = .int .i64 j ∧ j ≤ a2.size ∧ b = .bool (slB a2 j) ∧ w3 = wr) (fun _ i _ => a2.size - (intOf i).toNat)
  case atStart => exact ⟨0, rfl, Nat.zero_le _, by rw [slB_zero], rfl⟩
  case round =>
    obtain ⟨j, rfl, hj, rfl, rfl⟩ := hrel
    by_cases hlt : j < a2.size
    · have gj : decide ((j : Int) < (a2.size : Int)) = true := decide_eq_true (by omega)
      have gj' : decide (j < a2.size) = true := decide_eq_true hlt
      have hnx := slB_next a2 j hlt
      rcases hf : slB a2 j with _ | _
      · rw [hf, Bool.false_or] at hnx
        obtain ⟨q, hq⟩ : ∃ q, (((a2[j].toNat : Nat) : Int) == 47) = q := ⟨_, rfl⟩
        rw [hq] at hnx
        have HNX := hide hnx
        clear hnx hf
        go_wp2
        refine ⟨?_, by first | (simp [intOf]; done) | (simp [intOf]; omega)⟩
        first
          | exact ⟨j + 1, by go_num, by omega, by rw [HNX.out], by first | rfl | trivial⟩
          | ((repeat apply Exists.intro); exact ⟨⟨j + 1, by go_num, by omega, by rw [HNX.out], by first | rfl | trivial⟩, rfl⟩)
      · rw [hf, Bool.true_or] at hnx
        have HNX := hide hnx
        clear hnx hf
        go_wp2
        refine ⟨?_, by first | (simp [intOf]; done) | (simp [intOf]; omega)⟩
        first
          | exact ⟨j + 1, by go_num, by omega, by rw [HNX.out], by first | rfl | trivial⟩
          | ((repeat apply Exists.intro); exact ⟨⟨j + 1, by go_num, by omega, by rw [HNX.out], by first | rfl | trivial⟩, rfl⟩)
    · obtain rfl : j = a2.size := by omega
      have gj : decide (a2.size < a2.size) = false := by simp
      clear hlt
      rcases HPC.out with ⟨y1, y2, y3⟩ | ⟨y1, y2⟩
      · rw [y1]
        have y5 : (file.toList == a2.toList) = true := by rw [y3]; exact beq_self_eq_true _
        clear y3
        clear y1
        have y4 : dir.toList.isEmpty = true := by rw [y2, size_lst]; rfl
        clear y2
        go_wp2
        go_loopw [33] (fun i wr => ∃ j : Nat, i = .int .i64 j ∧ j ≤ file.size ∧ w3 = wr) (fun i _ => file.size - (intOf i).toNat)
        case atStart => exact ⟨0, rfl, Nat.zero_le _, rfl⟩
        case round =>
          obtain ⟨j, rfl, hj, rfl⟩ := hrel
          by_cases hlj : j < file.size
          · have gj : decide ((j : Int) < (file.size : Int)) = true := decide_eq_true (by omega)
            have gj' : decide (j < file.size) = true := decide_eq_true hlj
            have gq : (((file[j].toNat : Nat) : Int) == 47) = false := beq_eq_false_iff_ne.2 (HPF.out j hlj)
            go_wp2
            refine ⟨?_, by first | (simp [intOf]; done) | (simp [intOf]; omega)⟩
            first
              | exact ⟨j + 1, by go_num, by omega, by first | rfl | trivial⟩
              | ((repeat apply Exists.intro); exact ⟨⟨j + 1, by go_num, by omega, by first | rfl | trivial⟩, rfl⟩)
          · obtain rfl : j = file.size := by omega
            have gj : decide (file.size < file.size) = false := by simp
            have z1 : decide ((base.size : Int) ≤ (file.size : Int)) = true := decide_eq_true (by omega)
            have z1' : decide (base.size ≤ file.size) = true := decide_eq_true bf1
            have z2 := HB2.out
            have z3 : (base.toList == base.toList) = true := beq_self_eq_true _
            rcases HB3.out with hz | hz
            · have z4 : base.toList.isEmpty = false := by rw [size_lst]; exact decide_eq_false hz
              clear hz hlj
              go_wp2_with fail
              refine (awake23_any _).mono ?_
              rintro e w9 ⟨rfl, hb9⟩
              go_wp2
              go_ret
              exact ⟨rfl, bl_trans HB.out hb9⟩
            · by_cases hbz : base.size = 0
              · have z4 : base.toList.isEmpty = true := by rw [size_lst]; exact decide_eq_true hbz
                have z5 : file.toList.isEmpty = true := by rw [size_lst]; exact decide_eq_true hz
                clear hz hlj hbz
                go_wp2_with fail
                refine (awake23_any _).mono ?_
                rintro e w9 ⟨rfl, hb9⟩
                go_wp2
                go_ret
                exact ⟨rfl, bl_trans HB.out hb9⟩
              · have z4 : base.toList.isEmpty = false := by rw [size_lst]; exact decide_eq_false hbz
                clear hz hlj hbz
                go_wp2_with fail
                refine (awake23_any _).mono ?_
                rintro e w9 ⟨rfl, hb9⟩
                go_wp2
                go_ret
                exact ⟨rfl, bl_trans HB.out hb9⟩
      · rw [y1]
        have y5 : (a2.toList == a2.toList) = true := beq_self_eq_true _
        have hv1 : ((⟨#[47]⟩ : ByteArray)).size = 1 := rfl
        have hdd : (dir ++ ⟨#[47]⟩).size ≤ 61 := by rw [ByteArray.size_append]; omega
        clear y1
        go_wp2
        go_loopw [33] (fun i wr => ∃ j : Nat, i = .int .i64 j ∧ j ≤ file.size ∧ w3 = wr) (fun i _ => file.size - (intOf i).toNat)
        case atStart => exact ⟨0, rfl, Nat.zero_le _, rfl⟩
        case round =>
          obtain ⟨j, rfl, hj, rfl⟩ := hrel
          by_cases hlj : j < file.size
          · have gj : decide ((j : Int) < (file.size : Int)) = true := decide_eq_true (by omega)
            have gj' : decide (j < file.size) = true := decide_eq_true hlj
            have gq : (((file[j].toNat : Nat) : Int) == 47) = false := beq_eq_false_iff_ne.2 (HPF.out j hlj)
            go_wp2
            refine ⟨?_, by first | (simp [intOf]; done) | (simp [intOf]; omega)⟩
            first
              | exact ⟨j + 1, by go_num, by omega, by first | rfl | trivial⟩
              | ((repeat apply Exists.intro); exact ⟨⟨j + 1, by go_num, by omega, by first | rfl | trivial⟩, rfl⟩)
          · obtain rfl : j = file.size := by omega
            have gj : decide (file.size < file.size) = false := by simp
            have z1 : decide ((base.size : Int) ≤ (file.size : Int)) = true := decide_eq_true (by omega)
            have z1' : decide (base.size ≤ file.size) = true := decide_eq_true bf1
            have z2 := HB2.out
            have z3 : (base.toList == base.toList) = true := beq_self_eq_true _
            rcases HB3.out with hz | hz
            · have z4 : base.toList.isEmpty = false := by rw [size_lst]; exact decide_eq_false hz
              clear hz hlj
              go_wp2_with fail
              refine (awake23_any _).mono ?_
              rintro e w9 ⟨rfl, hb9⟩
              go_wp2
              go_ret
              exact ⟨rfl, bl_trans HB.out hb9⟩
            · by_cases hbz : base.size = 0
              · have z4 : base.toList.isEmpty = true := by rw [size_lst]; exact decide_eq_true hbz
                have z5 : file.toList.isEmpty = true := by rw [size_lst]; exact decide_eq_true hz
                clear hz hlj hbz
                go_wp2_with fail
                refine (awake23_any _).mono ?_
                rintro e w9 ⟨rfl, hb9⟩
                go_wp2
                go_ret
                exact ⟨rfl, bl_trans HB.out hb9⟩
              · have z4 : base.toList.isEmpty = false := by rw [size_lst]; exact decide_eq_false hbz
                clear hz hlj hbz
                go_wp2_with fail
                refine (awake23_any _).mono ?_
                rintro e w9 ⟨rfl, hb9⟩
                go_wp2
                go_ret
                exact ⟨rfl, bl_trans HB.out hb9⟩

set_option maxRecDepth 100000 in
theorem lifted (os : Os) (started : os.Started) (H : Type) (enc : TypeId × Value → H) :
    ReturnsInHanded {} Tryd.checked os 6 .any (fun w args => (Rows.varsAheadSpec.pre enc Tryd.prog Tryd.f6 Rows.varsAheadRow.domain false w args ∧ laidMetH Tryd.prog Rows.varsAheadRow.laid w) ∧ sizedMet enc Tryd.prog Tryd.f6 (OpenSpec.ofChange Rows.varsAheadSpec) false w args) (Rows.varsAheadSpec.post enc Tryd.prog Tryd.f6 false true false false) := by
  refine returnsInHanded_of_change_and (C := Tryd.checked) (X := fun w _ => laidMetH Tryd.prog Rows.varsAheadRow.laid w) (fun _ _ _ hh h => h.of_heap hh) own started (by kernel_rfl) Tryd.func6
    (ChangeSpec.witness_shaped (enc := enc) (C := Tryd.checked) (os := os) (X := fun w _ => laidMetH Tryd.prog Rows.varsAheadRow.laid w) false (World.laidAll Tryd.prog os Rows.varsAheadRow.laid) #[.string ByteArray.empty, .int .i64 0, .string ByteArray.empty, .string ByteArray.empty] 8 (World.laidAll_os _ _ _)
      (World.shaped_of_ZipB (by kernel_rfl) (by kernel_rfl)) (by kernel_rfl) (by kernel_rfl) (by kernel_rfl)
      (by rw [MakeChecks.laidMetH_plain _ _ _ (by kernel_rfl)]; exact laidMet_laidAll _ (by kernel_rfl) (by kernel_rfl))) ?_
  intro W base args ds gs before hval0 hW hcnd _ hL _
  have hval : ∀ (j : Nat) t v, Tryd.f6.params[j]? = some t → args[j]? = some v → Value.okWide Tryd.prog W .any base t v := hval0
  have hW' := hW
  obtain ⟨p, q, hA0, hV, rfl, hfz, hnd⟩ := hW
  have hA : DataW.TrodAll enc Tryd.prog W 0 (fun _ => true) true Tryd.f6.params.toList args.toList ds p := hA0
  rw [Tryd.params6] at hA hval
  obtain ⟨v0, vs0, d0, ds0, p0, q0, hargs, rfl, rfl, h0, r0⟩ := trodAll_cons hA
  obtain ⟨v1, vs1, d1, ds1, p1, q1, rfl, rfl, rfl, h1, r1⟩ := trodAll_cons r0
  obtain ⟨v2, vs2, d2, ds2, p2, q2, rfl, rfl, rfl, h2, r2⟩ := trodAll_cons r1
  obtain ⟨v3, vs3, d3, ds3, p3, q3, rfl, rfl, rfl, h3, r3⟩ := trodAll_cons r2
  obtain ⟨rfl, rfl, rfl⟩ := trodAll_nil r3
  obtain rfl : args = #[v0, v1, v2, v3] := by cases args; simp_all
  obtain ⟨rfl, rfl⟩ := trodVars_none hV
  have k0 := h0
  have lt0 : ∀ x ∈ p0, x.block < W.heap.size := by obtain ⟨m, hm⟩ := k0; exact DataW.trod_lt m _ _ _ hm
  obtain ⟨a0, rfl, hd0, hp0, w0⟩ := open_string Tryd.underlying9 (hval 0 9 v0 rfl rfl) h0
  have k1 := h1
  have lt1 : ∀ x ∈ p1, x.block < W.heap.size := by obtain ⟨m, hm⟩ := k1; exact DataW.trod_lt m _ _ _ hm
  obtain ⟨a1, rfl, hd1, hp1, w1⟩ := open_int Tryd.underlying3 (hval 1 3 v1 rfl rfl) h1
  have k2 := h2
  have lt2 : ∀ x ∈ p2, x.block < W.heap.size := by obtain ⟨m, hm⟩ := k2; exact DataW.trod_lt m _ _ _ hm
  obtain ⟨a2, rfl, hd2, hp2, w2⟩ := open_string Tryd.underlying9 (hval 2 9 v2 rfl rfl) h2
  have k3 := h3
  have lt3 : ∀ x ∈ p3, x.block < W.heap.size := by obtain ⟨m, hm⟩ := k3; exact DataW.trod_lt m _ _ _ hm
  obtain ⟨a3, rfl, hd3, hp3, w3⟩ := open_string Tryd.underlying9 (hval 3 9 v3 rfl rfl) h3
  clear hA0 hval0
  refine (walk a0 a1 a2 a3 W w0 w1 w2 w3 hL).mono fun e W' ⟨he, bel⟩ => ?_
  subst he
  exact ⟨_, rfl, _, _, _, [], _, [], hW', trodAll_mk1 (shut_bool Tryd.underlying4 _), (trodAll_cons_mk (Below.trod laidOut (by kernel_rfl) (of_decide_eq_true (by kernel_rfl)) k0 bel lt0) (trodAll_cons_mk (Below.trod laidOut (by kernel_rfl) (of_decide_eq_true (by kernel_rfl)) k1 bel lt1) (trodAll_cons_mk (Below.trod laidOut (by kernel_rfl) (of_decide_eq_true (by kernel_rfl)) k2 bel lt2) (trodAll_cons_mk (Below.trod laidOut (by kernel_rfl) (of_decide_eq_true (by kernel_rfl)) k3 bel lt3) trodAll_mk0)))), rfl, bel.frame _, fun h => by cases h⟩

theorem over : Rows.varsAheadRow.holds Tryd.pinned (OpenSpec.ofChange Rows.varsAheadSpec) :=
  OpenClaim.holds_of_wide 6 Tryd.f6 rfl rfl rfl rfl rfl rfl rfl ⟨rfl, rfl, rfl, rfl, rfl⟩ rfl rfl rfl rfl rfl (by kernel_rfl) Tryd.func6 (by kernel_rfl)
    (of_decide_eq_true (by kernel_rfl)) (by unfold Func.isWrapper; first | (rw [if_pos (by decide +kernel)]; kernel_rfl) | (rw [if_neg (by decide +kernel)]; exact ⟨rfl, rfl⟩))
    (fun os started H enc _ => lifted os started H enc)

set_option maxRecDepth 100000 in
theorem proved : Rows.VarsAheadCardSaid :=
  Claim7.holds_tied_plain_at .later [] [.data, .data, .data] true (true, "ad88b18fa5cecbf30a26213c9b87035bcf4c1f531589068041e55abbb04c666c") false
    over (fun _ h => by cases h) (by kernel_rfl) (fun _ h => by cases h) varsAhead_row_tie rfl ⟨rfl, rfl⟩ (by kernel_rfl) rfl
    (fun f fn hf hfn => by
      obtain rfl : f = 6 := Option.some.inj ((show Tryd.prog.funcNamed "gimlet/gimletlaw23.VarsAhead" = some 6 by kernel_rfl).symm.trans hf) |>.symm
      obtain rfl : fn = Tryd.f6 := (Option.some.inj (Tryd.func6.symm.trans hfn)).symm
      refine ⟨by kernel_rfl, fun j t ht => ?_⟩
      rw [Tryd.params6] at ht
      have hm := Array.mem_of_getElem? ht
      simp at hm
      first
        | (rcases hm with rfl <;> first  | exact (show Tryd.prog.wantsStandIn 3 = false by kernel_rfl) | exact (show Tryd.prog.wantsStandIn 9 = false by kernel_rfl))
        | (rcases hm with rfl | rfl <;> first  | exact (show Tryd.prog.wantsStandIn 3 = false by kernel_rfl) | exact (show Tryd.prog.wantsStandIn 9 = false by kernel_rfl))
        | (rcases hm with rfl | rfl | rfl <;> first  | exact (show Tryd.prog.wantsStandIn 3 = false by kernel_rfl) | exact (show Tryd.prog.wantsStandIn 9 = false by kernel_rfl))
        | (rcases hm with rfl | rfl | rfl | rfl <;> first  | exact (show Tryd.prog.wantsStandIn 3 = false by kernel_rfl) | exact (show Tryd.prog.wantsStandIn 9 = false by kernel_rfl)))
    (by kernel_rfl)
end Go.Proofs.YtmjadcjpgcbalaaDoor.varsAhead
