/- Contracts: word bytes, by the program and by the reference. No condition. -/
import Derived.Test.YtmjadcjpgcbalaaDoorMotB
import Derived.Test.YtmjadcjpgcbalaaDoorOwn
namespace Go.Proofs.YtmjadcjpgcbalaaDoor
open Go.ChangeShapes Go.WideShapes Go.ChangeAt Go.RowKit
set_option maxRecDepth 100000
set_option linter.unusedVariables false
def uppZ (n : Int) : Bool := decide (65 ≤ n) && decide (n ≤ 90)
theorem upp_m (n : Int) (h0 : 0 ≤ n) (h1 : n < 256) (w : World) : Calls Tryd.prog 92 #[.int .u8 n] w fun e w' => e = .returned (.bool (uppZ n)) ∧ w = w' := by
  unfold uppZ
  rcases hb1 : decide (65 ≤ n) with _ | _ <;> rcases hb2 : decide (n ≤ 90) with _ | _
  all_goals
    go_enter Tryd.func92, Tryd.ntmps92
    go_wp2
    go_ret
    exact ⟨rfl, rfl⟩
def lowZ (n : Int) : Bool := decide (97 ≤ n) && decide (n ≤ 122)
theorem low_m (n : Int) (h0 : 0 ≤ n) (h1 : n < 256) (w : World) : Calls Tryd.prog 93 #[.int .u8 n] w fun e w' => e = .returned (.bool (lowZ n)) ∧ w = w' := by
  unfold lowZ
  rcases hb1 : decide (97 ≤ n) with _ | _ <;> rcases hb2 : decide (n ≤ 122) with _ | _
  all_goals
    go_enter Tryd.func93, Tryd.ntmps93
    go_wp2
    go_ret
    exact ⟨rfl, rfl⟩
def digZ (n : Int) : Bool := decide (48 ≤ n) && decide (n ≤ 57)
theorem dig_m (n : Int) (h0 : 0 ≤ n) (h1 : n < 256) (w : World) : Calls Tryd.prog 55 #[.int .u8 n] w fun e w' => e = .returned (.bool (digZ n)) ∧ w = w' := by
  unfold digZ
  rcases hb1 : decide (48 ≤ n) with _ | _ <;> rcases hb2 : decide (n ≤ 57) with _ | _
  all_goals
    go_enter Tryd.func55, Tryd.ntmps55
    go_wp2
    go_ret
    exact ⟨rfl, rfl⟩
def letZ (n : Int) : Bool := uppZ n || lowZ n
theorem let_m (n : Int) (h0 : 0 ≤ n) (h1 : n < 256) (w : World) : Calls Tryd.prog 78 #[.int .u8 n] w fun e w' => e = .returned (.bool (letZ n)) ∧ w = w' := by
  have HU := hide (fun W => upp_m n h0 h1 W)
  have HL := hide (fun W => low_m n h0 h1 W)
  unfold letZ
  generalize uppZ n = u at *
  generalize lowZ n = l at *
  cases u
  all_goals
    go_enter Tryd.func78, Tryd.ntmps78
    go_wp2_with (first | (go_at_call 92; refine (HU.out _).mono ?_; rintro e w1 ⟨rfl, rfl⟩) | (go_at_call 93; refine (HL.out _).mono ?_; rintro e w1 ⟨rfl, rfl⟩))
    go_ret
    exact ⟨rfl, rfl⟩
def namZ (n : Int) : Bool := letZ n || (digZ n || n == 95)
theorem nam_m (n : Int) (h0 : 0 ≤ n) (h1 : n < 256) (w : World) : Calls Tryd.prog 56 #[.int .u8 n] w fun e w' => e = .returned (.bool (namZ n)) ∧ w = w' := by
  have HU := hide (fun W => let_m n h0 h1 W)
  have HL := hide (fun W => dig_m n h0 h1 W)
  unfold namZ
  generalize letZ n = u at *
  generalize digZ n = l at *
  rcases hb : (n == 95) with _ | _
  all_goals
    cases u <;> cases l
  all_goals
    go_enter Tryd.func56, Tryd.ntmps56
    go_wp2_with (first | (go_at_call 78; refine (HU.out _).mono ?_; rintro e w1 ⟨rfl, rfl⟩) | (go_at_call 55; refine (HL.out _).mono ?_; rintro e w1 ⟨rfl, rfl⟩))
    go_ret
    exact ⟨rfl, rfl⟩
def worZ (n : Int) : Bool := namZ n || decide (128 ≤ n)
theorem wor_m (n : Int) (h0 : 0 ≤ n) (h1 : n < 256) (w : World) : Calls Tryd.prog 69 #[.int .u8 n] w fun e w' => e = .returned (.bool (worZ n)) ∧ w = w' := by
  have HU := hide (fun W => nam_m n h0 h1 W)
  unfold worZ
  generalize namZ n = u at *
  rcases hb : decide (128 ≤ n) with _ | _
  all_goals
    cases u
  all_goals
    go_enter Tryd.func69, Tryd.ntmps69
    go_wp2_with (first | (go_at_call 56; refine (HU.out _).mono ?_; rintro e w1 ⟨rfl, rfl⟩))
    go_ret
    exact ⟨rfl, rfl⟩
theorem worZ_c (c : UInt8) : worZ (c.toNat : Int) = wordC c := by
  unfold worZ namZ letZ uppZ lowZ digZ wordC
  rw [Bool.eq_iff_iff]
  simp
  omega
theorem word_m (c : UInt8) (b : Bool) (hb : wordC c = b) (w : World) : Calls Tryd.prog 69 #[.int .u8 (c.toNat : Int)] w fun e w' => e = .returned (.bool b) ∧ w = w' := by
  have := wor_m (c.toNat : Int) (by omega) (by have := c.toNat_lt; omega) w
  rw [worZ_c, hb] at this
  exact this
theorem rword_z (n : Int) (h0 : 0 ≤ n) (h1 : n < 256) (w : World) : Calls Tryd.prog 27 #[.int .u8 n] w fun e w' => e = .returned (.bool (worZ n)) ∧ w = w' := by
  have hz : worZ n = decide ((48 ≤ n ∧ n ≤ 57) ∨ (65 ≤ n ∧ n ≤ 90) ∨ (97 ≤ n ∧ n ≤ 122) ∨ n = 95 ∨ 128 ≤ n) := by
    unfold worZ namZ letZ uppZ lowZ digZ
    rw [Bool.eq_iff_iff]
    simp
    omega
  rw [hz]
  clear hz
  have hr : (0 ≤ n ∧ n ≤ 47) ∨ (48 ≤ n ∧ n ≤ 57) ∨ (58 ≤ n ∧ n ≤ 64) ∨ (65 ≤ n ∧ n ≤ 90) ∨ (91 ≤ n ∧ n ≤ 94) ∨ (95 ≤ n ∧ n ≤ 95) ∨ (96 ≤ n ∧ n ≤ 96) ∨ (97 ≤ n ∧ n ≤ 122) ∨ (123 ≤ n ∧ n ≤ 127) ∨ (128 ≤ n ∧ n ≤ 255) := by omega
  rcases hr with ⟨ha, hb⟩ | ⟨ha, hb⟩ | ⟨ha, hb⟩ | ⟨ha, hb⟩ | ⟨ha, hb⟩ | ⟨ha, hb⟩ | ⟨ha, hb⟩ | ⟨ha, hb⟩ | ⟨ha, hb⟩ | ⟨ha, hb⟩
  · rw [decide_eq_false (by omega)]
    have e95 : (n == 95) = false := by simp; omega
    have l48 : decide (48 ≤ n) = false := decide_eq_false (by omega)
    have l65 : decide (65 ≤ n) = false := decide_eq_false (by omega)
    have l97 : decide (97 ≤ n) = false := decide_eq_false (by omega)
    have l128 : decide (128 ≤ n) = false := decide_eq_false (by omega)
    have u57 : decide (n ≤ 57) = true := decide_eq_true (by omega)
    have u90 : decide (n ≤ 90) = true := decide_eq_true (by omega)
    have u122 : decide (n ≤ 122) = true := decide_eq_true (by omega)
    clear ha hb
    go_enter Tryd.func27, Tryd.ntmps27
    go_wp2
    go_ret
    exact ⟨rfl, rfl⟩
  · rw [decide_eq_true (by omega)]
    have e95 : (n == 95) = false := by simp; omega
    have l48 : decide (48 ≤ n) = true := decide_eq_true (by omega)
    have l65 : decide (65 ≤ n) = false := decide_eq_false (by omega)
    have l97 : decide (97 ≤ n) = false := decide_eq_false (by omega)
    have l128 : decide (128 ≤ n) = false := decide_eq_false (by omega)
    have u57 : decide (n ≤ 57) = true := decide_eq_true (by omega)
    have u90 : decide (n ≤ 90) = true := decide_eq_true (by omega)
    have u122 : decide (n ≤ 122) = true := decide_eq_true (by omega)
    clear ha hb
    go_enter Tryd.func27, Tryd.ntmps27
    go_wp2
    go_ret
    exact ⟨rfl, rfl⟩
  · rw [decide_eq_false (by omega)]
    have e95 : (n == 95) = false := by simp; omega
    have l48 : decide (48 ≤ n) = true := decide_eq_true (by omega)
    have l65 : decide (65 ≤ n) = false := decide_eq_false (by omega)
    have l97 : decide (97 ≤ n) = false := decide_eq_false (by omega)
    have l128 : decide (128 ≤ n) = false := decide_eq_false (by omega)
    have u57 : decide (n ≤ 57) = false := decide_eq_false (by omega)
    have u90 : decide (n ≤ 90) = true := decide_eq_true (by omega)
    have u122 : decide (n ≤ 122) = true := decide_eq_true (by omega)
    clear ha hb
    go_enter Tryd.func27, Tryd.ntmps27
    go_wp2
    go_ret
    exact ⟨rfl, rfl⟩
  · rw [decide_eq_true (by omega)]
    have e95 : (n == 95) = false := by simp; omega
    have l48 : decide (48 ≤ n) = true := decide_eq_true (by omega)
    have l65 : decide (65 ≤ n) = true := decide_eq_true (by omega)
    have l97 : decide (97 ≤ n) = false := decide_eq_false (by omega)
    have l128 : decide (128 ≤ n) = false := decide_eq_false (by omega)
    have u57 : decide (n ≤ 57) = false := decide_eq_false (by omega)
    have u90 : decide (n ≤ 90) = true := decide_eq_true (by omega)
    have u122 : decide (n ≤ 122) = true := decide_eq_true (by omega)
    clear ha hb
    go_enter Tryd.func27, Tryd.ntmps27
    go_wp2
    go_ret
    exact ⟨rfl, rfl⟩
  · rw [decide_eq_false (by omega)]
    have e95 : (n == 95) = false := by simp; omega
    have l48 : decide (48 ≤ n) = true := decide_eq_true (by omega)
    have l65 : decide (65 ≤ n) = true := decide_eq_true (by omega)
    have l97 : decide (97 ≤ n) = false := decide_eq_false (by omega)
    have l128 : decide (128 ≤ n) = false := decide_eq_false (by omega)
    have u57 : decide (n ≤ 57) = false := decide_eq_false (by omega)
    have u90 : decide (n ≤ 90) = false := decide_eq_false (by omega)
    have u122 : decide (n ≤ 122) = true := decide_eq_true (by omega)
    clear ha hb
    go_enter Tryd.func27, Tryd.ntmps27
    go_wp2
    go_ret
    exact ⟨rfl, rfl⟩
  · rw [decide_eq_true (by omega)]
    have e95 : (n == 95) = true := by simp; omega
    have l48 : decide (48 ≤ n) = true := decide_eq_true (by omega)
    have l65 : decide (65 ≤ n) = true := decide_eq_true (by omega)
    have l97 : decide (97 ≤ n) = false := decide_eq_false (by omega)
    have l128 : decide (128 ≤ n) = false := decide_eq_false (by omega)
    have u57 : decide (n ≤ 57) = false := decide_eq_false (by omega)
    have u90 : decide (n ≤ 90) = false := decide_eq_false (by omega)
    have u122 : decide (n ≤ 122) = true := decide_eq_true (by omega)
    clear ha hb
    go_enter Tryd.func27, Tryd.ntmps27
    go_wp2
    go_ret
    exact ⟨rfl, rfl⟩
  · rw [decide_eq_false (by omega)]
    have e95 : (n == 95) = false := by simp; omega
    have l48 : decide (48 ≤ n) = true := decide_eq_true (by omega)
    have l65 : decide (65 ≤ n) = true := decide_eq_true (by omega)
    have l97 : decide (97 ≤ n) = false := decide_eq_false (by omega)
    have l128 : decide (128 ≤ n) = false := decide_eq_false (by omega)
    have u57 : decide (n ≤ 57) = false := decide_eq_false (by omega)
    have u90 : decide (n ≤ 90) = false := decide_eq_false (by omega)
    have u122 : decide (n ≤ 122) = true := decide_eq_true (by omega)
    clear ha hb
    go_enter Tryd.func27, Tryd.ntmps27
    go_wp2
    go_ret
    exact ⟨rfl, rfl⟩
  · rw [decide_eq_true (by omega)]
    have e95 : (n == 95) = false := by simp; omega
    have l48 : decide (48 ≤ n) = true := decide_eq_true (by omega)
    have l65 : decide (65 ≤ n) = true := decide_eq_true (by omega)
    have l97 : decide (97 ≤ n) = true := decide_eq_true (by omega)
    have l128 : decide (128 ≤ n) = false := decide_eq_false (by omega)
    have u57 : decide (n ≤ 57) = false := decide_eq_false (by omega)
    have u90 : decide (n ≤ 90) = false := decide_eq_false (by omega)
    have u122 : decide (n ≤ 122) = true := decide_eq_true (by omega)
    clear ha hb
    go_enter Tryd.func27, Tryd.ntmps27
    go_wp2
    go_ret
    exact ⟨rfl, rfl⟩
  · rw [decide_eq_false (by omega)]
    have e95 : (n == 95) = false := by simp; omega
    have l48 : decide (48 ≤ n) = true := decide_eq_true (by omega)
    have l65 : decide (65 ≤ n) = true := decide_eq_true (by omega)
    have l97 : decide (97 ≤ n) = true := decide_eq_true (by omega)
    have l128 : decide (128 ≤ n) = false := decide_eq_false (by omega)
    have u57 : decide (n ≤ 57) = false := decide_eq_false (by omega)
    have u90 : decide (n ≤ 90) = false := decide_eq_false (by omega)
    have u122 : decide (n ≤ 122) = false := decide_eq_false (by omega)
    clear ha hb
    go_enter Tryd.func27, Tryd.ntmps27
    go_wp2
    go_ret
    exact ⟨rfl, rfl⟩
  · rw [decide_eq_true (by omega)]
    have e95 : (n == 95) = false := by simp; omega
    have l48 : decide (48 ≤ n) = true := decide_eq_true (by omega)
    have l65 : decide (65 ≤ n) = true := decide_eq_true (by omega)
    have l97 : decide (97 ≤ n) = true := decide_eq_true (by omega)
    have l128 : decide (128 ≤ n) = true := decide_eq_true (by omega)
    have u57 : decide (n ≤ 57) = false := decide_eq_false (by omega)
    have u90 : decide (n ≤ 90) = false := decide_eq_false (by omega)
    have u122 : decide (n ≤ 122) = false := decide_eq_false (by omega)
    clear ha hb
    go_enter Tryd.func27, Tryd.ntmps27
    go_wp2
    go_ret
    exact ⟨rfl, rfl⟩
theorem rword_m (c : UInt8) (b : Bool) (hb : wordC c = b) (w : World) : Calls Tryd.prog 27 #[.int .u8 (c.toNat : Int)] w fun e w' => e = .returned (.bool b) ∧ w = w' := by
  have := rword_z (c.toNat : Int) (by omega) (by have := c.toNat_lt; omega) w
  rw [worZ_c, hb] at this
  exact this
end Go.Proofs.YtmjadcjpgcbalaaDoor
