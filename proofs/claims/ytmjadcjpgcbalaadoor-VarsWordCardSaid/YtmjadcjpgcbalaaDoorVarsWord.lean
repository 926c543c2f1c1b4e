/- The word at a place has word bytes alone, touches the place, and ends on both sides where there is none; if there is no word, none of the two bytes beside is one. Conditions: none beyond the form's own. -/
import Derived.Test.YtmjadcjpgcbalaaDoorRows
import Derived.Test.YtmjadcjpgcbalaaDoorCards
import Derived.Test.YtmjadcjpgcbalaaDoorTie
import Derived.Lay
import Derived.LaidMore
import Derived.MakeChecks
import Derived.Stop.Joined
import Derived.SevenTiedAt
import Derived.Test.YtmjadcjpgcbalaaDoorArgs
import Derived.Test.YtmjadcjpgcbalaaDoorVdEnd
import Derived.Test.YtmjadcjpgcbalaaDoorLow
namespace Go.Proofs.YtmjadcjpgcbalaaDoor.varsWord
open Go.Proofs.YtmjadcjpgcbalaaDoor
open Go.ChangeShapes Go.WideShapes Go.ChangeAt Go.RowKit Go.Deep
open Go.ChangeMaps (open_string shut_string)
set_option linter.unusedVariables false

theorem own : ownKnob Tryd.prog.godebug = none := by kernel_rfl
theorem laidOut : laidOutB Tryd.prog = true := by kernel_rfl
-- opt:16000000
-- tied
open SpanM SetM
attribute [local go_sem ↓] Go.wp_at_zero Go.wp_at_succ
theorem ext_at (x : ByteArray) (A B i : Nat) (hB : B ≤ x.size) (hi : i < (x.extract A B).size) : (x.extract A B)[i] = x[A + i]'(by rw [ByteArray.size_extract] at hi; omega) := by
  rw [ByteArray.getElem_extract]
theorem size_lst (x : ByteArray) : x.toList.isEmpty = decide (x.size = 0) := by
  rw [Go.ByteArray.toList_eq, Bool.eq_iff_iff, List.isEmpty_iff, decide_eq_true_eq]
  show _ ↔ x.data.toList.length = 0
  rw [List.length_eq_zero_iff]
set_option maxRecDepth 100000 in
set_option maxHeartbeats 16000000 in
theorem walk (a0 : ByteArray) (a1 : Int) (w : World) (w0 : a0.size ≤ maxLen) (w1 : (Lit.int .i64 a1).wf = true) (hT : laidMetH Tryd.prog Rows.varsWordRow.laid w) :
    Calls Tryd.prog 7 #[.string a0, .int .i64 a1] w fun e w' => e = .returned (.bool true) ∧ Below w.heap.size w w' := by
  have HTAB := hide (pow_tab hT)
  clear hT
  by_cases h100 : 100 < a0.size
  · have g0 : decide ((100 : Int) < (a0.size : Int)) = true := decide_eq_true (by omega)
    have g0' : decide (100 < a0.size) = true := decide_eq_true h100
    clear h100
    go_enter Tryd.func7, Tryd.ntmps7
    go_wp2_with fail
    refine (awake23_any _).mono ?_
    rintro e w9 ⟨rfl, hb9⟩
    go_wp2
    go_ret
    exact ⟨rfl, hb9⟩
  have g0 : decide ((100 : Int) < (a0.size : Int)) = false := decide_eq_false (by omega)
  have g0' : decide (100 < a0.size) = false := decide_eq_false h100
  have hs100 : a0.size ≤ 100 := by omega
  have hklt := lowN_lt a1 (a0.size + 1) (by omega)
  have HLW : Hid (∀ W, Calls Tryd.prog 19 #[.int .i64 a1, .int .i64 ((a0.size : Int) + 1)] W fun e w' => e = .returned (.int .i64 (lowN a1 (a0.size + 1) : Nat)) ∧ W = w') := hide (fun W => low_any a1 (a0.size + 1) W (by omega) (by omega))
  generalize lowN a1 (a0.size + 1) = k at *
  have hk : k ≤ a0.size := by omega
  have qs : IntKind.i64.wrap ((a0.size : Int) + 1) = (a0.size : Int) + 1 := by rw [IntKind.wrap_i64]; omega
  have HO := hide (of23_b a0 w (by omega))
  obtain ⟨idx, S, E, d, k1, k2, k3, k4, k5, k6, k7, k8⟩ := ln_of a0 k hk
  obtain ⟨m1, m2⟩ := ln_ends a0 idx S E k k2 k3 k8 (by omega) hk
  obtain ⟨wl, wS, wE⟩ := word_line a0 S E d k k4 k5 k6 m1 m2
  obtain ⟨c1, c2, c3⟩ := dnW_at (wdP a0.data.toList) k
  obtain ⟨d1, d2, d3, d4⟩ := upW_at (wdP a0.data.toList) a0.size k
  have d2 := d2 hk
  obtain ⟨A, hA⟩ : ∃ A, dnW (wdP a0.data.toList) k = A := ⟨_, rfl⟩
  obtain ⟨B, hB⟩ : ∃ B, upW (wdP a0.data.toList) a0.size k = B := ⟨_, rfl⟩
  rw [hA] at wl wS c1 c2 c3
  rw [hB] at wl wE d1 d2 d3 d4
  have hall : ∀ j, A ≤ j → j < B → wdP a0.data.toList j = true := fun j h1 h2 => by
    rcases Nat.lt_or_ge j k with h | h
    · exact c2 j h1 h
    · exact d3 j h h2
  obtain ⟨wd, hwd⟩ : ∃ wd, a0.extract A B = wd := ⟨_, rfl⟩
  rw [hwd] at wl
  have hwz : wd.size = B - A := by rw [← hwd, ByteArray.size_extract]; omega
  have hwb : ∀ i (h : i < wd.size), wordC wd[i] = true := by
    subst hwd
    intro i h
    rw [ext_at a0 A B i (by omega) h, ← wd_at a0 (A + i) (by rw [ByteArray.size_extract] at h; omega)]
    exact hall (A + i) (by omega) (by rw [ByteArray.size_extract] at h; omega)
  have hP := fun (W : World) (r : Nat) (hw : Below w.heap.size w W) (h : LnAt W r a0) => place_any h (by omega) 0 k (min 0 k) (max 0 k) idx S E d (.slice none 0 0) [] (.inl ⟨rfl, rfl⟩) (by simp) (by omega) (by omega) (by omega) k1 k2 k3 k4 k5 k6 (by omega) (a0.extract S E) wd ⟨#[]⟩ false rfl wl rfl rfl (by decide) (it_tab (tab_bl HTAB.out hw) idx (by omega)) (it_tab (tab_bl HTAB.out hw) (idx + 1) (by omega)) k8
  have HP : Hid (∀ (W : World) (r : Nat), Below w.heap.size w W → LnAt W r a0 → Calls Tryd.prog 22 #[.agg #[.pointer (some ⟨r, 0, none⟩)], .agg #[.int .i64 0, .int .i64 k], .slice none 0 0] W (VPost W (plAll a0 (min 0 k) (max 0 k) (a0.extract S E) wd idx false ⟨#[]⟩ ++ []))) := hide hP
  obtain ⟨pb, pv⟩ := pl_word a0 (min 0 k) (max 0 k) (a0.extract S E) wd idx
  have hRl : (plAll a0 (min 0 k) (max 0 k) (a0.extract S E) wd idx false ⟨#[]⟩ ++ []).length ≤ 1000 := by
    unfold plAll plSel plWord plPath
    split <;> split <;> simp
  obtain ⟨R, hR⟩ : ∃ R, plAll a0 (min 0 k) (max 0 k) (a0.extract S E) wd idx false ⟨#[]⟩ ++ [] = R := ⟨_, rfl⟩
  rw [hR] at HP pb pv hRl
  rw [size_lst] at pb pv
  have HGET := hide (fun (W : World) (v : Value) (h : RwAt W v R) (X : ByteArray) (bb : Bool) (hX : getV nWd R = X) (hb : getB nWd R = bb) => get_any v R nWd X bb W h hRl hX hb)
  have HPV := hide (And.intro pb pv)
  have HWZ := hide hwz
  have HWB := hide hwb
  have HC3 := hide (And.intro c3 (And.intro d4 hwd))
  have HPB := hide (fun (j : Nat) (hj : j < a0.size) => wd_at a0 j hj)
  have ha1 : ∀ (hk0 : 0 < k), wdP a0.data.toList (k - 1) = decide (A < k) := by
    intro hk0
    by_cases h : A < k
    · rw [decide_eq_true h]; exact c2 (k - 1) (by omega) (by omega)
    · rw [decide_eq_false h]; exact c3 (k - 1) (by omega)
  have ha2 : ∀ (hks : k < a0.size), wdP a0.data.toList k = decide (k < B) := by
    intro hks
    by_cases h : k < B
    · rw [decide_eq_true h]; exact d3 k (by omega) h
    · rw [decide_eq_false h, ← show B = k by omega]; exact d4 (by omega)
  have HA1 := hide (And.intro ha1 ha2)
  clear h100 hklt k1 k2 k3 k4 k5 k6 k7 k8 m1 m2 wl wS wE c2 c3 d3 d4 hall hwb hP pb pv hR hRl hA hB hwd ha1 ha2
  go_enter Tryd.func7, Tryd.ntmps7
  go_wp2_with fail
  refine HO.out.mono ?_
  rintro e w1 ⟨r, rfl, hL, hb1, _⟩
  have c0 := ln_c0 w1 r
  have HB := hide (bl_trans hb1 (ln_b0 w1 r))
  have HL := hide (hL.bl (ln_b0 w1 r))
  clear hL hb1 HO g0 g0'
  go_wp2_with fail
  refine (HLW.out _).mono ?_
  rintro e wl ⟨rfl, hwl⟩
  subst hwl
  go_wp2_with fail
  refine (HP.out _ _ HB.out HL.out).mono ?_
  rintro e w2 ⟨v2, rfl, hb2, ho2⟩
  have R2 := own_rwat ho2
  have HB := hide (bl_trans HB.out hb2)
  clear ho2 hb2 HP HL c0 HLW
  by_cases hz0 : wd.size = 0
  · -- no word
    have hAB2 : A = k ∧ B = k := by omega
    have HG := hide (HGET.out _ _ R2 ⟨#[]⟩ false (by rw [HPV.out.2, decide_eq_true hz0, if_pos rfl]) (by rw [HPV.out.1, decide_eq_true hz0]; rfl))
    go_wp2_with fail
    refine HG.out.mono ?_
    rintro e w3 ⟨rfl, hb3⟩
    have HB := hide (bl_trans HB.out hb3)
    clear hb3 HG HGET R2 hz0
    rcases Nat.eq_zero_or_pos k with hk0 | hk0
    · have gk : decide ((0 : Int) < (k : Int)) = false := decide_eq_false (by omega)
      have gk' : decide (0 < k) = false := decide_eq_false (by omega)
      by_cases hks : k < a0.size
      · have gs : decide ((k : Int) < (a0.size : Int)) = true := decide_eq_true (by omega)
        have gs' : decide (k < a0.size) = true := decide_eq_true hks
        have hw2 := HA1.out.2 hks
        rw [HPB.out k hks] at hw2
        obtain ⟨pb, hpb⟩ : ∃ pb, decide (k < B) = pb := ⟨_, rfl⟩
        rw [hpb] at hw2
        have HW2 := hide (fun W => rword_m a0[k] pb hw2 W)
        clear hw2
        have hpt2 : pb = false := by rw [← hpb]; exact decide_eq_false (by omega)
        subst hpt2
        clear hpb
        clear hAB2
        try clear hk0
        try clear hwz
        try clear hkm
        try clear hfm
        go_wp2_with fail
        refine (HW2.out _).mono ?_
        rintro e wx ⟨rfl, hwx⟩
        subst hwx
        try clear hk0
        try clear hwz
        try clear hkm
        try clear hfm
        go_wp2_with fail
        refine (awake23_any _).mono ?_
        rintro e w9 ⟨rfl, hb9⟩
        try clear hk0
        try clear hwz
        try clear hkm
        try clear hfm
        go_wp2
        go_ret
        exact ⟨rfl, bl_trans HB.out hb9⟩
      · have gs : decide ((k : Int) < (a0.size : Int)) = false := decide_eq_false (by omega)
        have gs' : decide (k < a0.size) = false := decide_eq_false hks
        clear hAB2
        try clear hk0
        try clear hwz
        try clear hkm
        try clear hfm
        go_wp2_with fail
        refine (awake23_any _).mono ?_
        rintro e w9 ⟨rfl, hb9⟩
        try clear hk0
        try clear hwz
        try clear hkm
        try clear hfm
        go_wp2
        go_ret
        exact ⟨rfl, bl_trans HB.out hb9⟩
    · have gk : decide ((0 : Int) < (k : Int)) = true := decide_eq_true (by omega)
      have gk' : decide (0 < k) = true := decide_eq_true hk0
      obtain ⟨km, hkm⟩ : ∃ km, km + 1 = k := ⟨k - 1, by omega⟩
      have gw : IntKind.i64.wrap ((k : Int) - 1) = (km : Int) := by rw [IntKind.wrap_i64]; omega
      have hkx : km < a0.size := by omega
      have hw1 := HA1.out.1 hk0
      rw [show k - 1 = km by omega, HPB.out km hkx] at hw1
      obtain ⟨pa, hpa⟩ : ∃ pa, decide (A < k) = pa := ⟨_, rfl⟩
      rw [hpa] at hw1
      have HW1 := hide (fun W => rword_m a0[km] pa hw1 W)
      clear hw1
      by_cases hks : k < a0.size
      · have gs : decide ((k : Int) < (a0.size : Int)) = true := decide_eq_true (by omega)
        have gs' : decide (k < a0.size) = true := decide_eq_true hks
        have hw2 := HA1.out.2 hks
        rw [HPB.out k hks] at hw2
        obtain ⟨pb, hpb⟩ : ∃ pb, decide (k < B) = pb := ⟨_, rfl⟩
        rw [hpb] at hw2
        have HW2 := hide (fun W => rword_m a0[k] pb hw2 W)
        clear hw2
        have hpt : pa = false := by rw [← hpa]; exact decide_eq_false (by omega)
        subst hpt
        clear hpa
        have hpt2 : pb = false := by rw [← hpb]; exact decide_eq_false (by omega)
        subst hpt2
        clear hpb
        clear hAB2
        try clear hk0
        try clear hwz
        try clear hkm
        try clear hfm
        go_wp2_with fail
        refine (HW1.out _).mono ?_
        rintro e wx ⟨rfl, hwx⟩
        subst hwx
        try clear hk0
        try clear hwz
        try clear hkm
        try clear hfm
        go_wp2_with fail
        refine (HW2.out _).mono ?_
        rintro e wx ⟨rfl, hwx⟩
        subst hwx
        try clear hk0
        try clear hwz
        try clear hkm
        try clear hfm
        go_wp2_with fail
        refine (awake23_any _).mono ?_
        rintro e w9 ⟨rfl, hb9⟩
        try clear hk0
        try clear hwz
        try clear hkm
        try clear hfm
        go_wp2
        go_ret
        exact ⟨rfl, bl_trans HB.out hb9⟩
      · have gs : decide ((k : Int) < (a0.size : Int)) = false := decide_eq_false (by omega)
        have gs' : decide (k < a0.size) = false := decide_eq_false hks
        have hpt : pa = false := by rw [← hpa]; exact decide_eq_false (by omega)
        subst hpt
        clear hpa
        clear hAB2
        try clear hk0
        try clear hwz
        try clear hkm
        try clear hfm
        go_wp2_with fail
        refine (HW1.out _).mono ?_
        rintro e wx ⟨rfl, hwx⟩
        subst hwx
        try clear hk0
        try clear hwz
        try clear hkm
        try clear hfm
        go_wp2_with fail
        refine (awake23_any _).mono ?_
        rintro e w9 ⟨rfl, hb9⟩
        try clear hk0
        try clear hwz
        try clear hkm
        try clear hfm
        go_wp2
        go_ret
        exact ⟨rfl, bl_trans HB.out hb9⟩
  have hAB : A < B := by omega
  have HG := hide (HGET.out _ _ R2 wd true (by rw [HPV.out.2, decide_eq_false hz0, if_neg (by simp)]) (by rw [HPV.out.1, decide_eq_false hz0]; rfl))
  try clear hk0
  try clear hwz
  try clear hkm
  try clear hfm
  go_wp2_with fail
  refine HG.out.mono ?_
  rintro e w3 ⟨rfl, hb3⟩
  have HB := hide (bl_trans HB.out hb3)
  clear hb3 HG HGET R2
  rcases Nat.eq_zero_or_pos k with hk0 | hk0
  · have gk : decide ((0 : Int) < (k : Int)) = false := decide_eq_false (by omega)
    have gk' : decide (0 < k) = false := decide_eq_false (by omega)
    by_cases hks : k < a0.size
    · have gs : decide ((k : Int) < (a0.size : Int)) = true := decide_eq_true (by omega)
      have gs' : decide (k < a0.size) = true := decide_eq_true hks
      have hw2 := HA1.out.2 hks
      rw [HPB.out k hks] at hw2
      obtain ⟨pb, hpb⟩ : ∃ pb, decide (k < B) = pb := ⟨_, rfl⟩
      rw [hpb] at hw2
      have HW2 := hide (fun W => rword_m a0[k] pb hw2 W)
      clear hw2
      have hpt : pb = true := by rw [← hpb]; exact decide_eq_true (by omega)
      subst hpt
      clear hpb
      as_aux_lemma =>
        try clear hk0
        try clear hwz
        try clear hkm
        try clear hfm
        go_wp2_with fail
        refine (HW2.out _).mono ?_
        rintro e wx ⟨rfl, hwx⟩
        subst hwx
        try clear hk0
        try clear hwz
        try clear hkm
        try clear hfm
        go_wp2
        clear gk gk' gs gs'
        go_loopw [14] (fun i wr => ∃ f : Nat, i = .int .i64 f ∧ f ≤ A ∧ w3 = wr) (fun i _ => A + 1 - (intOf i).toNat)
        case atStart => exact ⟨0, rfl, Nat.zero_le _, rfl⟩
        case round =>
          obtain ⟨f, rfl, hf, rfl⟩ := hrel
          have hwz := HWZ.out
          have l1 : decide ((f : Int) ≤ (k : Int)) = true := decide_eq_true (by omega)
          have l1' : decide (f ≤ k) = true := decide_eq_true (by omega)
          obtain ⟨t, ht⟩ : ∃ t, f + wd.size = t := ⟨_, rfl⟩
          have l2 : (f : Int) + (wd.size : Int) = (t : Int) := by omega
          have l3 : IntKind.i64.wrap (t : Int) = (t : Int) := by rw [IntKind.wrap_i64]; omega
          have l4 : decide ((t : Int) ≤ (a0.size : Int)) = true := decide_eq_true (by omega)
          have l4' : decide (t ≤ a0.size) = true := decide_eq_true (by omega)
          have l5 : IntKind.i64.wrap ((f : Int) + 1) = (f : Int) + 1 := by rw [IntKind.wrap_i64]; omega
          have hts : t ≤ a0.size := by omega
          have hft : f ≤ t := by omega
          have hfs : f ≤ a0.size := by omega
          have HT := hide ht
          clear ht
          by_cases hc1 : t < k
          · have r1 : decide ((t : Int) < (k : Int)) = true := decide_eq_true (by omega)
            have r1' : decide (t < k) = true := decide_eq_true hc1
            have hfA : f < A := by have := HT.out; omega
            clear hc1
            try clear hk0
            try clear hwz
            try clear hkm
            try clear hfm
            go_wp2
            refine ⟨?_, by first | (simp [intOf]; done) | (simp [intOf]; omega)⟩
            first
              | exact ⟨f + 1, by go_num, by omega, by first | rfl | trivial⟩
              | ((repeat apply Exists.intro); exact ⟨⟨f + 1, by go_num, by omega, by first | rfl | trivial⟩, rfl⟩)
          have r1 : decide ((t : Int) < (k : Int)) = false := decide_eq_false (by omega)
          have r1' : decide (t < k) = false := decide_eq_false hc1
          rcases hq : ((a0.extract f t).toList == wd.toList) with _ | _
          · have r2 : ((a0.extract f t).toList != wd.toList) = true := by rw [bne, hq]; rfl
            have hfA : f < A := by
              rcases Nat.eq_or_lt_of_le hf with h | h
              · exfalso
                have ht2 := HT.out
                rw [h, show t = B by omega, HC3.out.2.2] at hq
                rw [beq_self_eq_true] at hq; cases hq
              · exact h
            clear hc1
            try clear hk0
            try clear hwz
            try clear hkm
            try clear hfm
            go_wp2
            refine ⟨?_, by first | (simp [intOf]; done) | (simp [intOf]; omega)⟩
            first
              | exact ⟨f + 1, by go_num, by omega, by first | rfl | trivial⟩
              | ((repeat apply Exists.intro); exact ⟨⟨f + 1, by go_num, by omega, by first | rfl | trivial⟩, rfl⟩)
          have r2 : ((a0.extract f t).toList != wd.toList) = false := by rw [bne, hq]; rfl
          clear hc1
          rcases Nat.eq_zero_or_pos f with hf0 | hf0
          · have r3 : decide ((0 : Int) < (f : Int)) = false := decide_eq_false (by omega)
            have r3' : decide (0 < f) = false := decide_eq_false (by omega)
            clear hf0
            by_cases hts2 : t < a0.size
            · have r4 : decide ((t : Int) < (a0.size : Int)) = true := decide_eq_true (by omega)
              have r4' : decide (t < a0.size) = true := decide_eq_true hts2
              rcases hw4 : wordC a0[t] with _ | _
              · have HW4 := hide (fun W => rword_m a0[t] false hw4 W)
                clear hw4
                try clear hk0
                try clear hwz
                try clear hkm
                try clear hfm
                go_wp2_with fail
                refine (HW4.out _).mono ?_
                rintro e wx ⟨rfl, hwx⟩
                subst hwx
                try clear hk0
                try clear hwz
                try clear hkm
                try clear hfm
                go_wp2
                go_loopw [16] (fun i wr => ∃ j : Nat, i = .int .i64 j ∧ j ≤ wd.size ∧ w3 = wr) (fun i _ => wd.size - (intOf i).toNat)
                case atStart => exact ⟨0, rfl, Nat.zero_le _, rfl⟩
                case round =>
                  obtain ⟨j, rfl, hj, rfl⟩ := hrel
                  by_cases hlj : j < wd.size
                  · have gj : decide ((j : Int) < (wd.size : Int)) = true := decide_eq_true (by omega)
                    have gj' : decide (j < wd.size) = true := decide_eq_true hlj
                    have HWJ := hide (fun W => rword_m wd[j] true (HWB.out j hlj) W)
                    try clear hk0
                    try clear hwz
                    try clear hkm
                    try clear hfm
                    go_wp2_with fail
                    refine (HWJ.out _).mono ?_
                    rintro e wx ⟨rfl, hwx⟩
                    subst hwx
                    try clear hk0
                    try clear hwz
                    try clear hkm
                    try clear hfm
                    go_wp2
                    refine ⟨?_, by first | (simp [intOf]; done) | (simp [intOf]; omega)⟩
                    first
                      | exact ⟨j + 1, by go_num, by omega, by first | rfl | trivial⟩
                      | ((repeat apply Exists.intro); exact ⟨⟨j + 1, by go_num, by omega, by first | rfl | trivial⟩, rfl⟩)
                  · obtain rfl : j = wd.size := by omega
                    have gj : decide (wd.size < wd.size) = false := by simp
                    have gz : decide ((0 : Int) < (wd.size : Int)) = true := decide_eq_true (by omega)
                    have gz' : decide (0 < wd.size) = true := decide_eq_true (by omega)
                    clear hlj
                    try clear hk0
                    try clear hwz
                    try clear hkm
                    try clear hfm
                    go_wp2_with fail
                    refine (awake23_any _).mono ?_
                    rintro e w9 ⟨rfl, hb9⟩
                    try clear hk0
                    try clear hwz
                    try clear hkm
                    try clear hfm
                    go_wp2
                    go_ret
                    exact ⟨rfl, bl_trans HB.out hb9⟩
              · have HW4 := hide (fun W => rword_m a0[t] true hw4 W)
                have hfA : f < A := by
                  rcases Nat.eq_or_lt_of_le hf with h | h
                  · exfalso
                    have ht2 := HT.out
                    have htB : B = t := by omega
                    have h1 := HC3.out.2.1 (by omega)
                    rw [HPB.out B (by omega)] at h1
                    simp only [htB] at h1
                    rw [hw4] at h1; cases h1
                  · exact h
                clear hw4
                try clear hk0
                try clear hwz
                try clear hkm
                try clear hfm
                go_wp2_with fail
                refine (HW4.out _).mono ?_
                rintro e wx ⟨rfl, hwx⟩
                subst hwx
                try clear hk0
                try clear hwz
                try clear hkm
                try clear hfm
                go_wp2
                refine ⟨?_, by first | (simp [intOf]; done) | (simp [intOf]; omega)⟩
                first
                  | exact ⟨f + 1, by go_num, by omega, by first | rfl | trivial⟩
                  | ((repeat apply Exists.intro); exact ⟨⟨f + 1, by go_num, by omega, by first | rfl | trivial⟩, rfl⟩)
            · have r4 : decide ((t : Int) < (a0.size : Int)) = false := decide_eq_false (by omega)
              have r4' : decide (t < a0.size) = false := decide_eq_false hts2
              clear hts2
              try clear hk0
              try clear hwz
              try clear hkm
              try clear hfm
              go_wp2
              go_loopw [16] (fun i wr => ∃ j : Nat, i = .int .i64 j ∧ j ≤ wd.size ∧ w3 = wr) (fun i _ => wd.size - (intOf i).toNat)
              case atStart => exact ⟨0, rfl, Nat.zero_le _, rfl⟩
              case round =>
                obtain ⟨j, rfl, hj, rfl⟩ := hrel
                by_cases hlj : j < wd.size
                · have gj : decide ((j : Int) < (wd.size : Int)) = true := decide_eq_true (by omega)
                  have gj' : decide (j < wd.size) = true := decide_eq_true hlj
                  have HWJ := hide (fun W => rword_m wd[j] true (HWB.out j hlj) W)
                  try clear hk0
                  try clear hwz
                  try clear hkm
                  try clear hfm
                  go_wp2_with fail
                  refine (HWJ.out _).mono ?_
                  rintro e wx ⟨rfl, hwx⟩
                  subst hwx
                  try clear hk0
                  try clear hwz
                  try clear hkm
                  try clear hfm
                  go_wp2
                  refine ⟨?_, by first | (simp [intOf]; done) | (simp [intOf]; omega)⟩
                  first
                    | exact ⟨j + 1, by go_num, by omega, by first | rfl | trivial⟩
                    | ((repeat apply Exists.intro); exact ⟨⟨j + 1, by go_num, by omega, by first | rfl | trivial⟩, rfl⟩)
                · obtain rfl : j = wd.size := by omega
                  have gj : decide (wd.size < wd.size) = false := by simp
                  have gz : decide ((0 : Int) < (wd.size : Int)) = true := decide_eq_true (by omega)
                  have gz' : decide (0 < wd.size) = true := decide_eq_true (by omega)
                  clear hlj
                  try clear hk0
                  try clear hwz
                  try clear hkm
                  try clear hfm
                  go_wp2_with fail
                  refine (awake23_any _).mono ?_
                  rintro e w9 ⟨rfl, hb9⟩
                  try clear hk0
                  try clear hwz
                  try clear hkm
                  try clear hfm
                  go_wp2
                  go_ret
                  exact ⟨rfl, bl_trans HB.out hb9⟩
          have r3 : decide ((0 : Int) < (f : Int)) = true := decide_eq_true (by omega)
          have r3' : decide (0 < f) = true := decide_eq_true hf0
          obtain ⟨fm, hfm⟩ : ∃ fm, fm + 1 = f := ⟨f - 1, by omega⟩
          have gwf : IntKind.i64.wrap ((f : Int) - 1) = (fm : Int) := by rw [IntKind.wrap_i64]; omega
          have hfx : fm < a0.size := by omega
          rcases hw3 : wordC a0[fm] with _ | _
          · have HW3 := hide (fun W => rword_m a0[fm] false hw3 W)
            clear hw3 hf0
            by_cases hts2 : t < a0.size
            · have r4 : decide ((t : Int) < (a0.size : Int)) = true := decide_eq_true (by omega)
              have r4' : decide (t < a0.size) = true := decide_eq_true hts2
              rcases hw4 : wordC a0[t] with _ | _
              · have HW4 := hide (fun W => rword_m a0[t] false hw4 W)
                clear hw4
                try clear hk0
                try clear hwz
                try clear hkm
                try clear hfm
                go_wp2_with fail
                refine (HW3.out _).mono ?_
                rintro e wx ⟨rfl, hwx⟩
                subst hwx
                try clear hk0
                try clear hwz
                try clear hkm
                try clear hfm
                go_wp2_with fail
                refine (HW4.out _).mono ?_
                rintro e wx ⟨rfl, hwx⟩
                subst hwx
                try clear hk0
                try clear hwz
                try clear hkm
                try clear hfm
                go_wp2
                go_loopw [16] (fun i wr => ∃ j : Nat, i = .int .i64 j ∧ j ≤ wd.size ∧ w3 = wr) (fun i _ => wd.size - (intOf i).toNat)
                case atStart => exact ⟨0, rfl, Nat.zero_le _, rfl⟩
                case round =>
                  obtain ⟨j, rfl, hj, rfl⟩ := hrel
                  by_cases hlj : j < wd.size
                  · have gj : decide ((j : Int) < (wd.size : Int)) = true := decide_eq_true (by omega)
                    have gj' : decide (j < wd.size) = true := decide_eq_true hlj
                    have HWJ := hide (fun W => rword_m wd[j] true (HWB.out j hlj) W)
                    try clear hk0
                    try clear hwz
                    try clear hkm
                    try clear hfm
                    go_wp2_with fail
                    refine (HWJ.out _).mono ?_
                    rintro e wx ⟨rfl, hwx⟩
                    subst hwx
                    try clear hk0
                    try clear hwz
                    try clear hkm
                    try clear hfm
                    go_wp2
                    refine ⟨?_, by first | (simp [intOf]; done) | (simp [intOf]; omega)⟩
                    first
                      | exact ⟨j + 1, by go_num, by omega, by first | rfl | trivial⟩
                      | ((repeat apply Exists.intro); exact ⟨⟨j + 1, by go_num, by omega, by first | rfl | trivial⟩, rfl⟩)
                  · obtain rfl : j = wd.size := by omega
                    have gj : decide (wd.size < wd.size) = false := by simp
                    have gz : decide ((0 : Int) < (wd.size : Int)) = true := decide_eq_true (by omega)
                    have gz' : decide (0 < wd.size) = true := decide_eq_true (by omega)
                    clear hlj
                    try clear hk0
                    try clear hwz
                    try clear hkm
                    try clear hfm
                    go_wp2_with fail
                    refine (awake23_any _).mono ?_
                    rintro e w9 ⟨rfl, hb9⟩
                    try clear hk0
                    try clear hwz
                    try clear hkm
                    try clear hfm
                    go_wp2
                    go_ret
                    exact ⟨rfl, bl_trans HB.out hb9⟩
              · have HW4 := hide (fun W => rword_m a0[t] true hw4 W)
                have hfA : f < A := by
                  rcases Nat.eq_or_lt_of_le hf with h | h
                  · exfalso
                    have ht2 := HT.out
                    have htB : B = t := by omega
                    have h1 := HC3.out.2.1 (by omega)
                    rw [HPB.out B (by omega)] at h1
                    simp only [htB] at h1
                    rw [hw4] at h1; cases h1
                  · exact h
                clear hw4
                try clear hk0
                try clear hwz
                try clear hkm
                try clear hfm
                go_wp2_with fail
                refine (HW3.out _).mono ?_
                rintro e wx ⟨rfl, hwx⟩
                subst hwx
                try clear hk0
                try clear hwz
                try clear hkm
                try clear hfm
                go_wp2_with fail
                refine (HW4.out _).mono ?_
                rintro e wx ⟨rfl, hwx⟩
                subst hwx
                try clear hk0
                try clear hwz
                try clear hkm
                try clear hfm
                go_wp2
                refine ⟨?_, by first | (simp [intOf]; done) | (simp [intOf]; omega)⟩
                first
                  | exact ⟨f + 1, by go_num, by omega, by first | rfl | trivial⟩
                  | ((repeat apply Exists.intro); exact ⟨⟨f + 1, by go_num, by omega, by first | rfl | trivial⟩, rfl⟩)
            · have r4 : decide ((t : Int) < (a0.size : Int)) = false := decide_eq_false (by omega)
              have r4' : decide (t < a0.size) = false := decide_eq_false hts2
              clear hts2
              try clear hk0
              try clear hwz
              try clear hkm
              try clear hfm
              go_wp2_with fail
              refine (HW3.out _).mono ?_
              rintro e wx ⟨rfl, hwx⟩
              subst hwx
              try clear hk0
              try clear hwz
              try clear hkm
              try clear hfm
              go_wp2
              go_loopw [16] (fun i wr => ∃ j : Nat, i = .int .i64 j ∧ j ≤ wd.size ∧ w3 = wr) (fun i _ => wd.size - (intOf i).toNat)
              case atStart => exact ⟨0, rfl, Nat.zero_le _, rfl⟩
              case round =>
                obtain ⟨j, rfl, hj, rfl⟩ := hrel
                by_cases hlj : j < wd.size
                · have gj : decide ((j : Int) < (wd.size : Int)) = true := decide_eq_true (by omega)
                  have gj' : decide (j < wd.size) = true := decide_eq_true hlj
                  have HWJ := hide (fun W => rword_m wd[j] true (HWB.out j hlj) W)
                  try clear hk0
                  try clear hwz
                  try clear hkm
                  try clear hfm
                  go_wp2_with fail
                  refine (HWJ.out _).mono ?_
                  rintro e wx ⟨rfl, hwx⟩
                  subst hwx
                  try clear hk0
                  try clear hwz
                  try clear hkm
                  try clear hfm
                  go_wp2
                  refine ⟨?_, by first | (simp [intOf]; done) | (simp [intOf]; omega)⟩
                  first
                    | exact ⟨j + 1, by go_num, by omega, by first | rfl | trivial⟩
                    | ((repeat apply Exists.intro); exact ⟨⟨j + 1, by go_num, by omega, by first | rfl | trivial⟩, rfl⟩)
                · obtain rfl : j = wd.size := by omega
                  have gj : decide (wd.size < wd.size) = false := by simp
                  have gz : decide ((0 : Int) < (wd.size : Int)) = true := decide_eq_true (by omega)
                  have gz' : decide (0 < wd.size) = true := decide_eq_true (by omega)
                  clear hlj
                  try clear hk0
                  try clear hwz
                  try clear hkm
                  try clear hfm
                  go_wp2_with fail
                  refine (awake23_any _).mono ?_
                  rintro e w9 ⟨rfl, hb9⟩
                  try clear hk0
                  try clear hwz
                  try clear hkm
                  try clear hfm
                  go_wp2
                  go_ret
                  exact ⟨rfl, bl_trans HB.out hb9⟩
          have HW3 := hide (fun W => rword_m a0[fm] true hw3 W)
          have hfA : f < A := by
            rcases Nat.eq_or_lt_of_le hf with h | h
            · exfalso
              have h1 := HC3.out.1 fm (by omega)
              rw [HPB.out fm hfx, hw3] at h1; cases h1
            · exact h
          clear hw3 hf0
          try clear hk0
          try clear hwz
          try clear hkm
          try clear hfm
          go_wp2_with fail
          refine (HW3.out _).mono ?_
          rintro e wx ⟨rfl, hwx⟩
          subst hwx
          try clear hk0
          try clear hwz
          try clear hkm
          try clear hfm
          go_wp2
          refine ⟨?_, by first | (simp [intOf]; done) | (simp [intOf]; omega)⟩
          first
            | exact ⟨f + 1, by go_num, by omega, by first | rfl | trivial⟩
            | ((repeat apply Exists.intro); exact ⟨⟨f + 1, by go_num, by omega, by first | rfl | trivial⟩, rfl⟩)
    · have gs : decide ((k : Int) < (a0.size : Int)) = false := decide_eq_false (by omega)
      have gs' : decide (k < a0.size) = false := decide_eq_false hks
      exfalso
      omega
  · have gk : decide ((0 : Int) < (k : Int)) = true := decide_eq_true (by omega)
    have gk' : decide (0 < k) = true := decide_eq_true hk0
    obtain ⟨km, hkm⟩ : ∃ km, km + 1 = k := ⟨k - 1, by omega⟩
    have gw : IntKind.i64.wrap ((k : Int) - 1) = (km : Int) := by rw [IntKind.wrap_i64]; omega
    have hkx : km < a0.size := by omega
    have hw1 := HA1.out.1 hk0
    rw [show k - 1 = km by omega, HPB.out km hkx] at hw1
    obtain ⟨pa, hpa⟩ : ∃ pa, decide (A < k) = pa := ⟨_, rfl⟩
    rw [hpa] at hw1
    have HW1 := hide (fun W => rword_m a0[km] pa hw1 W)
    clear hw1
    by_cases hks : k < a0.size
    · have gs : decide ((k : Int) < (a0.size : Int)) = true := decide_eq_true (by omega)
      have gs' : decide (k < a0.size) = true := decide_eq_true hks
      have hw2 := HA1.out.2 hks
      rw [HPB.out k hks] at hw2
      obtain ⟨pb, hpb⟩ : ∃ pb, decide (k < B) = pb := ⟨_, rfl⟩
      rw [hpb] at hw2
      have HW2 := hide (fun W => rword_m a0[k] pb hw2 W)
      clear hw2
      rcases hpaq : pa with _ | _ <;> rcases hpbq : pb with _ | _
      · rw [hpaq] at hpa
        rw [hpbq] at hpb
        exfalso
        have := of_decide_eq_false hpa
        have := of_decide_eq_false hpb
        omega
      · rw [hpaq] at hpa
        rw [hpbq] at hpb
        subst hpaq hpbq
        clear hpa hpb
        as_aux_lemma =>
          try clear hk0
          try clear hwz
          try clear hkm
          try clear hfm
          go_wp2_with fail
          refine (HW1.out _).mono ?_
          rintro e wx ⟨rfl, hwx⟩
          subst hwx
          try clear hk0
          try clear hwz
          try clear hkm
          try clear hfm
          go_wp2_with fail
          refine (HW2.out _).mono ?_
          rintro e wx ⟨rfl, hwx⟩
          subst hwx
          try clear hk0
          try clear hwz
          try clear hkm
          try clear hfm
          go_wp2
          clear gk gk' gs gs'
          go_loopw [14] (fun i wr => ∃ f : Nat, i = .int .i64 f ∧ f ≤ A ∧ w3 = wr) (fun i _ => A + 1 - (intOf i).toNat)
          case atStart => exact ⟨0, rfl, Nat.zero_le _, rfl⟩
          case round =>
            obtain ⟨f, rfl, hf, rfl⟩ := hrel
            have hwz := HWZ.out
            have l1 : decide ((f : Int) ≤ (k : Int)) = true := decide_eq_true (by omega)
            have l1' : decide (f ≤ k) = true := decide_eq_true (by omega)
            obtain ⟨t, ht⟩ : ∃ t, f + wd.size = t := ⟨_, rfl⟩
            have l2 : (f : Int) + (wd.size : Int) = (t : Int) := by omega
            have l3 : IntKind.i64.wrap (t : Int) = (t : Int) := by rw [IntKind.wrap_i64]; omega
            have l4 : decide ((t : Int) ≤ (a0.size : Int)) = true := decide_eq_true (by omega)
            have l4' : decide (t ≤ a0.size) = true := decide_eq_true (by omega)
            have l5 : IntKind.i64.wrap ((f : Int) + 1) = (f : Int) + 1 := by rw [IntKind.wrap_i64]; omega
            have hts : t ≤ a0.size := by omega
            have hft : f ≤ t := by omega
            have hfs : f ≤ a0.size := by omega
            have HT := hide ht
            clear ht
            by_cases hc1 : t < k
            · have r1 : decide ((t : Int) < (k : Int)) = true := decide_eq_true (by omega)
              have r1' : decide (t < k) = true := decide_eq_true hc1
              have hfA : f < A := by have := HT.out; omega
              clear hc1
              try clear hk0
              try clear hwz
              try clear hkm
              try clear hfm
              go_wp2
              refine ⟨?_, by first | (simp [intOf]; done) | (simp [intOf]; omega)⟩
              first
                | exact ⟨f + 1, by go_num, by omega, by first | rfl | trivial⟩
                | ((repeat apply Exists.intro); exact ⟨⟨f + 1, by go_num, by omega, by first | rfl | trivial⟩, rfl⟩)
            have r1 : decide ((t : Int) < (k : Int)) = false := decide_eq_false (by omega)
            have r1' : decide (t < k) = false := decide_eq_false hc1
            rcases hq : ((a0.extract f t).toList == wd.toList) with _ | _
            · have r2 : ((a0.extract f t).toList != wd.toList) = true := by rw [bne, hq]; rfl
              have hfA : f < A := by
                rcases Nat.eq_or_lt_of_le hf with h | h
                · exfalso
                  have ht2 := HT.out
                  rw [h, show t = B by omega, HC3.out.2.2] at hq
                  rw [beq_self_eq_true] at hq; cases hq
                · exact h
              clear hc1
              try clear hk0
              try clear hwz
              try clear hkm
              try clear hfm
              go_wp2
              refine ⟨?_, by first | (simp [intOf]; done) | (simp [intOf]; omega)⟩
              first
                | exact ⟨f + 1, by go_num, by omega, by first | rfl | trivial⟩
                | ((repeat apply Exists.intro); exact ⟨⟨f + 1, by go_num, by omega, by first | rfl | trivial⟩, rfl⟩)
            have r2 : ((a0.extract f t).toList != wd.toList) = false := by rw [bne, hq]; rfl
            clear hc1
            rcases Nat.eq_zero_or_pos f with hf0 | hf0
            · have r3 : decide ((0 : Int) < (f : Int)) = false := decide_eq_false (by omega)
              have r3' : decide (0 < f) = false := decide_eq_false (by omega)
              clear hf0
              by_cases hts2 : t < a0.size
              · have r4 : decide ((t : Int) < (a0.size : Int)) = true := decide_eq_true (by omega)
                have r4' : decide (t < a0.size) = true := decide_eq_true hts2
                rcases hw4 : wordC a0[t] with _ | _
                · have HW4 := hide (fun W => rword_m a0[t] false hw4 W)
                  clear hw4
                  try clear hk0
                  try clear hwz
                  try clear hkm
                  try clear hfm
                  go_wp2_with fail
                  refine (HW4.out _).mono ?_
                  rintro e wx ⟨rfl, hwx⟩
                  subst hwx
                  try clear hk0
                  try clear hwz
                  try clear hkm
                  try clear hfm
                  go_wp2
                  go_loopw [16] (fun i wr => ∃ j : Nat, i = .int .i64 j ∧ j ≤ wd.size ∧ w3 = wr) (fun i _ => wd.size - (intOf i).toNat)
                  case atStart => exact ⟨0, rfl, Nat.zero_le _, rfl⟩
                  case round =>
                    obtain ⟨j, rfl, hj, rfl⟩ := hrel
                    by_cases hlj : j < wd.size
                    · have gj : decide ((j : Int) < (wd.size : Int)) = true := decide_eq_true (by omega)
                      have gj' : decide (j < wd.size) = true := decide_eq_true hlj
                      have HWJ := hide (fun W => rword_m wd[j] true (HWB.out j hlj) W)
                      try clear hk0
                      try clear hwz
                      try clear hkm
                      try clear hfm
                      go_wp2_with fail
                      refine (HWJ.out _).mono ?_
                      rintro e wx ⟨rfl, hwx⟩
                      subst hwx
                      try clear hk0
                      try clear hwz
                      try clear hkm
                      try clear hfm
                      go_wp2
                      refine ⟨?_, by first | (simp [intOf]; done) | (simp [intOf]; omega)⟩
                      first
                        | exact ⟨j + 1, by go_num, by omega, by first | rfl | trivial⟩
                        | ((repeat apply Exists.intro); exact ⟨⟨j + 1, by go_num, by omega, by first | rfl | trivial⟩, rfl⟩)
                    · obtain rfl : j = wd.size := by omega
                      have gj : decide (wd.size < wd.size) = false := by simp
                      have gz : decide ((0 : Int) < (wd.size : Int)) = true := decide_eq_true (by omega)
                      have gz' : decide (0 < wd.size) = true := decide_eq_true (by omega)
                      clear hlj
                      try clear hk0
                      try clear hwz
                      try clear hkm
                      try clear hfm
                      go_wp2_with fail
                      refine (awake23_any _).mono ?_
                      rintro e w9 ⟨rfl, hb9⟩
                      try clear hk0
                      try clear hwz
                      try clear hkm
                      try clear hfm
                      go_wp2
                      go_ret
                      exact ⟨rfl, bl_trans HB.out hb9⟩
                · have HW4 := hide (fun W => rword_m a0[t] true hw4 W)
                  have hfA : f < A := by
                    rcases Nat.eq_or_lt_of_le hf with h | h
                    · exfalso
                      have ht2 := HT.out
                      have htB : B = t := by omega
                      have h1 := HC3.out.2.1 (by omega)
                      rw [HPB.out B (by omega)] at h1
                      simp only [htB] at h1
                      rw [hw4] at h1; cases h1
                    · exact h
                  clear hw4
                  try clear hk0
                  try clear hwz
                  try clear hkm
                  try clear hfm
                  go_wp2_with fail
                  refine (HW4.out _).mono ?_
                  rintro e wx ⟨rfl, hwx⟩
                  subst hwx
                  try clear hk0
                  try clear hwz
                  try clear hkm
                  try clear hfm
                  go_wp2
                  refine ⟨?_, by first | (simp [intOf]; done) | (simp [intOf]; omega)⟩
                  first
                    | exact ⟨f + 1, by go_num, by omega, by first | rfl | trivial⟩
                    | ((repeat apply Exists.intro); exact ⟨⟨f + 1, by go_num, by omega, by first | rfl | trivial⟩, rfl⟩)
              · have r4 : decide ((t : Int) < (a0.size : Int)) = false := decide_eq_false (by omega)
                have r4' : decide (t < a0.size) = false := decide_eq_false hts2
                clear hts2
                try clear hk0
                try clear hwz
                try clear hkm
                try clear hfm
                go_wp2
                go_loopw [16] (fun i wr => ∃ j : Nat, i = .int .i64 j ∧ j ≤ wd.size ∧ w3 = wr) (fun i _ => wd.size - (intOf i).toNat)
                case atStart => exact ⟨0, rfl, Nat.zero_le _, rfl⟩
                case round =>
                  obtain ⟨j, rfl, hj, rfl⟩ := hrel
                  by_cases hlj : j < wd.size
                  · have gj : decide ((j : Int) < (wd.size : Int)) = true := decide_eq_true (by omega)
                    have gj' : decide (j < wd.size) = true := decide_eq_true hlj
                    have HWJ := hide (fun W => rword_m wd[j] true (HWB.out j hlj) W)
                    try clear hk0
                    try clear hwz
                    try clear hkm
                    try clear hfm
                    go_wp2_with fail
                    refine (HWJ.out _).mono ?_
                    rintro e wx ⟨rfl, hwx⟩
                    subst hwx
                    try clear hk0
                    try clear hwz
                    try clear hkm
                    try clear hfm
                    go_wp2
                    refine ⟨?_, by first | (simp [intOf]; done) | (simp [intOf]; omega)⟩
                    first
                      | exact ⟨j + 1, by go_num, by omega, by first | rfl | trivial⟩
                      | ((repeat apply Exists.intro); exact ⟨⟨j + 1, by go_num, by omega, by first | rfl | trivial⟩, rfl⟩)
                  · obtain rfl : j = wd.size := by omega
                    have gj : decide (wd.size < wd.size) = false := by simp
                    have gz : decide ((0 : Int) < (wd.size : Int)) = true := decide_eq_true (by omega)
                    have gz' : decide (0 < wd.size) = true := decide_eq_true (by omega)
                    clear hlj
                    try clear hk0
                    try clear hwz
                    try clear hkm
                    try clear hfm
                    go_wp2_with fail
                    refine (awake23_any _).mono ?_
                    rintro e w9 ⟨rfl, hb9⟩
                    try clear hk0
                    try clear hwz
                    try clear hkm
                    try clear hfm
                    go_wp2
                    go_ret
                    exact ⟨rfl, bl_trans HB.out hb9⟩
            have r3 : decide ((0 : Int) < (f : Int)) = true := decide_eq_true (by omega)
            have r3' : decide (0 < f) = true := decide_eq_true hf0
            obtain ⟨fm, hfm⟩ : ∃ fm, fm + 1 = f := ⟨f - 1, by omega⟩
            have gwf : IntKind.i64.wrap ((f : Int) - 1) = (fm : Int) := by rw [IntKind.wrap_i64]; omega
            have hfx : fm < a0.size := by omega
            rcases hw3 : wordC a0[fm] with _ | _
            · have HW3 := hide (fun W => rword_m a0[fm] false hw3 W)
              clear hw3 hf0
              by_cases hts2 : t < a0.size
              · have r4 : decide ((t : Int) < (a0.size : Int)) = true := decide_eq_true (by omega)
                have r4' : decide (t < a0.size) = true := decide_eq_true hts2
                rcases hw4 : wordC a0[t] with _ | _
                · have HW4 := hide (fun W => rword_m a0[t] false hw4 W)
                  clear hw4
                  try clear hk0
                  try clear hwz
                  try clear hkm
                  try clear hfm
                  go_wp2_with fail
                  refine (HW3.out _).mono ?_
                  rintro e wx ⟨rfl, hwx⟩
                  subst hwx
                  try clear hk0
                  try clear hwz
                  try clear hkm
                  try clear hfm
                  go_wp2_with fail
                  refine (HW4.out _).mono ?_
                  rintro e wx ⟨rfl, hwx⟩
                  subst hwx
                  try clear hk0
                  try clear hwz
                  try clear hkm
                  try clear hfm
                  go_wp2
                  go_loopw [16] (fun i wr => ∃ j : Nat, i = .int .i64 j ∧ j ≤ wd.size ∧ w3 = wr) (fun i _ => wd.size - (intOf i).toNat)
                  case atStart => exact ⟨0, rfl, Nat.zero_le _, rfl⟩
                  case round =>
                    obtain ⟨j, rfl, hj, rfl⟩ := hrel
                    by_cases hlj : j < wd.size
                    · have gj : decide ((j : Int) < (wd.size : Int)) = true := decide_eq_true (by omega)
                      have gj' : decide (j < wd.size) = true := decide_eq_true hlj
                      have HWJ := hide (fun W => rword_m wd[j] true (HWB.out j hlj) W)
                      try clear hk0
                      try clear hwz
                      try clear hkm
                      try clear hfm
                      go_wp2_with fail
                      refine (HWJ.out _).mono ?_
                      rintro e wx ⟨rfl, hwx⟩
                      subst hwx
                      try clear hk0
                      try clear hwz
                      try clear hkm
                      try clear hfm
                      go_wp2
                      refine ⟨?_, by first | (simp [intOf]; done) | (simp [intOf]; omega)⟩
                      first
                        | exact ⟨j + 1, by go_num, by omega, by first | rfl | trivial⟩
                        | ((repeat apply Exists.intro); exact ⟨⟨j + 1, by go_num, by omega, by first | rfl | trivial⟩, rfl⟩)
                    · obtain rfl : j = wd.size := by omega
                      have gj : decide (wd.size < wd.size) = false := by simp
                      have gz : decide ((0 : Int) < (wd.size : Int)) = true := decide_eq_true (by omega)
                      have gz' : decide (0 < wd.size) = true := decide_eq_true (by omega)
                      clear hlj
                      try clear hk0
                      try clear hwz
                      try clear hkm
                      try clear hfm
                      go_wp2_with fail
                      refine (awake23_any _).mono ?_
                      rintro e w9 ⟨rfl, hb9⟩
                      try clear hk0
                      try clear hwz
                      try clear hkm
                      try clear hfm
                      go_wp2
                      go_ret
                      exact ⟨rfl, bl_trans HB.out hb9⟩
                · have HW4 := hide (fun W => rword_m a0[t] true hw4 W)
                  have hfA : f < A := by
                    rcases Nat.eq_or_lt_of_le hf with h | h
                    · exfalso
                      have ht2 := HT.out
                      have htB : B = t := by omega
                      have h1 := HC3.out.2.1 (by omega)
                      rw [HPB.out B (by omega)] at h1
                      simp only [htB] at h1
                      rw [hw4] at h1; cases h1
                    · exact h
                  clear hw4
                  try clear hk0
                  try clear hwz
                  try clear hkm
                  try clear hfm
                  go_wp2_with fail
                  refine (HW3.out _).mono ?_
                  rintro e wx ⟨rfl, hwx⟩
                  subst hwx
                  try clear hk0
                  try clear hwz
                  try clear hkm
                  try clear hfm
                  go_wp2_with fail
                  refine (HW4.out _).mono ?_
                  rintro e wx ⟨rfl, hwx⟩
                  subst hwx
                  try clear hk0
                  try clear hwz
                  try clear hkm
                  try clear hfm
                  go_wp2
                  refine ⟨?_, by first | (simp [intOf]; done) | (simp [intOf]; omega)⟩
                  first
                    | exact ⟨f + 1, by go_num, by omega, by first | rfl | trivial⟩
                    | ((repeat apply Exists.intro); exact ⟨⟨f + 1, by go_num, by omega, by first | rfl | trivial⟩, rfl⟩)
              · have r4 : decide ((t : Int) < (a0.size : Int)) = false := decide_eq_false (by omega)
                have r4' : decide (t < a0.size) = false := decide_eq_false hts2
                clear hts2
                try clear hk0
                try clear hwz
                try clear hkm
                try clear hfm
                go_wp2_with fail
                refine (HW3.out _).mono ?_
                rintro e wx ⟨rfl, hwx⟩
                subst hwx
                try clear hk0
                try clear hwz
                try clear hkm
                try clear hfm
                go_wp2
                go_loopw [16] (fun i wr => ∃ j : Nat, i = .int .i64 j ∧ j ≤ wd.size ∧ w3 = wr) (fun i _ => wd.size - (intOf i).toNat)
                case atStart => exact ⟨0, rfl, Nat.zero_le _, rfl⟩
                case round =>
                  obtain ⟨j, rfl, hj, rfl⟩ := hrel
                  by_cases hlj : j < wd.size
                  · have gj : decide ((j : Int) < (wd.size : Int)) = true := decide_eq_true (by omega)
                    have gj' : decide (j < wd.size) = true := decide_eq_true hlj
                    have HWJ := hide (fun W => rword_m wd[j] true (HWB.out j hlj) W)
                    try clear hk0
                    try clear hwz
                    try clear hkm
                    try clear hfm
                    go_wp2_with fail
                    refine (HWJ.out _).mono ?_
                    rintro e wx ⟨rfl, hwx⟩
                    subst hwx
                    try clear hk0
                    try clear hwz
                    try clear hkm
                    try clear hfm
                    go_wp2
                    refine ⟨?_, by first | (simp [intOf]; done) | (simp [intOf]; omega)⟩
                    first
                      | exact ⟨j + 1, by go_num, by omega, by first | rfl | trivial⟩
                      | ((repeat apply Exists.intro); exact ⟨⟨j + 1, by go_num, by omega, by first | rfl | trivial⟩, rfl⟩)
                  · obtain rfl : j = wd.size := by omega
                    have gj : decide (wd.size < wd.size) = false := by simp
                    have gz : decide ((0 : Int) < (wd.size : Int)) = true := decide_eq_true (by omega)
                    have gz' : decide (0 < wd.size) = true := decide_eq_true (by omega)
                    clear hlj
                    try clear hk0
                    try clear hwz
                    try clear hkm
                    try clear hfm
                    go_wp2_with fail
                    refine (awake23_any _).mono ?_
                    rintro e w9 ⟨rfl, hb9⟩
                    try clear hk0
                    try clear hwz
                    try clear hkm
                    try clear hfm
                    go_wp2
                    go_ret
                    exact ⟨rfl, bl_trans HB.out hb9⟩
            have HW3 := hide (fun W => rword_m a0[fm] true hw3 W)
            have hfA : f < A := by
              rcases Nat.eq_or_lt_of_le hf with h | h
              · exfalso
                have h1 := HC3.out.1 fm (by omega)
                rw [HPB.out fm hfx, hw3] at h1; cases h1
              · exact h
            clear hw3 hf0
            try clear hk0
            try clear hwz
            try clear hkm
            try clear hfm
            go_wp2_with fail
            refine (HW3.out _).mono ?_
            rintro e wx ⟨rfl, hwx⟩
            subst hwx
            try clear hk0
            try clear hwz
            try clear hkm
            try clear hfm
            go_wp2
            refine ⟨?_, by first | (simp [intOf]; done) | (simp [intOf]; omega)⟩
            first
              | exact ⟨f + 1, by go_num, by omega, by first | rfl | trivial⟩
              | ((repeat apply Exists.intro); exact ⟨⟨f + 1, by go_num, by omega, by first | rfl | trivial⟩, rfl⟩)
      · rw [hpaq] at hpa
        rw [hpbq] at hpb
        subst hpaq hpbq
        clear hpa hpb
        as_aux_lemma =>
          try clear hk0
          try clear hwz
          try clear hkm
          try clear hfm
          go_wp2_with fail
          refine (HW1.out _).mono ?_
          rintro e wx ⟨rfl, hwx⟩
          subst hwx
          try clear hk0
          try clear hwz
          try clear hkm
          try clear hfm
          go_wp2_with fail
          refine (HW2.out _).mono ?_
          rintro e wx ⟨rfl, hwx⟩
          subst hwx
          try clear hk0
          try clear hwz
          try clear hkm
          try clear hfm
          go_wp2
          clear gk gk' gs gs'
          go_loopw [14] (fun i wr => ∃ f : Nat, i = .int .i64 f ∧ f ≤ A ∧ w3 = wr) (fun i _ => A + 1 - (intOf i).toNat)
          case atStart => exact ⟨0, rfl, Nat.zero_le _, rfl⟩
          case round =>
            obtain ⟨f, rfl, hf, rfl⟩ := hrel
            have hwz := HWZ.out
            have l1 : decide ((f : Int) ≤ (k : Int)) = true := decide_eq_true (by omega)
            have l1' : decide (f ≤ k) = true := decide_eq_true (by omega)
            obtain ⟨t, ht⟩ : ∃ t, f + wd.size = t := ⟨_, rfl⟩
            have l2 : (f : Int) + (wd.size : Int) = (t : Int) := by omega
            have l3 : IntKind.i64.wrap (t : Int) = (t : Int) := by rw [IntKind.wrap_i64]; omega
            have l4 : decide ((t : Int) ≤ (a0.size : Int)) = true := decide_eq_true (by omega)
            have l4' : decide (t ≤ a0.size) = true := decide_eq_true (by omega)
            have l5 : IntKind.i64.wrap ((f : Int) + 1) = (f : Int) + 1 := by rw [IntKind.wrap_i64]; omega
            have hts : t ≤ a0.size := by omega
            have hft : f ≤ t := by omega
            have hfs : f ≤ a0.size := by omega
            have HT := hide ht
            clear ht
            by_cases hc1 : t < k
            · have r1 : decide ((t : Int) < (k : Int)) = true := decide_eq_true (by omega)
              have r1' : decide (t < k) = true := decide_eq_true hc1
              have hfA : f < A := by have := HT.out; omega
              clear hc1
              try clear hk0
              try clear hwz
              try clear hkm
              try clear hfm
              go_wp2
              refine ⟨?_, by first | (simp [intOf]; done) | (simp [intOf]; omega)⟩
              first
                | exact ⟨f + 1, by go_num, by omega, by first | rfl | trivial⟩
                | ((repeat apply Exists.intro); exact ⟨⟨f + 1, by go_num, by omega, by first | rfl | trivial⟩, rfl⟩)
            have r1 : decide ((t : Int) < (k : Int)) = false := decide_eq_false (by omega)
            have r1' : decide (t < k) = false := decide_eq_false hc1
            rcases hq : ((a0.extract f t).toList == wd.toList) with _ | _
            · have r2 : ((a0.extract f t).toList != wd.toList) = true := by rw [bne, hq]; rfl
              have hfA : f < A := by
                rcases Nat.eq_or_lt_of_le hf with h | h
                · exfalso
                  have ht2 := HT.out
                  rw [h, show t = B by omega, HC3.out.2.2] at hq
                  rw [beq_self_eq_true] at hq; cases hq
                · exact h
              clear hc1
              try clear hk0
              try clear hwz
              try clear hkm
              try clear hfm
              go_wp2
              refine ⟨?_, by first | (simp [intOf]; done) | (simp [intOf]; omega)⟩
              first
                | exact ⟨f + 1, by go_num, by omega, by first | rfl | trivial⟩
                | ((repeat apply Exists.intro); exact ⟨⟨f + 1, by go_num, by omega, by first | rfl | trivial⟩, rfl⟩)
            have r2 : ((a0.extract f t).toList != wd.toList) = false := by rw [bne, hq]; rfl
            clear hc1
            rcases Nat.eq_zero_or_pos f with hf0 | hf0
            · have r3 : decide ((0 : Int) < (f : Int)) = false := decide_eq_false (by omega)
              have r3' : decide (0 < f) = false := decide_eq_false (by omega)
              clear hf0
              by_cases hts2 : t < a0.size
              · have r4 : decide ((t : Int) < (a0.size : Int)) = true := decide_eq_true (by omega)
                have r4' : decide (t < a0.size) = true := decide_eq_true hts2
                rcases hw4 : wordC a0[t] with _ | _
                · have HW4 := hide (fun W => rword_m a0[t] false hw4 W)
                  clear hw4
                  try clear hk0
                  try clear hwz
                  try clear hkm
                  try clear hfm
                  go_wp2_with fail
                  refine (HW4.out _).mono ?_
                  rintro e wx ⟨rfl, hwx⟩
                  subst hwx
                  try clear hk0
                  try clear hwz
                  try clear hkm
                  try clear hfm
                  go_wp2
                  go_loopw [16] (fun i wr => ∃ j : Nat, i = .int .i64 j ∧ j ≤ wd.size ∧ w3 = wr) (fun i _ => wd.size - (intOf i).toNat)
                  case atStart => exact ⟨0, rfl, Nat.zero_le _, rfl⟩
                  case round =>
                    obtain ⟨j, rfl, hj, rfl⟩ := hrel
                    by_cases hlj : j < wd.size
                    · have gj : decide ((j : Int) < (wd.size : Int)) = true := decide_eq_true (by omega)
                      have gj' : decide (j < wd.size) = true := decide_eq_true hlj
                      have HWJ := hide (fun W => rword_m wd[j] true (HWB.out j hlj) W)
                      try clear hk0
                      try clear hwz
                      try clear hkm
                      try clear hfm
                      go_wp2_with fail
                      refine (HWJ.out _).mono ?_
                      rintro e wx ⟨rfl, hwx⟩
                      subst hwx
                      try clear hk0
                      try clear hwz
                      try clear hkm
                      try clear hfm
                      go_wp2
                      refine ⟨?_, by first | (simp [intOf]; done) | (simp [intOf]; omega)⟩
                      first
                        | exact ⟨j + 1, by go_num, by omega, by first | rfl | trivial⟩
                        | ((repeat apply Exists.intro); exact ⟨⟨j + 1, by go_num, by omega, by first | rfl | trivial⟩, rfl⟩)
                    · obtain rfl : j = wd.size := by omega
                      have gj : decide (wd.size < wd.size) = false := by simp
                      have gz : decide ((0 : Int) < (wd.size : Int)) = true := decide_eq_true (by omega)
                      have gz' : decide (0 < wd.size) = true := decide_eq_true (by omega)
                      clear hlj
                      try clear hk0
                      try clear hwz
                      try clear hkm
                      try clear hfm
                      go_wp2_with fail
                      refine (awake23_any _).mono ?_
                      rintro e w9 ⟨rfl, hb9⟩
                      try clear hk0
                      try clear hwz
                      try clear hkm
                      try clear hfm
                      go_wp2
                      go_ret
                      exact ⟨rfl, bl_trans HB.out hb9⟩
                · have HW4 := hide (fun W => rword_m a0[t] true hw4 W)
                  have hfA : f < A := by
                    rcases Nat.eq_or_lt_of_le hf with h | h
                    · exfalso
                      have ht2 := HT.out
                      have htB : B = t := by omega
                      have h1 := HC3.out.2.1 (by omega)
                      rw [HPB.out B (by omega)] at h1
                      simp only [htB] at h1
                      rw [hw4] at h1; cases h1
                    · exact h
                  clear hw4
                  try clear hk0
                  try clear hwz
                  try clear hkm
                  try clear hfm
                  go_wp2_with fail
                  refine (HW4.out _).mono ?_
                  rintro e wx ⟨rfl, hwx⟩
                  subst hwx
                  try clear hk0
                  try clear hwz
                  try clear hkm
                  try clear hfm
                  go_wp2
                  refine ⟨?_, by first | (simp [intOf]; done) | (simp [intOf]; omega)⟩
                  first
                    | exact ⟨f + 1, by go_num, by omega, by first | rfl | trivial⟩
                    | ((repeat apply Exists.intro); exact ⟨⟨f + 1, by go_num, by omega, by first | rfl | trivial⟩, rfl⟩)
              · have r4 : decide ((t : Int) < (a0.size : Int)) = false := decide_eq_false (by omega)
                have r4' : decide (t < a0.size) = false := decide_eq_false hts2
                clear hts2
                try clear hk0
                try clear hwz
                try clear hkm
                try clear hfm
                go_wp2
                go_loopw [16] (fun i wr => ∃ j : Nat, i = .int .i64 j ∧ j ≤ wd.size ∧ w3 = wr) (fun i _ => wd.size - (intOf i).toNat)
                case atStart => exact ⟨0, rfl, Nat.zero_le _, rfl⟩
                case round =>
                  obtain ⟨j, rfl, hj, rfl⟩ := hrel
                  by_cases hlj : j < wd.size
                  · have gj : decide ((j : Int) < (wd.size : Int)) = true := decide_eq_true (by omega)
                    have gj' : decide (j < wd.size) = true := decide_eq_true hlj
                    have HWJ := hide (fun W => rword_m wd[j] true (HWB.out j hlj) W)
                    try clear hk0
                    try clear hwz
                    try clear hkm
                    try clear hfm
                    go_wp2_with fail
                    refine (HWJ.out _).mono ?_
                    rintro e wx ⟨rfl, hwx⟩
                    subst hwx
                    try clear hk0
                    try clear hwz
                    try clear hkm
                    try clear hfm
                    go_wp2
                    refine ⟨?_, by first | (simp [intOf]; done) | (simp [intOf]; omega)⟩
                    first
                      | exact ⟨j + 1, by go_num, by omega, by first | rfl | trivial⟩
                      | ((repeat apply Exists.intro); exact ⟨⟨j + 1, by go_num, by omega, by first | rfl | trivial⟩, rfl⟩)
                  · obtain rfl : j = wd.size := by omega
                    have gj : decide (wd.size < wd.size) = false := by simp
                    have gz : decide ((0 : Int) < (wd.size : Int)) = true := decide_eq_true (by omega)
                    have gz' : decide (0 < wd.size) = true := decide_eq_true (by omega)
                    clear hlj
                    try clear hk0
                    try clear hwz
                    try clear hkm
                    try clear hfm
                    go_wp2_with fail
                    refine (awake23_any _).mono ?_
                    rintro e w9 ⟨rfl, hb9⟩
                    try clear hk0
                    try clear hwz
                    try clear hkm
                    try clear hfm
                    go_wp2
                    go_ret
                    exact ⟨rfl, bl_trans HB.out hb9⟩
            have r3 : decide ((0 : Int) < (f : Int)) = true := decide_eq_true (by omega)
            have r3' : decide (0 < f) = true := decide_eq_true hf0
            obtain ⟨fm, hfm⟩ : ∃ fm, fm + 1 = f := ⟨f - 1, by omega⟩
            have gwf : IntKind.i64.wrap ((f : Int) - 1) = (fm : Int) := by rw [IntKind.wrap_i64]; omega
            have hfx : fm < a0.size := by omega
            rcases hw3 : wordC a0[fm] with _ | _
            · have HW3 := hide (fun W => rword_m a0[fm] false hw3 W)
              clear hw3 hf0
              by_cases hts2 : t < a0.size
              · have r4 : decide ((t : Int) < (a0.size : Int)) = true := decide_eq_true (by omega)
                have r4' : decide (t < a0.size) = true := decide_eq_true hts2
                rcases hw4 : wordC a0[t] with _ | _
                · have HW4 := hide (fun W => rword_m a0[t] false hw4 W)
                  clear hw4
                  try clear hk0
                  try clear hwz
                  try clear hkm
                  try clear hfm
                  go_wp2_with fail
                  refine (HW3.out _).mono ?_
                  rintro e wx ⟨rfl, hwx⟩
                  subst hwx
                  try clear hk0
                  try clear hwz
                  try clear hkm
                  try clear hfm
                  go_wp2_with fail
                  refine (HW4.out _).mono ?_
                  rintro e wx ⟨rfl, hwx⟩
                  subst hwx
                  try clear hk0
                  try clear hwz
                  try clear hkm
                  try clear hfm
                  go_wp2
                  go_loopw [16] (fun i wr => ∃ j : Nat, i = .int .i64 j ∧ j ≤ wd.size ∧ w3 = wr) (fun i _ => wd.size - (intOf i).toNat)
                  case atStart => exact ⟨0, rfl, Nat.zero_le _, rfl⟩
                  case round =>
                    obtain ⟨j, rfl, hj, rfl⟩ := hrel
                    by_cases hlj : j < wd.size
                    · have gj : decide ((j : Int) < (wd.size : Int)) = true := decide_eq_true (by omega)
                      have gj' : decide (j < wd.size) = true := decide_eq_true hlj
                      have HWJ := hide (fun W => rword_m wd[j] true (HWB.out j hlj) W)
                      try clear hk0
                      try clear hwz
                      try clear hkm
                      try clear hfm
                      go_wp2_with fail
                      refine (HWJ.out _).mono ?_
                      rintro e wx ⟨rfl, hwx⟩
                      subst hwx
                      try clear hk0
                      try clear hwz
                      try clear hkm
                      try clear hfm
                      go_wp2
                      refine ⟨?_, by first | (simp [intOf]; done) | (simp [intOf]; omega)⟩
                      first
                        | exact ⟨j + 1, by go_num, by omega, by first | rfl | trivial⟩
                        | ((repeat apply Exists.intro); exact ⟨⟨j + 1, by go_num, by omega, by first | rfl | trivial⟩, rfl⟩)
                    · obtain rfl : j = wd.size := by omega
                      have gj : decide (wd.size < wd.size) = false := by simp
                      have gz : decide ((0 : Int) < (wd.size : Int)) = true := decide_eq_true (by omega)
                      have gz' : decide (0 < wd.size) = true := decide_eq_true (by omega)
                      clear hlj
                      try clear hk0
                      try clear hwz
                      try clear hkm
                      try clear hfm
                      go_wp2_with fail
                      refine (awake23_any _).mono ?_
                      rintro e w9 ⟨rfl, hb9⟩
                      try clear hk0
                      try clear hwz
                      try clear hkm
                      try clear hfm
                      go_wp2
                      go_ret
                      exact ⟨rfl, bl_trans HB.out hb9⟩
                · have HW4 := hide (fun W => rword_m a0[t] true hw4 W)
                  have hfA : f < A := by
                    rcases Nat.eq_or_lt_of_le hf with h | h
                    · exfalso
                      have ht2 := HT.out
                      have htB : B = t := by omega
                      have h1 := HC3.out.2.1 (by omega)
                      rw [HPB.out B (by omega)] at h1
                      simp only [htB] at h1
                      rw [hw4] at h1; cases h1
                    · exact h
                  clear hw4
                  try clear hk0
                  try clear hwz
                  try clear hkm
                  try clear hfm
                  go_wp2_with fail
                  refine (HW3.out _).mono ?_
                  rintro e wx ⟨rfl, hwx⟩
                  subst hwx
                  try clear hk0
                  try clear hwz
                  try clear hkm
                  try clear hfm
                  go_wp2_with fail
                  refine (HW4.out _).mono ?_
                  rintro e wx ⟨rfl, hwx⟩
                  subst hwx
                  try clear hk0
                  try clear hwz
                  try clear hkm
                  try clear hfm
                  go_wp2
                  refine ⟨?_, by first | (simp [intOf]; done) | (simp [intOf]; omega)⟩
                  first
                    | exact ⟨f + 1, by go_num, by omega, by first | rfl | trivial⟩
                    | ((repeat apply Exists.intro); exact ⟨⟨f + 1, by go_num, by omega, by first | rfl | trivial⟩, rfl⟩)
              · have r4 : decide ((t : Int) < (a0.size : Int)) = false := decide_eq_false (by omega)
                have r4' : decide (t < a0.size) = false := decide_eq_false hts2
                clear hts2
                try clear hk0
                try clear hwz
                try clear hkm
                try clear hfm
                go_wp2_with fail
                refine (HW3.out _).mono ?_
                rintro e wx ⟨rfl, hwx⟩
                subst hwx
                try clear hk0
                try clear hwz
                try clear hkm
                try clear hfm
                go_wp2
                go_loopw [16] (fun i wr => ∃ j : Nat, i = .int .i64 j ∧ j ≤ wd.size ∧ w3 = wr) (fun i _ => wd.size - (intOf i).toNat)
                case atStart => exact ⟨0, rfl, Nat.zero_le _, rfl⟩
                case round =>
                  obtain ⟨j, rfl, hj, rfl⟩ := hrel
                  by_cases hlj : j < wd.size
                  · have gj : decide ((j : Int) < (wd.size : Int)) = true := decide_eq_true (by omega)
                    have gj' : decide (j < wd.size) = true := decide_eq_true hlj
                    have HWJ := hide (fun W => rword_m wd[j] true (HWB.out j hlj) W)
                    try clear hk0
                    try clear hwz
                    try clear hkm
                    try clear hfm
                    go_wp2_with fail
                    refine (HWJ.out _).mono ?_
                    rintro e wx ⟨rfl, hwx⟩
                    subst hwx
                    try clear hk0
                    try clear hwz
                    try clear hkm
                    try clear hfm
                    go_wp2
                    refine ⟨?_, by first | (simp [intOf]; done) | (simp [intOf]; omega)⟩
                    first
                      | exact ⟨j + 1, by go_num, by omega, by first | rfl | trivial⟩
                      | ((repeat apply Exists.intro); exact ⟨⟨j + 1, by go_num, by omega, by first | rfl | trivial⟩, rfl⟩)
                  · obtain rfl : j = wd.size := by omega
                    have gj : decide (wd.size < wd.size) = false := by simp
                    have gz : decide ((0 : Int) < (wd.size : Int)) = true := decide_eq_true (by omega)
                    have gz' : decide (0 < wd.size) = true := decide_eq_true (by omega)
                    clear hlj
                    try clear hk0
                    try clear hwz
                    try clear hkm
                    try clear hfm
                    go_wp2_with fail
                    refine (awake23_any _).mono ?_
                    rintro e w9 ⟨rfl, hb9⟩
                    try clear hk0
                    try clear hwz
                    try clear hkm
                    try clear hfm
                    go_wp2
                    go_ret
                    exact ⟨rfl, bl_trans HB.out hb9⟩
            have HW3 := hide (fun W => rword_m a0[fm] true hw3 W)
            have hfA : f < A := by
              rcases Nat.eq_or_lt_of_le hf with h | h
              · exfalso
                have h1 := HC3.out.1 fm (by omega)
                rw [HPB.out fm hfx, hw3] at h1; cases h1
              · exact h
            clear hw3 hf0
            try clear hk0
            try clear hwz
            try clear hkm
            try clear hfm
            go_wp2_with fail
            refine (HW3.out _).mono ?_
            rintro e wx ⟨rfl, hwx⟩
            subst hwx
            try clear hk0
            try clear hwz
            try clear hkm
            try clear hfm
            go_wp2
            refine ⟨?_, by first | (simp [intOf]; done) | (simp [intOf]; omega)⟩
            first
              | exact ⟨f + 1, by go_num, by omega, by first | rfl | trivial⟩
              | ((repeat apply Exists.intro); exact ⟨⟨f + 1, by go_num, by omega, by first | rfl | trivial⟩, rfl⟩)
      · rw [hpaq] at hpa
        rw [hpbq] at hpb
        subst hpaq hpbq
        clear hpa hpb
        as_aux_lemma =>
          try clear hk0
          try clear hwz
          try clear hkm
          try clear hfm
          go_wp2_with fail
          refine (HW1.out _).mono ?_
          rintro e wx ⟨rfl, hwx⟩
          subst hwx
          try clear hk0
          try clear hwz
          try clear hkm
          try clear hfm
          go_wp2_with fail
          refine (HW2.out _).mono ?_
          rintro e wx ⟨rfl, hwx⟩
          subst hwx
          try clear hk0
          try clear hwz
          try clear hkm
          try clear hfm
          go_wp2
          clear gk gk' gs gs'
          go_loopw [14] (fun i wr => ∃ f : Nat, i = .int .i64 f ∧ f ≤ A ∧ w3 = wr) (fun i _ => A + 1 - (intOf i).toNat)
          case atStart => exact ⟨0, rfl, Nat.zero_le _, rfl⟩
          case round =>
            obtain ⟨f, rfl, hf, rfl⟩ := hrel
            have hwz := HWZ.out
            have l1 : decide ((f : Int) ≤ (k : Int)) = true := decide_eq_true (by omega)
            have l1' : decide (f ≤ k) = true := decide_eq_true (by omega)
            obtain ⟨t, ht⟩ : ∃ t, f + wd.size = t := ⟨_, rfl⟩
            have l2 : (f : Int) + (wd.size : Int) = (t : Int) := by omega
            have l3 : IntKind.i64.wrap (t : Int) = (t : Int) := by rw [IntKind.wrap_i64]; omega
            have l4 : decide ((t : Int) ≤ (a0.size : Int)) = true := decide_eq_true (by omega)
            have l4' : decide (t ≤ a0.size) = true := decide_eq_true (by omega)
            have l5 : IntKind.i64.wrap ((f : Int) + 1) = (f : Int) + 1 := by rw [IntKind.wrap_i64]; omega
            have hts : t ≤ a0.size := by omega
            have hft : f ≤ t := by omega
            have hfs : f ≤ a0.size := by omega
            have HT := hide ht
            clear ht
            by_cases hc1 : t < k
            · have r1 : decide ((t : Int) < (k : Int)) = true := decide_eq_true (by omega)
              have r1' : decide (t < k) = true := decide_eq_true hc1
              have hfA : f < A := by have := HT.out; omega
              clear hc1
              try clear hk0
              try clear hwz
              try clear hkm
              try clear hfm
              go_wp2
              refine ⟨?_, by first | (simp [intOf]; done) | (simp [intOf]; omega)⟩
              first
                | exact ⟨f + 1, by go_num, by omega, by first | rfl | trivial⟩
                | ((repeat apply Exists.intro); exact ⟨⟨f + 1, by go_num, by omega, by first | rfl | trivial⟩, rfl⟩)
            have r1 : decide ((t : Int) < (k : Int)) = false := decide_eq_false (by omega)
            have r1' : decide (t < k) = false := decide_eq_false hc1
            rcases hq : ((a0.extract f t).toList == wd.toList) with _ | _
            · have r2 : ((a0.extract f t).toList != wd.toList) = true := by rw [bne, hq]; rfl
              have hfA : f < A := by
                rcases Nat.eq_or_lt_of_le hf with h | h
                · exfalso
                  have ht2 := HT.out
                  rw [h, show t = B by omega, HC3.out.2.2] at hq
                  rw [beq_self_eq_true] at hq; cases hq
                · exact h
              clear hc1
              try clear hk0
              try clear hwz
              try clear hkm
              try clear hfm
              go_wp2
              refine ⟨?_, by first | (simp [intOf]; done) | (simp [intOf]; omega)⟩
              first
                | exact ⟨f + 1, by go_num, by omega, by first | rfl | trivial⟩
                | ((repeat apply Exists.intro); exact ⟨⟨f + 1, by go_num, by omega, by first | rfl | trivial⟩, rfl⟩)
            have r2 : ((a0.extract f t).toList != wd.toList) = false := by rw [bne, hq]; rfl
            clear hc1
            rcases Nat.eq_zero_or_pos f with hf0 | hf0
            · have r3 : decide ((0 : Int) < (f : Int)) = false := decide_eq_false (by omega)
              have r3' : decide (0 < f) = false := decide_eq_false (by omega)
              clear hf0
              by_cases hts2 : t < a0.size
              · have r4 : decide ((t : Int) < (a0.size : Int)) = true := decide_eq_true (by omega)
                have r4' : decide (t < a0.size) = true := decide_eq_true hts2
                rcases hw4 : wordC a0[t] with _ | _
                · have HW4 := hide (fun W => rword_m a0[t] false hw4 W)
                  clear hw4
                  try clear hk0
                  try clear hwz
                  try clear hkm
                  try clear hfm
                  go_wp2_with fail
                  refine (HW4.out _).mono ?_
                  rintro e wx ⟨rfl, hwx⟩
                  subst hwx
                  try clear hk0
                  try clear hwz
                  try clear hkm
                  try clear hfm
                  go_wp2
                  go_loopw [16] (fun i wr => ∃ j : Nat, i = .int .i64 j ∧ j ≤ wd.size ∧ w3 = wr) (fun i _ => wd.size - (intOf i).toNat)
                  case atStart => exact ⟨0, rfl, Nat.zero_le _, rfl⟩
                  case round =>
                    obtain ⟨j, rfl, hj, rfl⟩ := hrel
                    by_cases hlj : j < wd.size
                    · have gj : decide ((j : Int) < (wd.size : Int)) = true := decide_eq_true (by omega)
                      have gj' : decide (j < wd.size) = true := decide_eq_true hlj
                      have HWJ := hide (fun W => rword_m wd[j] true (HWB.out j hlj) W)
                      try clear hk0
                      try clear hwz
                      try clear hkm
                      try clear hfm
                      go_wp2_with fail
                      refine (HWJ.out _).mono ?_
                      rintro e wx ⟨rfl, hwx⟩
                      subst hwx
                      try clear hk0
                      try clear hwz
                      try clear hkm
                      try clear hfm
                      go_wp2
                      refine ⟨?_, by first | (simp [intOf]; done) | (simp [intOf]; omega)⟩
                      first
                        | exact ⟨j + 1, by go_num, by omega, by first | rfl | trivial⟩
                        | ((repeat apply Exists.intro); exact ⟨⟨j + 1, by go_num, by omega, by first | rfl | trivial⟩, rfl⟩)
                    · obtain rfl : j = wd.size := by omega
                      have gj : decide (wd.size < wd.size) = false := by simp
                      have gz : decide ((0 : Int) < (wd.size : Int)) = true := decide_eq_true (by omega)
                      have gz' : decide (0 < wd.size) = true := decide_eq_true (by omega)
                      clear hlj
                      try clear hk0
                      try clear hwz
                      try clear hkm
                      try clear hfm
                      go_wp2_with fail
                      refine (awake23_any _).mono ?_
                      rintro e w9 ⟨rfl, hb9⟩
                      try clear hk0
                      try clear hwz
                      try clear hkm
                      try clear hfm
                      go_wp2
                      go_ret
                      exact ⟨rfl, bl_trans HB.out hb9⟩
                · have HW4 := hide (fun W => rword_m a0[t] true hw4 W)
                  have hfA : f < A := by
                    rcases Nat.eq_or_lt_of_le hf with h | h
                    · exfalso
                      have ht2 := HT.out
                      have htB : B = t := by omega
                      have h1 := HC3.out.2.1 (by omega)
                      rw [HPB.out B (by omega)] at h1
                      simp only [htB] at h1
                      rw [hw4] at h1; cases h1
                    · exact h
                  clear hw4
                  try clear hk0
                  try clear hwz
                  try clear hkm
                  try clear hfm
                  go_wp2_with fail
                  refine (HW4.out _).mono ?_
                  rintro e wx ⟨rfl, hwx⟩
                  subst hwx
                  try clear hk0
                  try clear hwz
                  try clear hkm
                  try clear hfm
                  go_wp2
                  refine ⟨?_, by first | (simp [intOf]; done) | (simp [intOf]; omega)⟩
                  first
                    | exact ⟨f + 1, by go_num, by omega, by first | rfl | trivial⟩
                    | ((repeat apply Exists.intro); exact ⟨⟨f + 1, by go_num, by omega, by first | rfl | trivial⟩, rfl⟩)
              · have r4 : decide ((t : Int) < (a0.size : Int)) = false := decide_eq_false (by omega)
                have r4' : decide (t < a0.size) = false := decide_eq_false hts2
                clear hts2
                try clear hk0
                try clear hwz
                try clear hkm
                try clear hfm
                go_wp2
                go_loopw [16] (fun i wr => ∃ j : Nat, i = .int .i64 j ∧ j ≤ wd.size ∧ w3 = wr) (fun i _ => wd.size - (intOf i).toNat)
                case atStart => exact ⟨0, rfl, Nat.zero_le _, rfl⟩
                case round =>
                  obtain ⟨j, rfl, hj, rfl⟩ := hrel
                  by_cases hlj : j < wd.size
                  · have gj : decide ((j : Int) < (wd.size : Int)) = true := decide_eq_true (by omega)
                    have gj' : decide (j < wd.size) = true := decide_eq_true hlj
                    have HWJ := hide (fun W => rword_m wd[j] true (HWB.out j hlj) W)
                    try clear hk0
                    try clear hwz
                    try clear hkm
                    try clear hfm
                    go_wp2_with fail
                    refine (HWJ.out _).mono ?_
                    rintro e wx ⟨rfl, hwx⟩
                    subst hwx
                    try clear hk0
                    try clear hwz
                    try clear hkm
                    try clear hfm
                    go_wp2
                    refine ⟨?_, by first | (simp [intOf]; done) | (simp [intOf]; omega)⟩
                    first
                      | exact ⟨j + 1, by go_num, by omega, by first | rfl | trivial⟩
                      | ((repeat apply Exists.intro); exact ⟨⟨j + 1, by go_num, by omega, by first | rfl | trivial⟩, rfl⟩)
                  · obtain rfl : j = wd.size := by omega
                    have gj : decide (wd.size < wd.size) = false := by simp
                    have gz : decide ((0 : Int) < (wd.size : Int)) = true := decide_eq_true (by omega)
                    have gz' : decide (0 < wd.size) = true := decide_eq_true (by omega)
                    clear hlj
                    try clear hk0
                    try clear hwz
                    try clear hkm
                    try clear hfm
                    go_wp2_with fail
                    refine (awake23_any _).mono ?_
                    rintro e w9 ⟨rfl, hb9⟩
                    try clear hk0
                    try clear hwz
                    try clear hkm
                    try clear hfm
                    go_wp2
                    go_ret
                    exact ⟨rfl, bl_trans HB.out hb9⟩
            have r3 : decide ((0 : Int) < (f : Int)) = true := decide_eq_true (by omega)
            have r3' : decide (0 < f) = true := decide_eq_true hf0
            obtain ⟨fm, hfm⟩ : ∃ fm, fm + 1 = f := ⟨f - 1, by omega⟩
            have gwf : IntKind.i64.wrap ((f : Int) - 1) = (fm : Int) := by rw [IntKind.wrap_i64]; omega
            have hfx : fm < a0.size := by omega
            rcases hw3 : wordC a0[fm] with _ | _
            · have HW3 := hide (fun W => rword_m a0[fm] false hw3 W)
              clear hw3 hf0
              by_cases hts2 : t < a0.size
              · have r4 : decide ((t : Int) < (a0.size : Int)) = true := decide_eq_true (by omega)
                have r4' : decide (t < a0.size) = true := decide_eq_true hts2
                rcases hw4 : wordC a0[t] with _ | _
                · have HW4 := hide (fun W => rword_m a0[t] false hw4 W)
                  clear hw4
                  try clear hk0
                  try clear hwz
                  try clear hkm
                  try clear hfm
                  go_wp2_with fail
                  refine (HW3.out _).mono ?_
                  rintro e wx ⟨rfl, hwx⟩
                  subst hwx
                  try clear hk0
                  try clear hwz
                  try clear hkm
                  try clear hfm
                  go_wp2_with fail
                  refine (HW4.out _).mono ?_
                  rintro e wx ⟨rfl, hwx⟩
                  subst hwx
                  try clear hk0
                  try clear hwz
                  try clear hkm
                  try clear hfm
                  go_wp2
                  go_loopw [16] (fun i wr => ∃ j : Nat, i = .int .i64 j ∧ j ≤ wd.size ∧ w3 = wr) (fun i _ => wd.size - (intOf i).toNat)
                  case atStart => exact ⟨0, rfl, Nat.zero_le _, rfl⟩
                  case round =>
                    obtain ⟨j, rfl, hj, rfl⟩ := hrel
                    by_cases hlj : j < wd.size
                    · have gj : decide ((j : Int) < (wd.size : Int)) = true := decide_eq_true (by omega)
                      have gj' : decide (j < wd.size) = true := decide_eq_true hlj
                      have HWJ := hide (fun W => rword_m wd[j] true (HWB.out j hlj) W)
                      try clear hk0
                      try clear hwz
                      try clear hkm
                      try clear hfm
                      go_wp2_with fail
                      refine (HWJ.out _).mono ?_
                      rintro e wx ⟨rfl, hwx⟩
                      subst hwx
                      try clear hk0
                      try clear hwz
                      try clear hkm
                      try clear hfm
                      go_wp2
                      refine ⟨?_, by first | (simp [intOf]; done) | (simp [intOf]; omega)⟩
                      first
                        | exact ⟨j + 1, by go_num, by omega, by first | rfl | trivial⟩
                        | ((repeat apply Exists.intro); exact ⟨⟨j + 1, by go_num, by omega, by first | rfl | trivial⟩, rfl⟩)
                    · obtain rfl : j = wd.size := by omega
                      have gj : decide (wd.size < wd.size) = false := by simp
                      have gz : decide ((0 : Int) < (wd.size : Int)) = true := decide_eq_true (by omega)
                      have gz' : decide (0 < wd.size) = true := decide_eq_true (by omega)
                      clear hlj
                      try clear hk0
                      try clear hwz
                      try clear hkm
                      try clear hfm
                      go_wp2_with fail
                      refine (awake23_any _).mono ?_
                      rintro e w9 ⟨rfl, hb9⟩
                      try clear hk0
                      try clear hwz
                      try clear hkm
                      try clear hfm
                      go_wp2
                      go_ret
                      exact ⟨rfl, bl_trans HB.out hb9⟩
                · have HW4 := hide (fun W => rword_m a0[t] true hw4 W)
                  have hfA : f < A := by
                    rcases Nat.eq_or_lt_of_le hf with h | h
                    · exfalso
                      have ht2 := HT.out
                      have htB : B = t := by omega
                      have h1 := HC3.out.2.1 (by omega)
                      rw [HPB.out B (by omega)] at h1
                      simp only [htB] at h1
                      rw [hw4] at h1; cases h1
                    · exact h
                  clear hw4
                  try clear hk0
                  try clear hwz
                  try clear hkm
                  try clear hfm
                  go_wp2_with fail
                  refine (HW3.out _).mono ?_
                  rintro e wx ⟨rfl, hwx⟩
                  subst hwx
                  try clear hk0
                  try clear hwz
                  try clear hkm
                  try clear hfm
                  go_wp2_with fail
                  refine (HW4.out _).mono ?_
                  rintro e wx ⟨rfl, hwx⟩
                  subst hwx
                  try clear hk0
                  try clear hwz
                  try clear hkm
                  try clear hfm
                  go_wp2
                  refine ⟨?_, by first | (simp [intOf]; done) | (simp [intOf]; omega)⟩
                  first
                    | exact ⟨f + 1, by go_num, by omega, by first | rfl | trivial⟩
                    | ((repeat apply Exists.intro); exact ⟨⟨f + 1, by go_num, by omega, by first | rfl | trivial⟩, rfl⟩)
              · have r4 : decide ((t : Int) < (a0.size : Int)) = false := decide_eq_false (by omega)
                have r4' : decide (t < a0.size) = false := decide_eq_false hts2
                clear hts2
                try clear hk0
                try clear hwz
                try clear hkm
                try clear hfm
                go_wp2_with fail
                refine (HW3.out _).mono ?_
                rintro e wx ⟨rfl, hwx⟩
                subst hwx
                try clear hk0
                try clear hwz
                try clear hkm
                try clear hfm
                go_wp2
                go_loopw [16] (fun i wr => ∃ j : Nat, i = .int .i64 j ∧ j ≤ wd.size ∧ w3 = wr) (fun i _ => wd.size - (intOf i).toNat)
                case atStart => exact ⟨0, rfl, Nat.zero_le _, rfl⟩
                case round =>
                  obtain ⟨j, rfl, hj, rfl⟩ := hrel
                  by_cases hlj : j < wd.size
                  · have gj : decide ((j : Int) < (wd.size : Int)) = true := decide_eq_true (by omega)
                    have gj' : decide (j < wd.size) = true := decide_eq_true hlj
                    have HWJ := hide (fun W => rword_m wd[j] true (HWB.out j hlj) W)
                    try clear hk0
                    try clear hwz
                    try clear hkm
                    try clear hfm
                    go_wp2_with fail
                    refine (HWJ.out _).mono ?_
                    rintro e wx ⟨rfl, hwx⟩
                    subst hwx
                    try clear hk0
                    try clear hwz
                    try clear hkm
                    try clear hfm
                    go_wp2
                    refine ⟨?_, by first | (simp [intOf]; done) | (simp [intOf]; omega)⟩
                    first
                      | exact ⟨j + 1, by go_num, by omega, by first | rfl | trivial⟩
                      | ((repeat apply Exists.intro); exact ⟨⟨j + 1, by go_num, by omega, by first | rfl | trivial⟩, rfl⟩)
                  · obtain rfl : j = wd.size := by omega
                    have gj : decide (wd.size < wd.size) = false := by simp
                    have gz : decide ((0 : Int) < (wd.size : Int)) = true := decide_eq_true (by omega)
                    have gz' : decide (0 < wd.size) = true := decide_eq_true (by omega)
                    clear hlj
                    try clear hk0
                    try clear hwz
                    try clear hkm
                    try clear hfm
                    go_wp2_with fail
                    refine (awake23_any _).mono ?_
                    rintro e w9 ⟨rfl, hb9⟩
                    try clear hk0
                    try clear hwz
                    try clear hkm
                    try clear hfm
                    go_wp2
                    go_ret
                    exact ⟨rfl, bl_trans HB.out hb9⟩
            have HW3 := hide (fun W => rword_m a0[fm] true hw3 W)
            have hfA : f < A := by
              rcases Nat.eq_or_lt_of_le hf with h | h
              · exfalso
                have h1 := HC3.out.1 fm (by omega)
                rw [HPB.out fm hfx, hw3] at h1; cases h1
              · exact h
            clear hw3 hf0
            try clear hk0
            try clear hwz
            try clear hkm
            try clear hfm
            go_wp2_with fail
            refine (HW3.out _).mono ?_
            rintro e wx ⟨rfl, hwx⟩
            subst hwx
            try clear hk0
            try clear hwz
            try clear hkm
            try clear hfm
            go_wp2
            refine ⟨?_, by first | (simp [intOf]; done) | (simp [intOf]; omega)⟩
            first
              | exact ⟨f + 1, by go_num, by omega, by first | rfl | trivial⟩
              | ((repeat apply Exists.intro); exact ⟨⟨f + 1, by go_num, by omega, by first | rfl | trivial⟩, rfl⟩)
    · have gs : decide ((k : Int) < (a0.size : Int)) = false := decide_eq_false (by omega)
      have gs' : decide (k < a0.size) = false := decide_eq_false hks
      have hpt : pa = true := by rw [← hpa]; exact decide_eq_true (by omega)
      subst hpt
      clear hpa
      as_aux_lemma =>
        try clear hk0
        try clear hwz
        try clear hkm
        try clear hfm
        go_wp2_with fail
        refine (HW1.out _).mono ?_
        rintro e wx ⟨rfl, hwx⟩
        subst hwx
        try clear hk0
        try clear hwz
        try clear hkm
        try clear hfm
        go_wp2
        clear gk gk' gs gs'
        go_loopw [14] (fun i wr => ∃ f : Nat, i = .int .i64 f ∧ f ≤ A ∧ w3 = wr) (fun i _ => A + 1 - (intOf i).toNat)
        case atStart => exact ⟨0, rfl, Nat.zero_le _, rfl⟩
        case round =>
          obtain ⟨f, rfl, hf, rfl⟩ := hrel
          have hwz := HWZ.out
          have l1 : decide ((f : Int) ≤ (k : Int)) = true := decide_eq_true (by omega)
          have l1' : decide (f ≤ k) = true := decide_eq_true (by omega)
          obtain ⟨t, ht⟩ : ∃ t, f + wd.size = t := ⟨_, rfl⟩
          have l2 : (f : Int) + (wd.size : Int) = (t : Int) := by omega
          have l3 : IntKind.i64.wrap (t : Int) = (t : Int) := by rw [IntKind.wrap_i64]; omega
          have l4 : decide ((t : Int) ≤ (a0.size : Int)) = true := decide_eq_true (by omega)
          have l4' : decide (t ≤ a0.size) = true := decide_eq_true (by omega)
          have l5 : IntKind.i64.wrap ((f : Int) + 1) = (f : Int) + 1 := by rw [IntKind.wrap_i64]; omega
          have hts : t ≤ a0.size := by omega
          have hft : f ≤ t := by omega
          have hfs : f ≤ a0.size := by omega
          have HT := hide ht
          clear ht
          by_cases hc1 : t < k
          · have r1 : decide ((t : Int) < (k : Int)) = true := decide_eq_true (by omega)
            have r1' : decide (t < k) = true := decide_eq_true hc1
            have hfA : f < A := by have := HT.out; omega
            clear hc1
            try clear hk0
            try clear hwz
            try clear hkm
            try clear hfm
            go_wp2
            refine ⟨?_, by first | (simp [intOf]; done) | (simp [intOf]; omega)⟩
            first
              | exact ⟨f + 1, by go_num, by omega, by first | rfl | trivial⟩
              | ((repeat apply Exists.intro); exact ⟨⟨f + 1, by go_num, by omega, by first | rfl | trivial⟩, rfl⟩)
          have r1 : decide ((t : Int) < (k : Int)) = false := decide_eq_false (by omega)
          have r1' : decide (t < k) = false := decide_eq_false hc1
          rcases hq : ((a0.extract f t).toList == wd.toList) with _ | _
          · have r2 : ((a0.extract f t).toList != wd.toList) = true := by rw [bne, hq]; rfl
            have hfA : f < A := by
              rcases Nat.eq_or_lt_of_le hf with h | h
              · exfalso
                have ht2 := HT.out
                rw [h, show t = B by omega, HC3.out.2.2] at hq
                rw [beq_self_eq_true] at hq; cases hq
              · exact h
            clear hc1
            try clear hk0
            try clear hwz
            try clear hkm
            try clear hfm
            go_wp2
            refine ⟨?_, by first | (simp [intOf]; done) | (simp [intOf]; omega)⟩
            first
              | exact ⟨f + 1, by go_num, by omega, by first | rfl | trivial⟩
              | ((repeat apply Exists.intro); exact ⟨⟨f + 1, by go_num, by omega, by first | rfl | trivial⟩, rfl⟩)
          have r2 : ((a0.extract f t).toList != wd.toList) = false := by rw [bne, hq]; rfl
          clear hc1
          rcases Nat.eq_zero_or_pos f with hf0 | hf0
          · have r3 : decide ((0 : Int) < (f : Int)) = false := decide_eq_false (by omega)
            have r3' : decide (0 < f) = false := decide_eq_false (by omega)
            clear hf0
            by_cases hts2 : t < a0.size
            · have r4 : decide ((t : Int) < (a0.size : Int)) = true := decide_eq_true (by omega)
              have r4' : decide (t < a0.size) = true := decide_eq_true hts2
              rcases hw4 : wordC a0[t] with _ | _
              · have HW4 := hide (fun W => rword_m a0[t] false hw4 W)
                clear hw4
                try clear hk0
                try clear hwz
                try clear hkm
                try clear hfm
                go_wp2_with fail
                refine (HW4.out _).mono ?_
                rintro e wx ⟨rfl, hwx⟩
                subst hwx
                try clear hk0
                try clear hwz
                try clear hkm
                try clear hfm
                go_wp2
                go_loopw [16] (fun i wr => ∃ j : Nat, i = .int .i64 j ∧ j ≤ wd.size ∧ w3 = wr) (fun i _ => wd.size - (intOf i).toNat)
                case atStart => exact ⟨0, rfl, Nat.zero_le _, rfl⟩
                case round =>
                  obtain ⟨j, rfl, hj, rfl⟩ := hrel
                  by_cases hlj : j < wd.size
                  · have gj : decide ((j : Int) < (wd.size : Int)) = true := decide_eq_true (by omega)
                    have gj' : decide (j < wd.size) = true := decide_eq_true hlj
                    have HWJ := hide (fun W => rword_m wd[j] true (HWB.out j hlj) W)
                    try clear hk0
                    try clear hwz
                    try clear hkm
                    try clear hfm
                    go_wp2_with fail
                    refine (HWJ.out _).mono ?_
                    rintro e wx ⟨rfl, hwx⟩
                    subst hwx
                    try clear hk0
                    try clear hwz
                    try clear hkm
                    try clear hfm
                    go_wp2
                    refine ⟨?_, by first | (simp [intOf]; done) | (simp [intOf]; omega)⟩
                    first
                      | exact ⟨j + 1, by go_num, by omega, by first | rfl | trivial⟩
                      | ((repeat apply Exists.intro); exact ⟨⟨j + 1, by go_num, by omega, by first | rfl | trivial⟩, rfl⟩)
                  · obtain rfl : j = wd.size := by omega
                    have gj : decide (wd.size < wd.size) = false := by simp
                    have gz : decide ((0 : Int) < (wd.size : Int)) = true := decide_eq_true (by omega)
                    have gz' : decide (0 < wd.size) = true := decide_eq_true (by omega)
                    clear hlj
                    try clear hk0
                    try clear hwz
                    try clear hkm
                    try clear hfm
                    go_wp2_with fail
                    refine (awake23_any _).mono ?_
                    rintro e w9 ⟨rfl, hb9⟩
                    try clear hk0
                    try clear hwz
                    try clear hkm
                    try clear hfm
                    go_wp2
                    go_ret
                    exact ⟨rfl, bl_trans HB.out hb9⟩
              · have HW4 := hide (fun W => rword_m a0[t] true hw4 W)
                have hfA : f < A := by
                  rcases Nat.eq_or_lt_of_le hf with h | h
                  · exfalso
                    have ht2 := HT.out
                    have htB : B = t := by omega
                    have h1 := HC3.out.2.1 (by omega)
                    rw [HPB.out B (by omega)] at h1
                    simp only [htB] at h1
                    rw [hw4] at h1; cases h1
                  · exact h
                clear hw4
                try clear hk0
                try clear hwz
                try clear hkm
                try clear hfm
                go_wp2_with fail
                refine (HW4.out _).mono ?_
                rintro e wx ⟨rfl, hwx⟩
                subst hwx
                try clear hk0
                try clear hwz
                try clear hkm
                try clear hfm
                go_wp2
                refine ⟨?_, by first | (simp [intOf]; done) | (simp [intOf]; omega)⟩
                first
                  | exact ⟨f + 1, by go_num, by omega, by first | rfl | trivial⟩
                  | ((repeat apply Exists.intro); exact ⟨⟨f + 1, by go_num, by omega, by first | rfl | trivial⟩, rfl⟩)
            · have r4 : decide ((t : Int) < (a0.size : Int)) = false := decide_eq_false (by omega)
              have r4' : decide (t < a0.size) = false := decide_eq_false hts2
              clear hts2
              try clear hk0
              try clear hwz
              try clear hkm
              try clear hfm
              go_wp2
              go_loopw [16] (fun i wr => ∃ j : Nat, i = .int .i64 j ∧ j ≤ wd.size ∧ w3 = wr) (fun i _ => wd.size - (intOf i).toNat)
              case atStart => exact ⟨0, rfl, Nat.zero_le _, rfl⟩
              case round =>
                obtain ⟨j, rfl, hj, rfl⟩ := hrel
                by_cases hlj : j < wd.size
                · have gj : decide ((j : Int) < (wd.size : Int)) = true := decide_eq_true (by omega)
                  have gj' : decide (j < wd.size) = true := decide_eq_true hlj
                  have HWJ := hide (fun W => rword_m wd[j] true (HWB.out j hlj) W)
                  try clear hk0
                  try clear hwz
                  try clear hkm
                  try clear hfm
                  go_wp2_with fail
                  refine (HWJ.out _).mono ?_
                  rintro e wx ⟨rfl, hwx⟩
                  subst hwx
                  try clear hk0
                  try clear hwz
                  try clear hkm
                  try clear hfm
                  go_wp2
                  refine ⟨?_, by first | (simp [intOf]; done) | (simp [intOf]; omega)⟩
                  first
                    | exact ⟨j + 1, by go_num, by omega, by first | rfl | trivial⟩
                    | ((repeat apply Exists.intro); exact ⟨⟨j + 1, by go_num, by omega, by first | rfl | trivial⟩, rfl⟩)
                · obtain rfl : j = wd.size := by omega
                  have gj : decide (wd.size < wd.size) = false := by simp
                  have gz : decide ((0 : Int) < (wd.size : Int)) = true := decide_eq_true (by omega)
                  have gz' : decide (0 < wd.size) = true := decide_eq_true (by omega)
                  clear hlj
                  try clear hk0
                  try clear hwz
                  try clear hkm
                  try clear hfm
                  go_wp2_with fail
                  refine (awake23_any _).mono ?_
                  rintro e w9 ⟨rfl, hb9⟩
                  try clear hk0
                  try clear hwz
                  try clear hkm
                  try clear hfm
                  go_wp2
                  go_ret
                  exact ⟨rfl, bl_trans HB.out hb9⟩
          have r3 : decide ((0 : Int) < (f : Int)) = true := decide_eq_true (by omega)
          have r3' : decide (0 < f) = true := decide_eq_true hf0
          obtain ⟨fm, hfm⟩ : ∃ fm, fm + 1 = f := ⟨f - 1, by omega⟩
          have gwf : IntKind.i64.wrap ((f : Int) - 1) = (fm : Int) := by rw [IntKind.wrap_i64]; omega
          have hfx : fm < a0.size := by omega
          rcases hw3 : wordC a0[fm] with _ | _
          · have HW3 := hide (fun W => rword_m a0[fm] false hw3 W)
            clear hw3 hf0
            by_cases hts2 : t < a0.size
            · have r4 : decide ((t : Int) < (a0.size : Int)) = true := decide_eq_true (by omega)
              have r4' : decide (t < a0.size) = true := decide_eq_true hts2
              rcases hw4 : wordC a0[t] with _ | _
              · have HW4 := hide (fun W => rword_m a0[t] false hw4 W)
                clear hw4
                try clear hk0
                try clear hwz
                try clear hkm
                try clear hfm
                go_wp2_with fail
                refine (HW3.out _).mono ?_
                rintro e wx ⟨rfl, hwx⟩
                subst hwx
                try clear hk0
                try clear hwz
                try clear hkm
                try clear hfm
                go_wp2_with fail
                refine (HW4.out _).mono ?_
                rintro e wx ⟨rfl, hwx⟩
                subst hwx
                try clear hk0
                try clear hwz
                try clear hkm
                try clear hfm
                go_wp2
                go_loopw [16] (fun i wr => ∃ j : Nat, i = .int .i64 j ∧ j ≤ wd.size ∧ w3 = wr) (fun i _ => wd.size - (intOf i).toNat)
                case atStart => exact ⟨0, rfl, Nat.zero_le _, rfl⟩
                case round =>
                  obtain ⟨j, rfl, hj, rfl⟩ := hrel
                  by_cases hlj : j < wd.size
                  · have gj : decide ((j : Int) < (wd.size : Int)) = true := decide_eq_true (by omega)
                    have gj' : decide (j < wd.size) = true := decide_eq_true hlj
                    have HWJ := hide (fun W => rword_m wd[j] true (HWB.out j hlj) W)
                    try clear hk0
                    try clear hwz
                    try clear hkm
                    try clear hfm
                    go_wp2_with fail
                    refine (HWJ.out _).mono ?_
                    rintro e wx ⟨rfl, hwx⟩
                    subst hwx
                    try clear hk0
                    try clear hwz
                    try clear hkm
                    try clear hfm
                    go_wp2
                    refine ⟨?_, by first | (simp [intOf]; done) | (simp [intOf]; omega)⟩
                    first
                      | exact ⟨j + 1, by go_num, by omega, by first | rfl | trivial⟩
                      | ((repeat apply Exists.intro); exact ⟨⟨j + 1, by go_num, by omega, by first | rfl | trivial⟩, rfl⟩)
                  · obtain rfl : j = wd.size := by omega
                    have gj : decide (wd.size < wd.size) = false := by simp
                    have gz : decide ((0 : Int) < (wd.size : Int)) = true := decide_eq_true (by omega)
                    have gz' : decide (0 < wd.size) = true := decide_eq_true (by omega)
                    clear hlj
                    try clear hk0
                    try clear hwz
                    try clear hkm
                    try clear hfm
                    go_wp2_with fail
                    refine (awake23_any _).mono ?_
                    rintro e w9 ⟨rfl, hb9⟩
                    try clear hk0
                    try clear hwz
                    try clear hkm
                    try clear hfm
                    go_wp2
                    go_ret
                    exact ⟨rfl, bl_trans HB.out hb9⟩
              · have HW4 := hide (fun W => rword_m a0[t] true hw4 W)
                have hfA : f < A := by
                  rcases Nat.eq_or_lt_of_le hf with h | h
                  · exfalso
                    have ht2 := HT.out
                    have htB : B = t := by omega
                    have h1 := HC3.out.2.1 (by omega)
                    rw [HPB.out B (by omega)] at h1
                    simp only [htB] at h1
                    rw [hw4] at h1; cases h1
                  · exact h
                clear hw4
                try clear hk0
                try clear hwz
                try clear hkm
                try clear hfm
                go_wp2_with fail
                refine (HW3.out _).mono ?_
                rintro e wx ⟨rfl, hwx⟩
                subst hwx
                try clear hk0
                try clear hwz
                try clear hkm
                try clear hfm
                go_wp2_with fail
                refine (HW4.out _).mono ?_
                rintro e wx ⟨rfl, hwx⟩
                subst hwx
                try clear hk0
                try clear hwz
                try clear hkm
                try clear hfm
                go_wp2
                refine ⟨?_, by first | (simp [intOf]; done) | (simp [intOf]; omega)⟩
                first
                  | exact ⟨f + 1, by go_num, by omega, by first | rfl | trivial⟩
                  | ((repeat apply Exists.intro); exact ⟨⟨f + 1, by go_num, by omega, by first | rfl | trivial⟩, rfl⟩)
            · have r4 : decide ((t : Int) < (a0.size : Int)) = false := decide_eq_false (by omega)
              have r4' : decide (t < a0.size) = false := decide_eq_false hts2
              clear hts2
              try clear hk0
              try clear hwz
              try clear hkm
              try clear hfm
              go_wp2_with fail
              refine (HW3.out _).mono ?_
              rintro e wx ⟨rfl, hwx⟩
              subst hwx
              try clear hk0
              try clear hwz
              try clear hkm
              try clear hfm
              go_wp2
              go_loopw [16] (fun i wr => ∃ j : Nat, i = .int .i64 j ∧ j ≤ wd.size ∧ w3 = wr) (fun i _ => wd.size - (intOf i).toNat)
              case atStart => exact ⟨0, rfl, Nat.zero_le _, rfl⟩
              case round =>
                obtain ⟨j, rfl, hj, rfl⟩ := hrel
                by_cases hlj : j < wd.size
                · have gj : decide ((j : Int) < (wd.size : Int)) = true := decide_eq_true (by omega)
                  have gj' : decide (j < wd.size) = true := decide_eq_true hlj
                  have HWJ := hide (fun W => rword_m wd[j] true (HWB.out j hlj) W)
                  try clear hk0
                  try clear hwz
                  try clear hkm
                  try clear hfm
                  go_wp2_with fail
                  refine (HWJ.out _).mono ?_
                  rintro e wx ⟨rfl, hwx⟩
                  subst hwx
                  try clear hk0
                  try clear hwz
                  try clear hkm
                  try clear hfm
                  go_wp2
                  refine ⟨?_, by first | (simp [intOf]; done) | (simp [intOf]; omega)⟩
                  first
                    | exact ⟨j + 1, by go_num, by omega, by first | rfl | trivial⟩
                    | ((repeat apply Exists.intro); exact ⟨⟨j + 1, by go_num, by omega, by first | rfl | trivial⟩, rfl⟩)
                · obtain rfl : j = wd.size := by omega
                  have gj : decide (wd.size < wd.size) = false := by simp
                  have gz : decide ((0 : Int) < (wd.size : Int)) = true := decide_eq_true (by omega)
                  have gz' : decide (0 < wd.size) = true := decide_eq_true (by omega)
                  clear hlj
                  try clear hk0
                  try clear hwz
                  try clear hkm
                  try clear hfm
                  go_wp2_with fail
                  refine (awake23_any _).mono ?_
                  rintro e w9 ⟨rfl, hb9⟩
                  try clear hk0
                  try clear hwz
                  try clear hkm
                  try clear hfm
                  go_wp2
                  go_ret
                  exact ⟨rfl, bl_trans HB.out hb9⟩
          have HW3 := hide (fun W => rword_m a0[fm] true hw3 W)
          have hfA : f < A := by
            rcases Nat.eq_or_lt_of_le hf with h | h
            · exfalso
              have h1 := HC3.out.1 fm (by omega)
              rw [HPB.out fm hfx, hw3] at h1; cases h1
            · exact h
          clear hw3 hf0
          try clear hk0
          try clear hwz
          try clear hkm
          try clear hfm
          go_wp2_with fail
          refine (HW3.out _).mono ?_
          rintro e wx ⟨rfl, hwx⟩
          subst hwx
          try clear hk0
          try clear hwz
          try clear hkm
          try clear hfm
          go_wp2
          refine ⟨?_, by first | (simp [intOf]; done) | (simp [intOf]; omega)⟩
          first
            | exact ⟨f + 1, by go_num, by omega, by first | rfl | trivial⟩
            | ((repeat apply Exists.intro); exact ⟨⟨f + 1, by go_num, by omega, by first | rfl | trivial⟩, rfl⟩)

set_option maxRecDepth 100000 in
theorem lifted (os : Os) (started : os.Started) (H : Type) (enc : TypeId × Value → H) :
    ReturnsInHanded {} Tryd.checked os 7 .any (fun w args => (Rows.varsWordSpec.pre enc Tryd.prog Tryd.f7 Rows.varsWordRow.domain false w args ∧ laidMetH Tryd.prog Rows.varsWordRow.laid w) ∧ sizedMet enc Tryd.prog Tryd.f7 (OpenSpec.ofChange Rows.varsWordSpec) false w args) (Rows.varsWordSpec.post enc Tryd.prog Tryd.f7 false true false false) := by
  refine returnsInHanded_of_change_and (C := Tryd.checked) (X := fun w _ => laidMetH Tryd.prog Rows.varsWordRow.laid w) (fun _ _ _ hh h => h.of_heap hh) own started (by kernel_rfl) Tryd.func7
    (ChangeSpec.witness_shaped (enc := enc) (C := Tryd.checked) (os := os) (X := fun w _ => laidMetH Tryd.prog Rows.varsWordRow.laid w) false (World.laidAll Tryd.prog os Rows.varsWordRow.laid) #[.string ByteArray.empty, .int .i64 0] 8 (World.laidAll_os _ _ _)
      (World.shaped_of_ZipB (by kernel_rfl) (by kernel_rfl)) (by kernel_rfl) (by kernel_rfl) (by kernel_rfl)
      (by rw [MakeChecks.laidMetH_plain _ _ _ (by kernel_rfl)]; exact laidMet_laidAll _ (by kernel_rfl) (by kernel_rfl))) ?_
  intro W base args ds gs before hval0 hW hcnd _ hL _
  have hval : ∀ (j : Nat) t v, Tryd.f7.params[j]? = some t → args[j]? = some v → Value.okWide Tryd.prog W .any base t v := hval0
  have hW' := hW
  obtain ⟨p, q, hA0, hV, rfl, hfz, hnd⟩ := hW
  have hA : DataW.TrodAll enc Tryd.prog W 0 (fun _ => true) true Tryd.f7.params.toList args.toList ds p := hA0
  rw [Tryd.params7] at hA hval
  obtain ⟨v0, vs0, d0, ds0, p0, q0, hargs, rfl, rfl, h0, r0⟩ := trodAll_cons hA
  obtain ⟨v1, vs1, d1, ds1, p1, q1, rfl, rfl, rfl, h1, r1⟩ := trodAll_cons r0
  obtain ⟨rfl, rfl, rfl⟩ := trodAll_nil r1
  obtain rfl : args = #[v0, v1] := by cases args; simp_all
  obtain ⟨rfl, rfl⟩ := trodVars_none hV
  have k0 := h0
  have lt0 : ∀ x ∈ p0, x.block < W.heap.size := by obtain ⟨m, hm⟩ := k0; exact DataW.trod_lt m _ _ _ hm
  obtain ⟨a0, rfl, hd0, hp0, w0⟩ := open_string Tryd.underlying9 (hval 0 9 v0 rfl rfl) h0
  have k1 := h1
  have lt1 : ∀ x ∈ p1, x.block < W.heap.size := by obtain ⟨m, hm⟩ := k1; exact DataW.trod_lt m _ _ _ hm
  obtain ⟨a1, rfl, hd1, hp1, w1⟩ := open_int Tryd.underlying3 (hval 1 3 v1 rfl rfl) h1
  clear hA0 hval0
  refine (walk a0 a1 W w0 w1 hL).mono fun e W' ⟨he, bel⟩ => ?_
  subst he
  exact ⟨_, rfl, _, _, _, [], _, [], hW', trodAll_mk1 (shut_bool Tryd.underlying4 _), (trodAll_cons_mk (Below.trod laidOut (by kernel_rfl) (of_decide_eq_true (by kernel_rfl)) k0 bel lt0) (trodAll_cons_mk (Below.trod laidOut (by kernel_rfl) (of_decide_eq_true (by kernel_rfl)) k1 bel lt1) trodAll_mk0)), rfl, bel.frame _, fun h => by cases h⟩

theorem over : Rows.varsWordRow.holds Tryd.pinned (OpenSpec.ofChange Rows.varsWordSpec) :=
  OpenClaim.holds_of_wide 7 Tryd.f7 rfl rfl rfl rfl rfl rfl rfl ⟨rfl, rfl, rfl, rfl, rfl⟩ rfl rfl rfl rfl rfl (by kernel_rfl) Tryd.func7 (by kernel_rfl)
    (of_decide_eq_true (by kernel_rfl)) (by unfold Func.isWrapper; first | (rw [if_pos (by decide +kernel)]; kernel_rfl) | (rw [if_neg (by decide +kernel)]; exact ⟨rfl, rfl⟩))
    (fun os started H enc _ => lifted os started H enc)

set_option maxRecDepth 100000 in
theorem proved : Rows.VarsWordCardSaid :=
  Claim7.holds_tied_plain_at .later [] [.data, .data, .data] true (true, "ad88b18fa5cecbf30a26213c9b87035bcf4c1f531589068041e55abbb04c666c") false
    over (fun _ h => by cases h) (by kernel_rfl) (fun _ h => by cases h) varsWord_row_tie rfl ⟨rfl, rfl⟩ (by kernel_rfl) rfl
    (fun f fn hf hfn => by
      obtain rfl : f = 7 := Option.some.inj ((show Tryd.prog.funcNamed "gimlet/gimletlaw23.VarsWord" = some 7 by kernel_rfl).symm.trans hf) |>.symm
      obtain rfl : fn = Tryd.f7 := (Option.some.inj (Tryd.func7.symm.trans hfn)).symm
      refine ⟨by kernel_rfl, fun j t ht => ?_⟩
      rw [Tryd.params7] at ht
      have hm := Array.mem_of_getElem? ht
      simp at hm
      first
        | (rcases hm with rfl <;> first  | exact (show Tryd.prog.wantsStandIn 3 = false by kernel_rfl) | exact (show Tryd.prog.wantsStandIn 9 = false by kernel_rfl))
        | (rcases hm with rfl | rfl <;> first  | exact (show Tryd.prog.wantsStandIn 3 = false by kernel_rfl) | exact (show Tryd.prog.wantsStandIn 9 = false by kernel_rfl)))
    (by kernel_rfl)
end Go.Proofs.YtmjadcjpgcbalaaDoor.varsWord
