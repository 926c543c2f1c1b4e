/- Two formats that may be, the one behind the other, make of parts what each makes; one of conditions makes its one side or its other. Conditions: none beyond the form's own. -/
import Derived.Test.YtbphckblbbbakaaRows
import Derived.Test.YtbphckblbbbakaaArgs
import Derived.Test.YtbphckblbbbakaaFmK
namespace Go.Proofs.Ytbphckblbbbakaa.fmtJoins
open Go.Proofs.Ytbphckblbbbakaa
open Go.ChangeShapes Go.WideShapes Go.ChangeAt Go.RowKit Go.Deep
open Go.ChangeMaps (open_string shut_string)
set_option linter.unusedVariables false

theorem own : ownKnob Try.prog.godebug = none := by kernel_rfl
theorem laidOut : laidOutB Try.prog = true := by kernel_rfl
-- opt: 8000000
theorem tot_in (l : List ByteArray) : ∀ x ∈ l, x.size ≤ tot l := by
  induction l with
  | nil => intro x hx; cases hx
  | cons s r ih =>
    intro x hx
    unfold tot
    rcases List.mem_cons.1 hx with rfl | hx
    · omega
    · have := ih x hx; omega
theorem cat_eq (l m : List UInt8) : (⟨(l ++ m).toArray⟩ : ByteArray) = ⟨l.toArray⟩ ++ ⟨m.toArray⟩ := by
  apply ByteArray.ext; apply Array.ext'; rw [ByteArray.toList_data_append]
theorem emp_iff (s : ByteArray) : s.toList.isEmpty = true ↔ s = ⟨#[]⟩ := by
  rw [Go.ByteArray.toList_eq]
  constructor
  · intro h
    cases s with
    | mk d => cases d with
      | mk l => cases l with
        | nil => rfl
        | cons => cases h
  · rintro rfl; rfl
theorem mk_both (ps : List ByteArray) (n : Nat) (t e : ByteArray) : mkF ps ⟨5, n, 0, t, e⟩ = if (ptF ps n).toList.isEmpty = true then e else t := by
  unfold mkF apF1; rw [if_neg (by simp), if_neg (by simp), if_pos (by simp)]
theorem mk_if (ps : List ByteArray) (n : Nat) (t : ByteArray) : mkF ps ⟨3, n, 0, t, nilB⟩ = if (ptF ps n).toList.isEmpty = true then nilB else t := by
  unfold mkF apF1; rw [if_neg (by simp), if_neg (by simp), if_pos (by simp)]
theorem mk_else (ps : List ByteArray) (n : Nat) (e : ByteArray) : mkF ps ⟨4, n, 0, nilB, e⟩ = if (ptF ps n).toList.isEmpty = true then e else ptF ps n := by
  unfold mkF apF1; rw [if_neg (by simp), if_neg (by simp), if_neg (by simp), if_pos (by simp)]
set_option maxRecDepth 100000 in
set_option maxHeartbeats 8000000 in
theorem walk (a0 : Value) (l0 : List Fm) (a1 : Value) (l1 : List Fm) (a2 : Option Addr) (len2 cap2 : Nat) (z2 : List ByteArray) (a3 : Int) (a4 : ByteArray) (a5 : ByteArray) (w : World) (w0 : FmAt w a0 l0) (b0 : ∀ d ∈ l0, WfF d) (w1 : FmAt w a1 l1) (b1 : ∀ d ∈ l1, WfF d) (w2 : IsStrs w a2 len2 cap2 z2) (w3 : (Lit.int .i64 a3).wf = true) (w4 : a4.size ≤ maxLen) (w5 : a5.size ≤ maxLen) :
    Calls Try.prog 4 #[a0, a1, .slice a2 len2 cap2, .int .i64 a3, .string a4, .string a5] w fun e w' => e = .returned (.bool true) ∧ Below w.heap.size w w' := by
  have HLA := hide (left_any a0 l0 100 w w0 b0 (by decide))
  have HLB := hide (fun W hb => left_any a1 l1 100 W (fmat_below w1 hb) b1 (by decide))
  have HFA := hide w0
  have HFB := hide w1
  have HP := hide (strs_srat w2)
  have HLONG := hide (fun W (h : IsStrs W a2 len2 cap2 z2) => long_any W 100 a2 len2 cap2 z2 h (by decide) (by decide))
  have HST := hide w2
  have hzl : (z2.take len2).length = len2 := by have := strs_len w2; rw [List.length_take]; omega
  clear b0 b1
  obtain ⟨vA, vc, rfl⟩ := fmat_len w0
  obtain ⟨uA, uc, rfl⟩ := fmat_len w1
  clear w0 w1
  go_enter Try.func4, Try.ntmps4
  go_wp2_with fail
  refine HLA.out.mono ?_
  rintro eA wA ⟨r0, rfl, hbA, hokA⟩
  have HBA := hide hbA
  clear hbA HLA
  by_cases h0 : r0 < 0
  · have g0 : decide (r0 < 0) = true := decide_eq_true h0
    clear h0 hokA
    go_wp2_with fail
    refine (awake18_any _).mono ?_
    rintro e w9 ⟨rfl, hb9⟩
    go_wp2
    go_ret
    exact ⟨rfl, bl_trans HBA.out hb9⟩
  have g0 : decide (r0 < 0) = false := decide_eq_false h0
  obtain ⟨_, hokz⟩ := hokA.out (by omega)
  clear hokA h0
  go_wp2_with fail
  refine (HLB.out _ HBA.out).mono ?_
  rintro eB wB ⟨r1, rfl, hbB, hokB⟩
  have HBB := hide (bl_trans HBA.out hbB)
  clear hbB HLB
  by_cases h1 : r1 < 0
  · have g1 : decide (r1 < 0) = true := decide_eq_true h1
    clear h1 hokB
    go_wp2_with fail
    refine (awake18_any _).mono ?_
    rintro e w9 ⟨rfl, hb9⟩
    go_wp2
    go_ret
    exact ⟨rfl, bl_trans HBB.out hb9⟩
  have g1 : decide (r1 < 0) = false := decide_eq_false h1
  obtain ⟨_, hokz1⟩ := hokB.out (by omega)
  clear hokB h1
  by_cases c3 : 10 < l0.length
  · have g3 : decide ((10 : Int) < (l0.length : Int)) = true := decide_eq_true (by omega)
    have g3' : decide (10 < l0.length) = true := decide_eq_true c3
    clear c3
    go_wp2_with fail
    refine (awake18_any _).mono ?_
    rintro e w9 ⟨rfl, hb9⟩
    go_wp2
    go_ret
    exact ⟨rfl, bl_trans HBB.out hb9⟩
  have g3 : decide ((10 : Int) < (l0.length : Int)) = false := decide_eq_false (by omega)
  have g3' : decide (10 < l0.length) = false := decide_eq_false c3
  by_cases c4 : 10 < l1.length
  · have g4 : decide ((10 : Int) < (l1.length : Int)) = true := decide_eq_true (by omega)
    have g4' : decide (10 < l1.length) = true := decide_eq_true c4
    clear c3 c4
    go_wp2_with fail
    refine (awake18_any _).mono ?_
    rintro e w9 ⟨rfl, hb9⟩
    go_wp2
    go_ret
    exact ⟨rfl, bl_trans HBB.out hb9⟩
  have g4 : decide ((10 : Int) < (l1.length : Int)) = false := decide_eq_false (by omega)
  have g4' : decide (10 < l1.length) = false := decide_eq_false c4
  by_cases c5 : 10 < len2
  · have g5 : decide ((10 : Int) < (len2 : Int)) = true := decide_eq_true (by omega)
    have g5' : decide (10 < len2) = true := decide_eq_true c5
    clear c3 c4 c5
    go_wp2_with fail
    refine (awake18_any _).mono ?_
    rintro e w9 ⟨rfl, hb9⟩
    go_wp2
    go_ret
    exact ⟨rfl, bl_trans HBB.out hb9⟩
  have g5 : decide ((10 : Int) < (len2 : Int)) = false := decide_eq_false (by omega)
  have g5' : decide (10 < len2) = false := decide_eq_false c5
  have hst2 : IsStrs wB a2 len2 cap2 z2 := by
    rcases HST.out with h | ⟨x, h1, h2, h3, h4, h5, h6⟩
    · exact .inl h
    · exact .inr ⟨x, h1, h2, h3, h4, fun i hi => cell_later HBB.out (h5 i hi), h6⟩
  have HLG := hide (HLONG.out _ hst2)
  clear hst2
  obtain ⟨lg, hlg⟩ : ∃ lg, longL 100 (z2.take len2) = lg := ⟨_, rfl⟩
  rw [hlg] at HLG
  cases lg
  rotate_left
  · clear c3 c4 c5 hlg
    go_wp2_with fail
    refine HLG.out.mono ?_
    rintro e w8 ⟨rfl, rfl⟩
    go_wp2_with fail
    refine (awake18_any _).mono ?_
    rintro e w9 ⟨rfl, hb9⟩
    go_wp2
    go_ret
    exact ⟨rfl, bl_trans HBB.out hb9⟩
  have htot := tot_le (z2.take len2) 100 (by decide) hlg
  have hps : ∀ x ∈ z2.take len2, x.size ≤ 100 := fun x hx => by have := tot_in _ x hx; omega
  clear hlg htot
  by_cases c6 : 40 < a4.size
  · have g6 : decide ((40 : Int) < (a4.size : Int)) = true := decide_eq_true (by omega)
    have g6' : decide (40 < a4.size) = true := decide_eq_true c6
    clear c3 c4 c5 c6
    go_wp2_with fail
    refine HLG.out.mono ?_
    rintro e w8 ⟨rfl, rfl⟩
    go_wp2_with fail
    refine (awake18_any _).mono ?_
    rintro e w9 ⟨rfl, hb9⟩
    go_wp2
    go_ret
    exact ⟨rfl, bl_trans HBB.out hb9⟩
  have g6 : decide ((40 : Int) < (a4.size : Int)) = false := decide_eq_false (by omega)
  have g6' : decide (40 < a4.size) = false := decide_eq_false c6
  by_cases c7 : 40 < a5.size
  · have g7 : decide ((40 : Int) < (a5.size : Int)) = true := decide_eq_true (by omega)
    have g7' : decide (40 < a5.size) = true := decide_eq_true c7
    clear c3 c4 c5 c6 c7
    go_wp2_with fail
    refine HLG.out.mono ?_
    rintro e w8 ⟨rfl, rfl⟩
    go_wp2_with fail
    refine (awake18_any _).mono ?_
    rintro e w9 ⟨rfl, hb9⟩
    go_wp2
    go_ret
    exact ⟨rfl, bl_trans HBB.out hb9⟩
  have g7 : decide ((40 : Int) < (a5.size : Int)) = false := decide_eq_false (by omega)
  have g7' : decide (40 < a5.size) = false := decide_eq_false c7
  have hl3 : l0.length ≤ 10 := by omega
  have hl4 : l1.length ≤ 10 := by omega
  have hl5 : len2 ≤ 10 := by omega
  have hl6 : a4.size ≤ 40 := by omega
  have hl7 : a5.size ≤ 40 := by omega
  obtain ⟨ps, hpsl⟩ : ∃ ps, z2.take len2 = ps := ⟨_, rfl⟩
  rw [hpsl] at HP hps hzl
  have hpt : ∀ n, (ptF ps n).size ≤ 100 := fun n => ptF_le hps n
  have hk12 := lowN_lt a3 12 (by decide)
  have HLW := hide (fun (W : World) => low_any a3 12 W (by decide) (by decide))
  obtain ⟨kk, hkk⟩ : ∃ kk, lowN a3 12 = kk := ⟨_, rfl⟩
  rw [hkk] at hk12 HLW
  obtain ⟨P, hP⟩ : ∃ P, ptF ps (kk : Int) = P := ⟨_, rfl⟩
  have hPz : P.size ≤ 100 := by rw [← hP]; exact hpt _
  have hpt2 : ∀ n, (ptF ps n).size ≤ 1000 := fun n => Nat.le_trans (hpt n) (by decide)
  have hm5 := mk_both ps kk a4 a5
  have hm3 := mk_if ps kk a4
  have hm4 := mk_else ps kk a5
  rw [hP] at hm5 hm3 hm4
  obtain ⟨X5, hX5⟩ : ∃ X, mkF ps ⟨5, kk, 0, a4, a5⟩ = X := ⟨_, rfl⟩
  obtain ⟨X3, hX3⟩ : ∃ X, mkF ps ⟨3, kk, 0, a4, nilB⟩ = X := ⟨_, rfl⟩
  obtain ⟨X4, hX4⟩ : ∃ X, mkF ps ⟨4, kk, 0, nilB, a5⟩ = X := ⟨_, rfl⟩
  have z5 : X5.size ≤ 1000 := by rw [← hX5]; exact mkF_le ps _ 1000 (by dsimp only; omega) (by dsimp only; omega) (hpt2 _)
  have z3 : X3.size ≤ 1000 := by rw [← hX3]; exact mkF_le ps _ 1000 (by dsimp only; omega) (by simp [nilB, ByteArray.size]) (hpt2 _)
  have z4 : X4.size ≤ 1000 := by rw [← hX4]; exact mkF_le ps _ 1000 (by simp [nilB, ByteArray.size]) (by dsimp only; omega) (hpt2 _)
  rw [hX5] at hm5
  rw [hX3] at hm3
  rw [hX4] at hm4
  have HA5 := hide (fun W u (hp : SrAt W u ps) => apply_one ⟨5, kk, 0, a4, a5⟩ (ok_both kk (by omega) _ _) u ps W hp (by omega) hpt2 X5 hX5 (by omega))
  have HA3 := hide (fun W u (hp : SrAt W u ps) => apply_one ⟨3, kk, 0, a4, nilB⟩ (ok_if kk (by omega) _) u ps W hp (by omega) hpt2 X3 hX3 (by omega))
  have HA4 := hide (fun W u (hp : SrAt W u ps) => apply_one ⟨4, kk, 0, nilB, a5⟩ (ok_else kk (by omega) _) u ps W hp (by omega) hpt2 X4 hX4 (by omega))
  dsimp only at HA5 HA3 HA4
  unfold nilB at HA3 HA4 hm3
  have hmz : ∀ l : List Fm, (∀ i (h : i < l.length), l[i].th.size ≤ 100 ∧ l[i].el.size ≤ 100) → ∀ d ∈ l, (mkF ps d).size ≤ 100 := fun l hl d hd => by
    obtain ⟨i, hi, rfl⟩ := List.getElem_of_mem hd
    exact mkF_le ps _ 100 (hl i hi).1 (hl i hi).2 (hpt _)
  have hmA := hmz l0 hokz
  have hmB := hmz l1 hokz1
  have hmAB : ∀ d ∈ l0 ++ l1, (mkF ps d).size ≤ 100 := fun d hd => (List.mem_append.1 hd).elim (hmA d) (hmB d)
  have hml : ∀ l : List Fm, l.length ≤ 10 → (∀ d ∈ l, (mkF ps d).size ≤ 100) → (mkL ps l).length ≤ 1000 := fun l hl hd => by
    have key : (mkL ps l).length ≤ l.length * 100 := by
      clear hl
      induction l with
      | nil => simp [mkL]
      | cons d l ih =>
        rw [show mkL ps (d :: l) = (mkF ps d).data.toList ++ mkL ps l from rfl, List.length_append, List.length_cons, Nat.add_mul, Nat.one_mul, Array.length_toList]
        have h1 := hd d (by simp)
        have h2 := ih (fun x hx => hd x (by simp [hx]))
        have h3 : (mkF ps d).data.size = (mkF ps d).size := rfl
        omega
    omega
  have HML := hide (And.intro (hml l0 hl3 hmA) (hml l1 hl4 hmB))
  have HAPA := hide (fun W (hf : FmAt W (.slice vA l0.length vc) l0) (hp : SrAt W (.slice a2 len2 cap2) ps) => fapplyL_any _ _ l0 ps W hf hp (by omega) (by omega) hpt2 (fun d hd => Nat.le_trans (hmA d hd) (by decide)))
  have HAPB := hide (fun W (hf : FmAt W (.slice uA l1.length uc) l1) (hp : SrAt W (.slice a2 len2 cap2) ps) => fapplyL_any _ _ l1 ps W hf hp (by omega) (by omega) hpt2 (fun d hd => Nat.le_trans (hmB d hd) (by decide)))
  have HAPC := hide (fun W v (hf : FmAt W v (l0 ++ l1)) (hp : SrAt W (.slice a2 len2 cap2) ps) => fapplyL_any v _ (l0 ++ l1) ps W hf hp (by simp; omega) (by omega) hpt2 (fun d hd => Nat.le_trans (hmAB d hd) (by decide)))
  have HMC := hide (fun W v (hf : FmAt W v (l0 ++ l1)) => fmayL_any v (l0 ++ l1) W hf (by simp; omega))
  obtain ⟨i0, hi0, hz0', hz1, hz2⟩ := info_parts info_fm
  have HPP := hide (show (kk < len2 ∧ ∃ b o, a2 = some ⟨b, o, none⟩ ∧ ∀ W, Below w.heap.size w W → W.cell? ⟨b, o + kk, none⟩ = some (.string P)) ∨ (¬ kk < len2 ∧ P = ⟨#[]⟩) by
    by_cases hlt : kk < len2
    · left
      obtain ⟨a, c, hv, _, _, hc⟩ := HP.out
      obtain ⟨b, o, ha, hcell⟩ := hc kk (by omega)
      injection hv with hv _ _
      refine ⟨hlt, b, o, by rw [hv, ha], fun W hb => ?_⟩
      have := cell_later hb hcell
      rw [this, ← hP]
      unfold ptF
      rw [if_pos (by omega)]
      simp [show kk < ps.length by omega]
    · right
      refine ⟨hlt, ?_⟩
      rw [← hP]; unfold ptF; rw [if_neg (by omega)])
  have HEMP := hide (emp_iff P)
  clear hX5 hX3 hX4 hP hkk hpsl hps hpt hpt2 hmz hmA hmB hmAB hml hokz hokz1 c3 c4 c5 c6 c7
  go_wp2_with fail
  refine HLG.out.mono ?_
  rintro e w8 ⟨rfl, rfl⟩
  go_wp2_with fail
  refine (HLW.out _).mono ?_
  rintro e w8 ⟨rfl, rfl⟩
  have HSA := hide (fmat_src (fmat_below HFA.out HBB.out))
  have HSB := hide (fmat_src (fmat_below HFB.out HBB.out))
  have hwl := HBB.out.size
  go_wp2_with (first
    | (at_builtin; (refine wpList_src _ (by rfl) (.tmp 59) (.tmp 60) 24 (by rfl) wB.heap.size 28 i0 (.agg #[.int .i64 0, .int .i64 0, .int .i64 0, .string ⟨#[]⟩, .string ⟨#[]⟩]) 5 56 Try.underlying24 hi0 hz0' hz1 hz2 rfl (by decide) _ 0 [] (by rfl) (own_at (heap_new rfl) (Nat.le_refl _)) vA l0.length vc (fmC l0) (by rfl) (src_below HSA.out (bl_alloc (bl_refl wB) _)) (fmC_one' l0) (by omega) (by decide) (by simp) ?_); intro v4 w4 hv4 hg4; have B4 := hide ((bl_alloc (bl_refl wB) (.cells #[] 28)).grown hg4 (by simp) (fun k hk => by cases hk; exact Nat.le_refl _)))
    | (at_builtin; (refine wpList_src _ (by rfl) (.tmp 61) (.tmp 62) 24 (by rfl) wB.heap.size 28 i0 (.agg #[.int .i64 0, .int .i64 0, .int .i64 0, .string ⟨#[]⟩, .string ⟨#[]⟩]) 5 56 Try.underlying24 hi0 hz0' hz1 hz2 rfl (by decide) v4 (0 + l0.length) ([] ++ fmC l0) (by rfl) hv4 uA l1.length uc (fmC l1) (by rfl) (src_below HSB.out B4.out) (fmC_one' l1) (by omega) (by decide) B4.out.size ?_); intro v5 w5 hv5 hg5; have B5 := hide (B4.out.grown hg5 B4.out.size (fun k hk => (hv4.lt k hk).1)); have hfC := own_fmat (l := l0 ++ l1) (by rw [List.length_append, fmC_app]; simpa using hv5); clear hv4 hg4 hv5 hg5)
    | fail)
  have HFC := hide hfC
  have HB10 := hide (bl_trans HBB.out B5.out)
  clear hfC B4 B5 hwl HSA HSB HLG
  rcases hmm : mayL (l0 ++ l1) with _ | _
  · rw [hmm] at HMC
    clear hmm HAPA HAPB HAPC HML
    go_wp2_with fail
    refine (HMC.out _ _ HFC.out).mono ?_
    rintro e w20 ⟨rfl, hb20⟩
    have HB20 := hide (bl_trans HB10.out hb20)
    clear hb20
    rcases HPP.out with ⟨hlt, pb, po, rfl, hpc⟩ | ⟨hlt, hP0⟩
    · have gk : decide ((kk : Int) < (len2 : Int)) = true := decide_eq_true (by omega)
      have gk' : decide (kk < len2) = true := decide_eq_true hlt
      have hcell := hpc _ HB20.out
      have i1 : (0 : Int) ≤ (kk : Int) := by omega
      have i2 : (kk : Int) < (len2 : Int) := by omega
      rcases hz : P.toList.isEmpty with _ | _
      · rw [hz] at hm5 hm3 hm4
        rw [if_neg (by simp)] at hm5 hm3 hm4
        subst hm5 hm3 hm4
        clear hlt HPP HEMP hpc
        go_wp2_with fail
        refine (HA5.out _ _ (srat_below HP.out HB20.out)).mono ?_
        rintro e w21 ⟨rfl, hb21⟩
        have HB21 := hide (bl_trans HB20.out hb21)
        clear hb21
        go_wp2_with fail
        refine (HA3.out _ _ (srat_below HP.out HB21.out)).mono ?_
        rintro e w22 ⟨rfl, hb22⟩
        have HB22 := hide (bl_trans HB21.out hb22)
        clear hb22
        go_wp2_with fail
        refine (HA4.out _ _ (srat_below HP.out HB22.out)).mono ?_
        rintro e w23 ⟨rfl, hb23⟩
        have HB23 := hide (bl_trans HB22.out hb23)
        clear hb23
        go_wp2_with fail
        refine (awake18_any _).mono ?_
        rintro e w30 ⟨rfl, hb30⟩
        have HB30 := hide (bl_trans HB23.out hb30)
        clear hb30
        go_wp2
        go_ret
        exact ⟨rfl, HB30.out⟩
      · rw [hz] at hm5 hm3 hm4
        rw [if_pos rfl] at hm5 hm3 hm4
        subst hm5 hm3 hm4
        clear hlt HPP HEMP hpc
        go_wp2_with fail
        refine (HA5.out _ _ (srat_below HP.out HB20.out)).mono ?_
        rintro e w21 ⟨rfl, hb21⟩
        have HB21 := hide (bl_trans HB20.out hb21)
        clear hb21
        go_wp2_with fail
        refine (HA3.out _ _ (srat_below HP.out HB21.out)).mono ?_
        rintro e w22 ⟨rfl, hb22⟩
        have HB22 := hide (bl_trans HB21.out hb22)
        clear hb22
        go_wp2_with fail
        refine (HA4.out _ _ (srat_below HP.out HB22.out)).mono ?_
        rintro e w23 ⟨rfl, hb23⟩
        have HB23 := hide (bl_trans HB22.out hb23)
        clear hb23
        go_wp2_with fail
        refine (awake18_any _).mono ?_
        rintro e w30 ⟨rfl, hb30⟩
        have HB30 := hide (bl_trans HB23.out hb30)
        clear hb30
        go_wp2
        go_ret
        exact ⟨rfl, HB30.out⟩
    · have gk : decide ((kk : Int) < (len2 : Int)) = false := decide_eq_false (by omega)
      have gk' : decide (kk < len2) = false := decide_eq_false hlt
      subst hP0
      have hE0 : (⟨#[]⟩ : ByteArray).toList.isEmpty = true := by rw [Go.ByteArray.toList_eq]; rfl
      rw [hE0, if_pos rfl] at hm5 hm3 hm4
      subst hm5 hm3 hm4
      clear hlt HPP HEMP
      go_wp2_with fail
      refine (HA5.out _ _ (srat_below HP.out HB20.out)).mono ?_
      rintro e w21 ⟨rfl, hb21⟩
      have HB21 := hide (bl_trans HB20.out hb21)
      clear hb21
      go_wp2_with fail
      refine (HA3.out _ _ (srat_below HP.out HB21.out)).mono ?_
      rintro e w22 ⟨rfl, hb22⟩
      have HB22 := hide (bl_trans HB21.out hb22)
      clear hb22
      go_wp2_with fail
      refine (HA4.out _ _ (srat_below HP.out HB22.out)).mono ?_
      rintro e w23 ⟨rfl, hb23⟩
      have HB23 := hide (bl_trans HB22.out hb23)
      clear hb23
      go_wp2_with fail
      refine (awake18_any _).mono ?_
      rintro e w30 ⟨rfl, hb30⟩
      have HB30 := hide (bl_trans HB23.out hb30)
      clear hb30
      go_wp2
      go_ret
      exact ⟨rfl, HB30.out⟩
  · obtain ⟨hma, hmb⟩ := mayL_app hmm
    rw [hmm] at HMC
    rw [hmm, if_pos rfl, mkL_app, cat_eq] at HAPC
    rw [hma, if_pos rfl] at HAPA
    rw [hmb, if_pos rfl] at HAPB
    obtain ⟨q1, q2⟩ := HML.out
    obtain ⟨A, hA⟩ : ∃ A, (⟨(mkL ps l0).toArray⟩ : ByteArray) = A := ⟨_, rfl⟩
    obtain ⟨B, hB⟩ : ∃ B, (⟨(mkL ps l1).toArray⟩ : ByteArray) = B := ⟨_, rfl⟩
    have zA : A.size ≤ 1000 := by rw [← hA]; show (mkL ps l0).toArray.size ≤ 1000; rw [List.size_toArray]; exact q1
    have zB : B.size ≤ 1000 := by rw [← hB]; show (mkL ps l1).toArray.size ≤ 1000; rw [List.size_toArray]; exact q2
    rw [hA, hB] at HAPC
    rw [hA] at HAPA
    rw [hB] at HAPB
    clear hmm hma hmb q1 q2 hA hB HML
    go_wp2_with fail
    refine (HMC.out _ _ HFC.out).mono ?_
    rintro e w11 ⟨rfl, hb11⟩
    have HFC2 := hide (fmat_below HFC.out hb11)
    have HB11 := hide (bl_trans HB10.out hb11)
    clear hb11
    go_wp2_with fail
    refine (HAPC.out _ _ HFC2.out (srat_below HP.out HB11.out)).mono ?_
    rintro e w12 ⟨rfl, hb12⟩
    have HB12 := hide (bl_trans HB11.out hb12)
    clear hb12
    go_wp2_with fail
    refine (HAPA.out _ (fmat_below HFA.out HB12.out) (srat_below HP.out HB12.out)).mono ?_
    rintro e w13 ⟨rfl, hb13⟩
    have HB13 := hide (bl_trans HB12.out hb13)
    clear hb13
    go_wp2_with fail
    refine (HAPB.out _ (fmat_below HFB.out HB13.out) (srat_below HP.out HB13.out)).mono ?_
    rintro e w20 ⟨rfl, hb20⟩
    have HB20 := hide (bl_trans HB13.out hb20)
    clear hb20
    rcases HPP.out with ⟨hlt, pb, po, rfl, hpc⟩ | ⟨hlt, hP0⟩
    · have gk : decide ((kk : Int) < (len2 : Int)) = true := decide_eq_true (by omega)
      have gk' : decide (kk < len2) = true := decide_eq_true hlt
      have hcell := hpc _ HB20.out
      have i1 : (0 : Int) ≤ (kk : Int) := by omega
      have i2 : (kk : Int) < (len2 : Int) := by omega
      rcases hz : P.toList.isEmpty with _ | _
      · rw [hz] at hm5 hm3 hm4
        rw [if_neg (by simp)] at hm5 hm3 hm4
        subst hm5 hm3 hm4
        clear hlt HPP HEMP hpc
        go_wp2_with fail
        refine (HA5.out _ _ (srat_below HP.out HB20.out)).mono ?_
        rintro e w21 ⟨rfl, hb21⟩
        have HB21 := hide (bl_trans HB20.out hb21)
        clear hb21
        go_wp2_with fail
        refine (HA3.out _ _ (srat_below HP.out HB21.out)).mono ?_
        rintro e w22 ⟨rfl, hb22⟩
        have HB22 := hide (bl_trans HB21.out hb22)
        clear hb22
        go_wp2_with fail
        refine (HA4.out _ _ (srat_below HP.out HB22.out)).mono ?_
        rintro e w23 ⟨rfl, hb23⟩
        have HB23 := hide (bl_trans HB22.out hb23)
        clear hb23
        go_wp2_with fail
        refine (awake18_any _).mono ?_
        rintro e w30 ⟨rfl, hb30⟩
        have HB30 := hide (bl_trans HB23.out hb30)
        clear hb30
        go_wp2
        go_ret
        exact ⟨rfl, HB30.out⟩
      · rw [hz] at hm5 hm3 hm4
        rw [if_pos rfl] at hm5 hm3 hm4
        subst hm5 hm3 hm4
        clear hlt HPP HEMP hpc
        go_wp2_with fail
        refine (HA5.out _ _ (srat_below HP.out HB20.out)).mono ?_
        rintro e w21 ⟨rfl, hb21⟩
        have HB21 := hide (bl_trans HB20.out hb21)
        clear hb21
        go_wp2_with fail
        refine (HA3.out _ _ (srat_below HP.out HB21.out)).mono ?_
        rintro e w22 ⟨rfl, hb22⟩
        have HB22 := hide (bl_trans HB21.out hb22)
        clear hb22
        go_wp2_with fail
        refine (HA4.out _ _ (srat_below HP.out HB22.out)).mono ?_
        rintro e w23 ⟨rfl, hb23⟩
        have HB23 := hide (bl_trans HB22.out hb23)
        clear hb23
        go_wp2_with fail
        refine (awake18_any _).mono ?_
        rintro e w30 ⟨rfl, hb30⟩
        have HB30 := hide (bl_trans HB23.out hb30)
        clear hb30
        go_wp2
        go_ret
        exact ⟨rfl, HB30.out⟩
    · have gk : decide ((kk : Int) < (len2 : Int)) = false := decide_eq_false (by omega)
      have gk' : decide (kk < len2) = false := decide_eq_false hlt
      subst hP0
      have hE0 : (⟨#[]⟩ : ByteArray).toList.isEmpty = true := by rw [Go.ByteArray.toList_eq]; rfl
      rw [hE0, if_pos rfl] at hm5 hm3 hm4
      subst hm5 hm3 hm4
      clear hlt HPP HEMP
      go_wp2_with fail
      refine (HA5.out _ _ (srat_below HP.out HB20.out)).mono ?_
      rintro e w21 ⟨rfl, hb21⟩
      have HB21 := hide (bl_trans HB20.out hb21)
      clear hb21
      go_wp2_with fail
      refine (HA3.out _ _ (srat_below HP.out HB21.out)).mono ?_
      rintro e w22 ⟨rfl, hb22⟩
      have HB22 := hide (bl_trans HB21.out hb22)
      clear hb22
      go_wp2_with fail
      refine (HA4.out _ _ (srat_below HP.out HB22.out)).mono ?_
      rintro e w23 ⟨rfl, hb23⟩
      have HB23 := hide (bl_trans HB22.out hb23)
      clear hb23
      go_wp2_with fail
      refine (awake18_any _).mono ?_
      rintro e w30 ⟨rfl, hb30⟩
      have HB30 := hide (bl_trans HB23.out hb30)
      clear hb30
      go_wp2
      go_ret
      exact ⟨rfl, HB30.out⟩

set_option maxRecDepth 100000 in
theorem lifted (os : Os) (started : os.Started) (H : Type) (enc : TypeId × Value → H) :
    ReturnsInHanded {} Try.checked os 4 .any (Rows.fmtJoinsSpec.pre6 enc Try.prog Try.f4 Rows.fmtJoinsRow.domain false) (Rows.fmtJoinsSpec.post enc Try.prog Try.f4 false true false false) := by
  refine returnsInHanded_of_change (C := Try.checked) own started (by kernel_rfl) Try.func4
    (ChangeSpec.witness6 (enc := enc) (C := Try.checked) false ⟨#[], #[.slice none 0 0, .slice none 0 0, .slice none 0 0, .int .i64 0, .string ByteArray.empty, .string ByteArray.empty], []⟩ 8 (by kernel_rfl) (by kernel_rfl) (by kernel_rfl) (by kernel_rfl)) ?_
  intro W base args ds gs before hval0 hW hcnd _
  have hval : ∀ (j : Nat) t v, Try.f4.params[j]? = some t → args[j]? = some v → Value.okWide Try.prog W .any base t v := hval0
  have hW' := hW
  obtain ⟨p, q, hA0, hV, rfl, hfz, hnd⟩ := hW
  have hA : DataW.TrodAll enc Try.prog W 0 (fun _ => true) true Try.f4.params.toList args.toList ds p := hA0
  rw [Try.params4] at hA hval
  obtain ⟨v0, vs0, d0, ds0, p0, q0, hargs, rfl, rfl, h0, r0⟩ := trodAll_cons hA
  obtain ⟨v1, vs1, d1, ds1, p1, q1, rfl, rfl, rfl, h1, r1⟩ := trodAll_cons r0
  obtain ⟨v2, vs2, d2, ds2, p2, q2, rfl, rfl, rfl, h2, r2⟩ := trodAll_cons r1
  obtain ⟨v3, vs3, d3, ds3, p3, q3, rfl, rfl, rfl, h3, r3⟩ := trodAll_cons r2
  obtain ⟨v4, vs4, d4, ds4, p4, q4, rfl, rfl, rfl, h4, r4⟩ := trodAll_cons r3
  obtain ⟨v5, vs5, d5, ds5, p5, q5, rfl, rfl, rfl, h5, r5⟩ := trodAll_cons r4
  obtain ⟨rfl, rfl, rfl⟩ := trodAll_nil r5
  obtain rfl : args = #[v0, v1, v2, v3, v4, v5] := by cases args; simp_all
  obtain ⟨rfl, rfl⟩ := trodVars_none hV
  have k0 := h0
  have lt0 : ∀ x ∈ p0, x.block < W.heap.size := by obtain ⟨m, hm⟩ := k0; exact DataW.trod_lt m _ _ _ hm
  obtain ⟨l0, w0, b0⟩ := open_fmts (hval 0 24 v0 rfl rfl) h0
  have k1 := h1
  have lt1 : ∀ x ∈ p1, x.block < W.heap.size := by obtain ⟨m, hm⟩ := k1; exact DataW.trod_lt m _ _ _ hm
  obtain ⟨l1, w1, b1⟩ := open_fmts (hval 1 24 v1 rfl rfl) h1
  have k2 := h2
  have lt2 : ∀ x ∈ p2, x.block < W.heap.size := by obtain ⟨m, hm⟩ := k2; exact DataW.trod_lt m _ _ _ hm
  obtain ⟨a2, len2, cap2, rfl⟩ := okWide_slice Try.underlying30 (hval 2 30 v2 rfl rfl)
  obtain ⟨z2, w2⟩ : ∃ zs, IsStrs W a2 len2 cap2 zs := by
    obtain ⟨fuel, hf⟩ := h2
    rcases open_strings Try.underlying30 Try.underlying9 (by kernel_rfl) hf with ⟨hcs, _⟩ | ⟨x, l, c, zs, hcs, _, hl, hm, hz, _, hcell, hwz⟩
    · simp [Value.cells] at hcs
      obtain ⟨rfl, rfl, rfl⟩ := hcs
      exact ⟨[], .inl ⟨rfl, rfl, rfl, rfl⟩⟩
    · simp [Value.cells] at hcs
      obtain ⟨rfl, rfl, rfl⟩ := hcs
      exact ⟨zs, .inr ⟨_, rfl, hl, hm, by simpa using hz, hcell, hwz⟩⟩
  have k3 := h3
  have lt3 : ∀ x ∈ p3, x.block < W.heap.size := by obtain ⟨m, hm⟩ := k3; exact DataW.trod_lt m _ _ _ hm
  obtain ⟨a3, rfl, hd3, hp3, w3⟩ := open_int Try.underlying3 (hval 3 3 v3 rfl rfl) h3
  have k4 := h4
  have lt4 : ∀ x ∈ p4, x.block < W.heap.size := by obtain ⟨m, hm⟩ := k4; exact DataW.trod_lt m _ _ _ hm
  obtain ⟨a4, rfl, hd4, hp4, w4⟩ := open_string Try.underlying9 (hval 4 9 v4 rfl rfl) h4
  have k5 := h5
  have lt5 : ∀ x ∈ p5, x.block < W.heap.size := by obtain ⟨m, hm⟩ := k5; exact DataW.trod_lt m _ _ _ hm
  obtain ⟨a5, rfl, hd5, hp5, w5⟩ := open_string Try.underlying9 (hval 5 9 v5 rfl rfl) h5
  clear hA0 hval0
  refine (walk v0 l0 v1 l1 a2 len2 cap2 z2 a3 a4 a5 W w0 b0 w1 b1 w2 w3 w4 w5).mono fun e W' ⟨he, bel⟩ => ?_
  subst he
  exact ⟨_, rfl, _, _, _, [], _, [], hW', trodAll_mk1 (shut_bool Try.underlying4 _), (trodAll_cons_mk (Below.trod laidOut (by kernel_rfl) (of_decide_eq_true (by kernel_rfl)) k0 bel lt0) (trodAll_cons_mk (Below.trod laidOut (by kernel_rfl) (of_decide_eq_true (by kernel_rfl)) k1 bel lt1) (trodAll_cons_mk (Below.trod laidOut (by kernel_rfl) (of_decide_eq_true (by kernel_rfl)) k2 bel lt2) (trodAll_cons_mk (Below.trod laidOut (by kernel_rfl) (of_decide_eq_true (by kernel_rfl)) k3 bel lt3) (trodAll_cons_mk (Below.trod laidOut (by kernel_rfl) (of_decide_eq_true (by kernel_rfl)) k4 bel lt4) (trodAll_cons_mk (Below.trod laidOut (by kernel_rfl) (of_decide_eq_true (by kernel_rfl)) k5 bel lt5) trodAll_mk0)))))), rfl, bel.frame _, fun h => by cases h⟩

theorem over : Rows.fmtJoinsRow.holds Try.pinned (OpenSpec.ofChange Rows.fmtJoinsSpec) :=
  OpenClaim.holds_of_wide 4 Try.f4 rfl rfl rfl rfl rfl rfl rfl ⟨rfl, rfl, rfl, rfl, rfl⟩ rfl rfl rfl rfl rfl (by kernel_rfl) Try.func4 (by kernel_rfl)
    (of_decide_eq_true (by kernel_rfl)) (by unfold Func.isWrapper; first | (rw [if_pos (by decide +kernel)]; kernel_rfl) | (rw [if_neg (by decide +kernel)]; exact ⟨rfl, rfl⟩))
    (fun os started H enc _ => lifted os started H enc)

theorem proved : Rows.FmtJoinsSaid := over
end Go.Proofs.Ytbphckblbbbakaa.fmtJoins
