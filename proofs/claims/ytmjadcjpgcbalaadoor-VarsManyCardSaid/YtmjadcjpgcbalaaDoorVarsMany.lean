/- Names that are set one behind the other are all there, each with its last value; MaxVars are let, one more is ErrFull, but a known name may be set still. Conditions: none beyond the form's own. -/
import Derived.Test.YtmjadcjpgcbalaaDoorRows
import Derived.Test.YtmjadcjpgcbalaaDoorCards
import Derived.Test.YtmjadcjpgcbalaaDoorTie
import Derived.Lay
import Derived.LaidMore
import Derived.MakeChecks
import Derived.Stop.Joined
import Derived.SevenTiedAt
import Derived.Test.YtmjadcjpgcbalaaDoorArgs
import Derived.Test.YtmjadcjpgcbalaaDoorVarG
import Derived.Test.YtmjadcjpgcbalaaDoorLow
namespace Go.Proofs.YtmjadcjpgcbalaaDoor.varsMany
open Go.Proofs.YtmjadcjpgcbalaaDoor
open Go.ChangeShapes Go.WideShapes Go.ChangeAt Go.RowKit Go.Deep
open Go.ChangeMaps (open_string shut_string)
set_option linter.unusedVariables false

theorem own : ownKnob Tryd.prog.godebug = none := by kernel_rfl
theorem laidOut : laidOutB Tryd.prog = true := by kernel_rfl
-- opt:8000000
open SpanM SetM
open Go.Lib (decDigits)
attribute [local go_sem ↓] Go.wp_at_zero Go.wp_at_succ
theorem getV_set (nm v nm' : ByteArray) (l : List Rw) : getV nm' (setL nm v l) = if eqB nm nm' = true then v else getV nm' l := by
  induction l with
  | nil => rfl
  | cons s r ih =>
    unfold setL
    cases h : eqB s.1 nm
    · rw [if_neg (by simp), getV, ih, getV]
      cases h2 : eqB s.1 nm'
      · simp
      · have e2 := (eqB_iff _ _).1 h2
        have h3 : eqB nm nm' = false := by
          cases h4 : eqB nm nm'
          · rfl
          · have e4 := (eqB_iff _ _).1 h4
            rw [e2, ← e4, (eqB_iff nm nm).2 rfl] at h; cases h
        rw [h3]
        simp
    · have e1 := (eqB_iff _ _).1 h
      rw [if_pos rfl, getV, getV, e1]
      split <;> rfl
theorem getB_set (nm v nm' : ByteArray) (l : List Rw) : getB nm' (setL nm v l) = (eqB nm nm' || getB nm' l) := by
  induction l with
  | nil => rfl
  | cons s r ih =>
    unfold setL
    cases h : eqB s.1 nm
    · rw [if_neg (by simp)]
      unfold getB at ih ⊢
      rw [List.any_cons, ih, List.any_cons]
      cases eqB s.1 nm' <;> cases eqB nm nm' <;> rfl
    · have e1 := (eqB_iff _ _).1 h
      rw [if_pos rfl]
      unfold getB
      rw [List.any_cons, List.any_cons, e1]
      cases eqB nm nm' <;> rfl
theorem len_set (nm v : ByteArray) (l : List Rw) : (setL nm v l).length = l.length + if getB nm l = true then 0 else 1 := by
  induction l with
  | nil => rfl
  | cons s r ih =>
    unfold setL
    cases h : eqB s.1 nm
    · rw [if_neg (by simp)]
      have : getB nm (s :: r) = getB nm r := by unfold getB; rw [List.any_cons, h]; rfl
      rw [this, List.length_cons, ih, List.length_cons]; omega
    · rw [if_pos rfl]
      have : getB nm (s :: r) = true := by unfold getB; rw [List.any_cons, h]; rfl
      rw [this]; simp
theorem setE_on {nm v : ByteArray} {l k : List Rw} (h : setE nm v l = 0) (hk : k.length < 64) : setE nm v k = 0 := by
  unfold setE at h ⊢
  split at h
  · cases h
  · split at h
    · cases h
    · rename_i h1 h2
      rw [if_neg h1, if_neg h2, if_neg (by omega)]
theorem setR_on {nm v : ByteArray} {l : List Rw} (h : setE nm v l = 0) : setR nm v l = setL nm v l := by unfold setR; rw [if_pos h]
def nmD (i : Nat) : ByteArray := ⟨#[118]⟩ ++ itoaS i
theorem nmD_list (i : Nat) : (nmD i).data.toList = 118 :: decDigits i := by
  unfold nmD itoaS
  rw [ByteArray.toList_data_append]
  simp
theorem nmD_inj {i j : Nat} (h : nmD i = nmD j) : i = j := by
  have := congrArg (fun x : ByteArray => x.data.toList) h
  simp only [nmD_list] at this
  exact dec_inj (List.cons.inj this).2
theorem nmD_eq (i j : Nat) : eqB (nmD i) (nmD j) = decide (i = j) := by
  rw [Bool.eq_iff_iff, eqB_iff, decide_eq_true_eq]
  exact ⟨nmD_inj, fun h => by rw [h]⟩
theorem nmD_name (i : Nat) (h : i < 1000000) : nameB (nmD i) = true := by
  have hl := nmD_list i
  have h6 := dec_len2 i h
  have hs : (nmD i).size = 1 + (decDigits i).length := by
    show (nmD i).data.toList.length = _
    rw [hl, List.length_cons]; omega
  unfold nameB
  rw [hl, decide_eq_true (show 0 < (nmD i).size by omega), decide_eq_true (show (nmD i).size ≤ 64 by omega)]
  rw [show ((118 :: decDigits i).all fun c => namZ (c.toNat : Int)) = true from by
    rw [List.all_eq_true]
    intro c hc
    rcases List.mem_cons.1 hc with rfl | hc
    · decide
    · obtain ⟨h1, h2⟩ := dec_chars i c hc
      unfold namZ digZ
      rw [decide_eq_true (show (48 : Int) ≤ (c.toNat : Int) by omega), decide_eq_true (show (c.toNat : Int) ≤ 57 by omega)]
      simp]
  simp
  decide
def envL (n : Nat) : List Rw := (List.range n).map fun j => (nmD j, itoaS (j * j))
theorem envL_len (n : Nat) : (envL n).length = n := by simp [envL]
theorem envL_succ (n : Nat) : envL (n + 1) = envL n ++ [(nmD n, itoaS (n * n))] := by unfold envL; rw [List.range_succ, List.map_append]; rfl
theorem getB_app (nm : ByteArray) (l k : List Rw) : getB nm (l ++ k) = (getB nm l || getB nm k) := by unfold getB; rw [List.any_append]
theorem getV_app (nm : ByteArray) (l k : List Rw) : getV nm (l ++ k) = if getB nm l = true then getV nm l else getV nm k := by
  induction l with
  | nil => rfl
  | cons s r ih =>
    rw [List.cons_append, getV, ih, getV]
    unfold getB
    rw [List.any_cons]
    cases eqB s.1 nm
    · simp only [Bool.false_or, Bool.false_eq_true, if_false]
    · simp
theorem getB_env (i n : Nat) : getB (nmD i) (envL n) = decide (i < n) := by
  induction n with
  | zero => simp [envL, getB]
  | succ n ih =>
    rw [envL_succ, getB_app, ih]
    unfold getB
    rw [List.any_cons, List.any_nil, nmD_eq, Bool.or_false, Bool.eq_iff_iff]
    simp
    omega
theorem getV_env (i n : Nat) (h : i < n) : getV (nmD i) (envL n) = itoaS (i * i) := by
  induction n with
  | zero => omega
  | succ n ih =>
    rw [envL_succ, getV_app, getB_env]
    by_cases hi : i < n
    · rw [decide_eq_true hi, if_pos rfl, ih hi]
    · have : i = n := by omega
      subst this
      rw [decide_eq_false hi, if_neg (by simp), getV, nmD_eq, decide_eq_true rfl, if_pos rfl]
theorem setL_env (n : Nat) : setL (nmD n) (itoaS (n * n)) (envL n) = envL (n + 1) := by
  rw [envL_succ]
  have h : ∀ i (hi : i < (envL n).length), eqB (envL n)[i].1 (nmD n) = false := by
    intro i hi
    rw [envL_len] at hi
    have : (envL n)[i].1 = nmD i := by simp [envL]
    rw [this, nmD_eq, decide_eq_false (by omega)]
  exact (fst_no h _).2
theorem set_ok (i n : Nat) (hi : i < 1000000) (v : ByteArray) (hv : v.size ≤ 65536) (h : n < 64 ∨ i < n) : setE (nmD i) v (envL n) = 0 := by
  unfold setE
  rw [nmD_name i hi, if_neg (by simp), if_neg (by omega), getB_env, envL_len, if_neg]
  rintro ⟨h1, h2⟩
  have := of_decide_eq_false h1
  omega
theorem set_full (i : Nat) (hi : i < 1000000) (v : ByteArray) (hv : v.size ≤ 65536) (h : 64 ≤ i) : setE (nmD i) v (envL 64) = 7 := by
  unfold setE
  rw [nmD_name i hi, if_neg (by simp), if_neg (by omega), getB_env, envL_len, if_pos ⟨decide_eq_false (by omega), by omega⟩]
theorem nmD_size (i : Nat) (h : i < 1000000) : (nmD i).size ≤ 7 := by
  have h6 := dec_len2 i h
  show (nmD i).data.toList.length ≤ 7
  rw [nmD_list, List.length_cons]; omega
set_option maxRecDepth 100000 in
set_option maxHeartbeats 8000000 in
theorem walk (a0 : Int) (a1 : Int) (w : World) (w0 : (Lit.int .i64 a0).wf = true) (w1 : (Lit.int .i64 a1).wf = true) :
    Calls Tryd.prog 4 #[.int .i64 a0, .int .i64 a1] w fun e w' => e = .returned (.bool true) ∧ Below w.heap.size w w' := by
  have hn5 := lowN_lt a0 5 (by omega)
  have hk62 := lowN_lt a1 62 (by omega)
  have HL1 : Hid (∀ W, Calls Tryd.prog 19 #[.int .i64 a0, .int .i64 5] W fun e w' => e = .returned (.int .i64 (lowN a0 5)) ∧ W = w') := hide (fun W => low_any a0 5 W (by omega) (by omega))
  have HL2 : Hid (∀ W, Calls Tryd.prog 19 #[.int .i64 a1, .int .i64 62] W fun e w' => e = .returned (.int .i64 (lowN a1 62)) ∧ W = w') := hide (fun W => low_any a1 62 W (by omega) (by omega))
  generalize lowN a0 5 = n5 at *
  generalize lowN a1 62 = k at *
  obtain ⟨n, hn⟩ : ∃ n, 62 + n5 = n := ⟨_, rfl⟩
  have q0 : (62 : Int) + (n5 : Int) = (n : Int) := by omega
  have q1 : IntKind.i64.wrap (n : Int) = (n : Int) := by rw [IntKind.wrap_i64]; omega
  have hn66 : n ≤ 66 := by omega
  have hn62 : 62 ≤ n := by omega
  clear hn hn5
  go_enter Tryd.func4, Tryd.ntmps4
  go_wp2_with fail
  refine (HL1.out _).mono ?_
  rintro e wl ⟨rfl, hwl⟩
  subst hwl
  go_wp2_with fail
  refine (HL2.out _).mono ?_
  rintro e wl ⟨rfl, hwl⟩
  subst hwl
  clear HL1 HL2
  go_wp2
  clear q0 q1
  go_loopw [7, 8] (fun v i wr => ∃ j : Nat, i = .int .i64 j ∧ j ≤ n ∧ Hid (RwAt wr v (envL (min j 64))) ∧ Hid (Below w.heap.size w wr)) (fun _ i _ => n - (intOf i).toNat)
  case atStart => exact ⟨0, rfl, Nat.zero_le _, hide (.inl ⟨rfl, rfl⟩), hide (bl_refl w)⟩
  case round =>
    obtain ⟨j, rfl, hj, HR, HB⟩ := hrel
    obtain ⟨aV, cV, rfl⟩ := rwat_len HR.out
    rw [envL_len] at HR ⊢
    by_cases hlt : j < n
    · by_cases h64 : j < 64
      · have gf : decide ((64 : Int) ≤ (j : Int)) = false := decide_eq_false (by omega)
        have gf' : decide (64 ≤ j) = false := decide_eq_false (by omega)
        have hzn := nmD_size j (by omega)
        have hzs := itoa_size j (by omega)
        have HDG := hide (digits_any j (by omega) wr)
        have HDJ := hide (fun W => digits_any (j * j) (by have : j * j ≤ 66 * 66 := Nat.mul_le_mul (by omega) (by omega); omega) W)
        have hq := itoa_size (j * j) (by have : j * j ≤ 66 * 66 := Nat.mul_le_mul (by omega) (by omega); omega)
        have e1 := set_ok j j (by omega) (itoaS (j * j)) (by omega) (.inl h64)
        have hS := fun (W : World) (v : Value) (h : RwAt W v (envL (min j 64))) => set_any (nmD j) (itoaS (j * j)) v (envL j) W (by rw [show min j 64 = j by omega] at h; exact h) (by rw [envL_len]; omega) (by omega)
        have eR : setR (nmD j) (itoaS (j * j)) (envL j) = envL (j + 1) := by unfold setR; rw [if_pos e1, setL_env]
        rw [e1, eR] at hS
        have HSET : Hid (∀ (W : World) (v : Value), RwAt W v (envL (min j 64)) → Calls Tryd.prog 12 #[.string (⟨#[118]⟩ ++ itoaS j), .string (itoaS (j * j)), v] W (SetPost W 0 (envL (j + 1)))) := hide hS
        clear e1 hS eR
        have gj : decide ((j : Int) < (n : Int)) = true := decide_eq_true (by omega)
        have gj' : decide (j < n) = true := decide_eq_true hlt
        have m1 : (j : Int) * (j : Int) = ((j * j : Nat) : Int) := by simp
        have m2 : IntKind.i64.wrap ((j * j : Nat) : Int) = ((j * j : Nat) : Int) := by
          have : j * j ≤ 66 * 66 := Nat.mul_le_mul (by omega) (by omega)
          rw [IntKind.wrap_i64]; omega
        have m3 : IntKind.i64.wrap ((j : Int) + 1) = (j : Int) + 1 := by rw [IntKind.wrap_i64]; omega
        obtain ⟨jj, hjj⟩ : ∃ jj, j * j = jj := ⟨_, rfl⟩
        rw [hjj] at HDJ m1 m2 HSET hq
        obtain ⟨s, hs⟩ : ∃ s, itoaS j = s := ⟨_, rfl⟩
        rw [hs] at HDG HSET hzs
        obtain ⟨q, hqq⟩ : ∃ q, itoaS jj = q := ⟨_, rfl⟩
        rw [hqq] at HDJ HSET hq
        have hv1 : ((⟨#[118]⟩ : ByteArray)).size = 1 := rfl
        clear hjj hs hqq hzn
        go_wp2_with fail
        refine HDG.out.mono ?_
        rintro e w2 ⟨rfl, hb2⟩
        have R2 := rwat_below HR.out hb2
        have hb2 := bl_trans HB.out hb2
        go_wp2_with fail
        refine (HDJ.out _).mono ?_
        rintro e w3 ⟨rfl, hb3⟩
        have R3 := rwat_below R2 hb3
        have hb3 := bl_trans hb2 hb3
        clear R2
        go_wp2_with fail
        refine (HSET.out _ _ R3).mono ?_
        rintro e w4 ⟨v4, rfl, hb4, ho4⟩
        have HB4 := hide (bl_trans hb3 hb4)
        rw [envL_len] at ho4
        obtain ⟨aX, cX, rfl⟩ := own_slice ho4
        have HR4 := hide (show RwAt w4 (.slice aX (j + 1) cX) (envL (min (j + 1) 64)) from by
          rw [show min (j + 1) 64 = j + 1 by omega]
          exact own_rwat (by rw [envL_len]; exact ho4))
        clear ho4 R3 hb3 hb4
        go_wp2
        refine ⟨?_, by first | (simp [intOf]; done) | (simp [intOf]; omega)⟩
        exact ⟨j + 1, by go_num, by omega, HR4, HB4⟩
      · have gf : decide ((64 : Int) ≤ (j : Int)) = true := decide_eq_true (by omega)
        have gf' : decide (64 ≤ j) = true := decide_eq_true (by omega)
        have hzn := nmD_size j (by omega)
        have hzs := itoa_size j (by omega)
        have HDG := hide (digits_any j (by omega) wr)
        have HDJ := hide (fun W => digits_any (j * j) (by have : j * j ≤ 66 * 66 := Nat.mul_le_mul (by omega) (by omega); omega) W)
        have hq := itoa_size (j * j) (by have : j * j ≤ 66 * 66 := Nat.mul_le_mul (by omega) (by omega); omega)
        have hm64 : min j 64 = 64 := by omega
        have e1 := set_full j (by omega) (itoaS (j * j)) (by omega) (by omega)
        have hS := fun (W : World) (v : Value) (h : RwAt W v (envL (min j 64))) => set_any (nmD j) (itoaS (j * j)) v (envL 64) W (by rw [hm64] at h; exact h) (by rw [envL_len]; omega) (by omega)
        have eR : setR (nmD j) (itoaS (j * j)) (envL 64) = [] := by unfold setR; rw [if_neg (by rw [e1]; decide)]
        rw [e1, eR] at hS
        have HSET : Hid (∀ (W : World) (v : Value), RwAt W v (envL (min j 64)) → Calls Tryd.prog 12 #[.string (⟨#[118]⟩ ++ itoaS j), .string (itoaS (j * j)), v] W (SetPost W 7 [])) := hide hS
        clear e1 hS eR hm64
        have gj : decide ((j : Int) < (n : Int)) = true := decide_eq_true (by omega)
        have gj' : decide (j < n) = true := decide_eq_true hlt
        have m1 : (j : Int) * (j : Int) = ((j * j : Nat) : Int) := by simp
        have m2 : IntKind.i64.wrap ((j * j : Nat) : Int) = ((j * j : Nat) : Int) := by
          have : j * j ≤ 66 * 66 := Nat.mul_le_mul (by omega) (by omega)
          rw [IntKind.wrap_i64]; omega
        have m3 : IntKind.i64.wrap ((j : Int) + 1) = (j : Int) + 1 := by rw [IntKind.wrap_i64]; omega
        obtain ⟨jj, hjj⟩ : ∃ jj, j * j = jj := ⟨_, rfl⟩
        rw [hjj] at HDJ m1 m2 HSET hq
        obtain ⟨s, hs⟩ : ∃ s, itoaS j = s := ⟨_, rfl⟩
        rw [hs] at HDG HSET hzs
        obtain ⟨q, hqq⟩ : ∃ q, itoaS jj = q := ⟨_, rfl⟩
        rw [hqq] at HDJ HSET hq
        have hv1 : ((⟨#[118]⟩ : ByteArray)).size = 1 := rfl
        clear hjj hs hqq hzn
        go_wp2_with fail
        refine HDG.out.mono ?_
        rintro e w2 ⟨rfl, hb2⟩
        have R2 := rwat_below HR.out hb2
        have hb2 := bl_trans HB.out hb2
        go_wp2_with fail
        refine (HDJ.out _).mono ?_
        rintro e w3 ⟨rfl, hb3⟩
        have R3 := rwat_below R2 hb3
        have hb3 := bl_trans hb2 hb3
        clear R2
        go_wp2_with fail
        refine (HSET.out _ _ R3).mono ?_
        rintro e w4 ⟨v4, rfl, hb4, ho4⟩
        have HB4 := hide (bl_trans hb3 hb4)
        rw [List.length_nil] at ho4
        obtain ⟨aX, cX, rfl⟩ := own_slice ho4
        have HR4 := hide (show RwAt w4 (.slice aV (min j 64) cV) (envL (min (j + 1) 64)) from by
          rw [show min (j + 1) 64 = min j 64 by omega]
          exact rwat_below R3 hb4)
        clear ho4 R3 hb3 hb4
        go_wp2
        refine ⟨?_, by first | (simp [intOf]; done) | (simp [intOf]; omega)⟩
        exact ⟨j + 1, by go_num, by omega, HR4, HB4⟩
    · obtain rfl : j = n := by omega
      have gj : decide ((j : Int) < (j : Int)) = false := by simp
      have gj' : decide (j < j) = false := by simp
      obtain ⟨m, hm⟩ : ∃ m, min j 64 = m := ⟨_, rfl⟩
      rw [hm] at HR ⊢
      have hm64 : m ≤ 64 := by omega
      have hkm : k < m := by omega
      have hzs := itoa_size k (by omega)
      have hzn := nmD_size k (by omega)
      have HDG := hide (digits_any k (by omega) wr)
      have e1 := set_ok k m (by omega) ⟨#[110, 101, 119]⟩ (by decide) (.inr hkm)
      have hS := fun (W : World) (v : Value) (h : RwAt W v (envL m)) => set_any (nmD k) ⟨#[110, 101, 119]⟩ v (envL m) W h (by rw [envL_len]; omega) (by omega)
      have eR : setR (nmD k) ⟨#[110, 101, 119]⟩ (envL m) = setL (nmD k) ⟨#[110, 101, 119]⟩ (envL m) := by unfold setR; rw [if_pos e1]
      rw [e1, eR] at hS
      have hlen : (setL (nmD k) ⟨#[110, 101, 119]⟩ (envL m)).length = m := by rw [len_set, getB_env, decide_eq_true hkm, if_pos rfl, envL_len]; rfl
      have hgv : ∀ i, i < m → getV (nmD i) (setL (nmD k) ⟨#[110, 101, 119]⟩ (envL m)) = (if i = k then ⟨#[110, 101, 119]⟩ else itoaS (i * i)) ∧ getB (nmD i) (setL (nmD k) ⟨#[110, 101, 119]⟩ (envL m)) = true := by
        intro i hi
        rw [getV_set, getB_set, nmD_eq, getB_env, getV_env i m hi, decide_eq_true hi]
        refine ⟨?_, by simp⟩
        by_cases h : i = k
        · rw [if_pos h, if_pos (by simp [h])]
        · rw [if_neg h, if_neg (by simp; omega)]
      obtain ⟨R, hR⟩ : ∃ R, setL (nmD k) ⟨#[110, 101, 119]⟩ (envL m) = R := ⟨_, rfl⟩
      rw [hR] at hS hlen hgv
      have HS : Hid (∀ (W : World) (v : Value), RwAt W v (envL m) → Calls Tryd.prog 12 #[.string (⟨#[118]⟩ ++ itoaS k), .string ⟨#[110, 101, 119]⟩, v] W (SetPost W 0 R)) := hide hS
      obtain ⟨s, hs⟩ : ∃ s, itoaS k = s := ⟨_, rfl⟩
      rw [hs] at HDG HS hzs
      have hv1 : ((⟨#[118]⟩ : ByteArray)).size = 1 := rfl
      have HGV := hide hgv
      have HLEN := hide hlen
      clear hs hS hR e1 eR hgv hlen hm hlt hzn
      go_wp2_with fail
      refine HDG.out.mono ?_
      rintro e w2 ⟨rfl, hb2⟩
      have R2 := rwat_below HR.out hb2
      have hb2 := bl_trans HB.out hb2
      go_wp2_with fail
      refine (HS.out _ _ R2).mono ?_
      rintro e w3 ⟨v3, rfl, hb3, ho3⟩
      have HR3 := hide (own_rwat ho3)
      rw [HLEN.out] at ho3
      obtain ⟨aX, cX, rfl⟩ := own_slice ho3
      have HB3 := hide (bl_trans hb2 hb3)
      clear ho3 R2 hb2 hb3 HS HDG
      go_wp2
      clear hzs hv1
      go_loopw [13] (fun i wr => ∃ i' : Nat, i = .int .i64 i' ∧ i' ≤ m ∧ Hid (Below w3.heap.size w3 wr)) (fun i _ => m - (intOf i).toNat)
      case atStart => exact ⟨0, rfl, Nat.zero_le _, hide (bl_refl w3)⟩
      case round =>
        obtain ⟨i, rfl, hi, HB4⟩ := hrel
        by_cases hlt : i < m
        · have gi : decide ((i : Int) < (m : Int)) = true := decide_eq_true (by omega)
          have gi' : decide (i < m) = true := decide_eq_true hlt
          obtain ⟨k1, k2⟩ := HGV.out i hlt
          have hzs := itoa_size i (by omega)
          have HDG := hide (fun W => digits_any i (by omega) W)
          by_cases hik : i = k
          · rw [if_pos hik] at k1
            have HG : Hid (∀ (W : World) (v : Value), RwAt W v R → Calls Tryd.prog 15 #[.string (⟨#[118]⟩ ++ itoaS i), v] W fun e w' => e = .returned (.tuple #[.string ⟨#[110, 101, 119]⟩, .bool true]) ∧ Below W.heap.size W w') := hide (fun W v h => get_any v R (nmD i) _ true W h (by rw [HLEN.out]; omega) k1 k2)
            have g1 : ((i : Int) != (k : Int)) = false := by rw [hik]; simp
            have g2 : ((i : Int) == (k : Int)) = true := by rw [hik]; simp
            obtain ⟨s, hs⟩ : ∃ s, itoaS i = s := ⟨_, rfl⟩
            rw [hs] at HDG HG hzs
            have hv1 : ((⟨#[118]⟩ : ByteArray)).size = 1 := rfl
            clear hs k1 k2 hik
            go_wp2_with fail
            refine (HDG.out _).mono ?_
            rintro e w5 ⟨rfl, hb5⟩
            have hb5 := bl_trans HB4.out hb5
            go_wp2_with fail
            refine (HG.out _ _ (rwat_below HR3.out hb5)).mono ?_
            rintro e w6 ⟨rfl, hb6⟩
            have HB6 := hide (bl_trans hb5 hb6)
            clear hb5 hb6 HG HDG
            go_wp2
            refine ⟨?_, by first | (simp [intOf]; done) | (simp [intOf]; omega)⟩
            exact ⟨i + 1, by go_num, by omega, HB6⟩
          · rw [if_neg hik] at k1
            have hi66 : i * i ≤ 66 * 66 := Nat.mul_le_mul (by omega) (by omega)
            have HG : Hid (∀ (W : World) (v : Value), RwAt W v R → Calls Tryd.prog 15 #[.string (⟨#[118]⟩ ++ itoaS i), v] W fun e w' => e = .returned (.tuple #[.string (itoaS (i * i)), .bool true]) ∧ Below W.heap.size W w') := hide (fun W v h => get_any v R (nmD i) _ true W h (by rw [HLEN.out]; omega) k1 k2)
            have HDJ := hide (fun W => digits_any (i * i) (by omega) W)
            have g1 : ((i : Int) != (k : Int)) = true := by simp; omega
            have g2 : ((i : Int) == (k : Int)) = false := by simp; omega
            have m1 : (i : Int) * (i : Int) = ((i * i : Nat) : Int) := by simp
            have m2 : IntKind.i64.wrap ((i * i : Nat) : Int) = ((i * i : Nat) : Int) := by rw [IntKind.wrap_i64]; omega
            obtain ⟨jj, hjj⟩ : ∃ jj, i * i = jj := ⟨_, rfl⟩
            rw [hjj] at HDJ m1 m2 HG
            obtain ⟨s, hs⟩ : ∃ s, itoaS i = s := ⟨_, rfl⟩
            rw [hs] at HDG HG hzs
            obtain ⟨q, hq⟩ : ∃ s, itoaS jj = s := ⟨_, rfl⟩
            rw [hq] at HDJ HG
            have g3 : (q.toList == q.toList) = true := beq_self_eq_true _
            have g4 : (q.toList != q.toList) = false := by rw [bne, g3]; rfl
            have hv1 : ((⟨#[118]⟩ : ByteArray)).size = 1 := rfl
            clear hs k1 k2 hik hq hjj hi66
            go_wp2_with fail
            refine (HDG.out _).mono ?_
            rintro e w5 ⟨rfl, hb5⟩
            have hb5 := bl_trans HB4.out hb5
            go_wp2_with fail
            refine (HG.out _ _ (rwat_below HR3.out hb5)).mono ?_
            rintro e w6 ⟨rfl, hb6⟩
            have hb6 := bl_trans hb5 hb6
            go_wp2_with fail
            refine (HDJ.out _).mono ?_
            rintro e w7 ⟨rfl, hb7⟩
            have HB6 := hide (bl_trans hb6 hb7)
            clear hb5 hb6 hb7 HG HDG HDJ
            go_wp2
            refine ⟨?_, by first | (simp [intOf]; done) | (simp [intOf]; omega)⟩
            exact ⟨i + 1, by go_num, by omega, HB6⟩
        · obtain rfl : i = m := by omega
          have gi : decide ((i : Int) < (i : Int)) = false := by simp
          have gi' : decide (i < i) = false := by simp
          have HB5 := hide (bl_trans HB3.out HB4.out)
          clear HB3 HB4 HGV HLEN hlt
          go_wp2_with fail
          refine (awake23_any _).mono ?_
          rintro e w9 ⟨rfl, hb9⟩
          go_wp2
          go_ret
          exact ⟨rfl, bl_trans HB5.out hb9⟩

set_option maxRecDepth 100000 in
theorem lifted (os : Os) (started : os.Started) (H : Type) (enc : TypeId × Value → H) :
    ReturnsInHanded {} Tryd.checked os 4 .any (fun w args => (Rows.varsManySpec.pre enc Tryd.prog Tryd.f4 Rows.varsManyRow.domain false w args ∧ laidMetH Tryd.prog Rows.varsManyRow.laid w) ∧ sizedMet enc Tryd.prog Tryd.f4 (OpenSpec.ofChange Rows.varsManySpec) false w args) (Rows.varsManySpec.post enc Tryd.prog Tryd.f4 false true false false) := by
  refine returnsInHanded_of_change_and (C := Tryd.checked) (X := fun w _ => laidMetH Tryd.prog Rows.varsManyRow.laid w) (fun _ _ _ hh h => h.of_heap hh) own started (by kernel_rfl) Tryd.func4
    (ChangeSpec.witness_shaped (enc := enc) (C := Tryd.checked) (os := os) (X := fun w _ => laidMetH Tryd.prog Rows.varsManyRow.laid w) false (World.laidAll Tryd.prog os Rows.varsManyRow.laid) #[.int .i64 0, .int .i64 0] 8 (World.laidAll_os _ _ _)
      (World.shaped_of_ZipB (by kernel_rfl) (by kernel_rfl)) (by kernel_rfl) (by kernel_rfl) (by kernel_rfl)
      (by rw [MakeChecks.laidMetH_plain _ _ _ (by kernel_rfl)]; exact laidMet_laidAll _ (by kernel_rfl) (by kernel_rfl))) ?_
  intro W base args ds gs before hval0 hW hcnd _ hL _
  have hval : ∀ (j : Nat) t v, Tryd.f4.params[j]? = some t → args[j]? = some v → Value.okWide Tryd.prog W .any base t v := hval0
  have hW' := hW
  obtain ⟨p, q, hA0, hV, rfl, hfz, hnd⟩ := hW
  have hA : DataW.TrodAll enc Tryd.prog W 0 (fun _ => true) true Tryd.f4.params.toList args.toList ds p := hA0
  rw [Tryd.params4] at hA hval
  obtain ⟨v0, vs0, d0, ds0, p0, q0, hargs, rfl, rfl, h0, r0⟩ := trodAll_cons hA
  obtain ⟨v1, vs1, d1, ds1, p1, q1, rfl, rfl, rfl, h1, r1⟩ := trodAll_cons r0
  obtain ⟨rfl, rfl, rfl⟩ := trodAll_nil r1
  obtain rfl : args = #[v0, v1] := by cases args; simp_all
  obtain ⟨rfl, rfl⟩ := trodVars_none hV
  have k0 := h0
  have lt0 : ∀ x ∈ p0, x.block < W.heap.size := by obtain ⟨m, hm⟩ := k0; exact DataW.trod_lt m _ _ _ hm
  obtain ⟨a0, rfl, hd0, hp0, w0⟩ := open_int Tryd.underlying3 (hval 0 3 v0 rfl rfl) h0
  have k1 := h1
  have lt1 : ∀ x ∈ p1, x.block < W.heap.size := by obtain ⟨m, hm⟩ := k1; exact DataW.trod_lt m _ _ _ hm
  obtain ⟨a1, rfl, hd1, hp1, w1⟩ := open_int Tryd.underlying3 (hval 1 3 v1 rfl rfl) h1
  clear hA0 hval0
  refine (walk a0 a1 W w0 w1).mono fun e W' ⟨he, bel⟩ => ?_
  subst he
  exact ⟨_, rfl, _, _, _, [], _, [], hW', trodAll_mk1 (shut_bool Tryd.underlying4 _), (trodAll_cons_mk (Below.trod laidOut (by kernel_rfl) (of_decide_eq_true (by kernel_rfl)) k0 bel lt0) (trodAll_cons_mk (Below.trod laidOut (by kernel_rfl) (of_decide_eq_true (by kernel_rfl)) k1 bel lt1) trodAll_mk0)), rfl, bel.frame _, fun h => by cases h⟩

theorem over : Rows.varsManyRow.holds Tryd.pinned (OpenSpec.ofChange Rows.varsManySpec) :=
  OpenClaim.holds_of_wide 4 Tryd.f4 rfl rfl rfl rfl rfl rfl rfl ⟨rfl, rfl, rfl, rfl, rfl⟩ rfl rfl rfl rfl rfl (by kernel_rfl) Tryd.func4 (by kernel_rfl)
    (of_decide_eq_true (by kernel_rfl)) (by unfold Func.isWrapper; first | (rw [if_pos (by decide +kernel)]; kernel_rfl) | (rw [if_neg (by decide +kernel)]; exact ⟨rfl, rfl⟩))
    (fun os started H enc _ => lifted os started H enc)

set_option maxRecDepth 100000 in
theorem proved : Rows.VarsManyCardSaid :=
  Claim7.holds_tied_plain_at .later [] [.data, .data, .data] true (true, "ad88b18fa5cecbf30a26213c9b87035bcf4c1f531589068041e55abbb04c666c") false
    over (fun _ h => by cases h) (by kernel_rfl) (fun _ h => by cases h) varsMany_row_tie rfl ⟨rfl, rfl⟩ (by kernel_rfl) rfl
    (fun f fn hf hfn => by
      obtain rfl : f = 4 := Option.some.inj ((show Tryd.prog.funcNamed "gimlet/gimletlaw23.VarsMany" = some 4 by kernel_rfl).symm.trans hf) |>.symm
      obtain rfl : fn = Tryd.f4 := (Option.some.inj (Tryd.func4.symm.trans hfn)).symm
      refine ⟨by kernel_rfl, fun j t ht => ?_⟩
      rw [Tryd.params4] at ht
      have hm := Array.mem_of_getElem? ht
      simp at hm
      rcases hm with rfl
      all_goals first | exact (show Tryd.prog.wantsStandIn 3 = false by kernel_rfl))
    (by kernel_rfl)
end Go.Proofs.YtmjadcjpgcbalaaDoor.varsMany
