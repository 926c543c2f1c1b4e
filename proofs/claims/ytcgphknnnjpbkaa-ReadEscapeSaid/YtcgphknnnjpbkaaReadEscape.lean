/- What a byte behind a backslash is: one of the four bounds and classes, a sign by its letter, itself, or an error. Conditions: none beyond the form's own. -/
import Derived.Test.YtcgphknnnjpbkaaRows
import Derived.Test.YtcgphknnnjpbkaaArgs
import Derived.Test.YtcgphknnnjpbkaaPbB
namespace Go.Proofs.Ytcgphknnnjpbkaa.readEscape
open Go.Proofs.Ytcgphknnnjpbkaa
open Go.ChangeShapes Go.WideShapes Go.ChangeAt Go.RowKit Go.Deep
open Go.ChangeMaps (open_string shut_string)
set_option linter.unusedVariables false

theorem own : ownKnob Try.prog.godebug = none := by kernel_rfl
theorem laidOut : laidOutB Try.prog = true := by kernel_rfl
-- opt: 16000000
open SetM
attribute [local go_sem ↓] Go.wp_at_zero Go.wp_at_succ
attribute [local go_sem] later_cell later_frozen
theorem rlet_m (n : Int) (h0 : 0 ≤ n) (h1 : n < 256) (w : World) : Calls Try.prog 24 #[.int .u8 n] w fun e w' => e = .returned (.bool (letZ n)) ∧ w = w' := by
  unfold letZ uppZ lowZ
  rcases hb1 : decide (65 ≤ n) with _ | _ <;> rcases hb2 : decide (n ≤ 90) with _ | _ <;> rcases hb3 : decide (97 ≤ n) with _ | _ <;> rcases hb4 : decide (n ≤ 122) with _ | _
  all_goals
    go_enter Try.func24, Try.ntmps24
    go_wp2
    go_ret
    exact ⟨rfl, rfl⟩
theorem rdig_m (n : Int) (h0 : 0 ≤ n) (h1 : n < 256) (w : World) : Calls Try.prog 25 #[.int .u8 n] w fun e w' => e = .returned (.bool (digZ n)) ∧ w = w' := by
  unfold digZ
  rcases hb1 : decide (48 ≤ n) with _ | _ <;> rcases hb2 : decide (n ≤ 57) with _ | _
  all_goals
    go_enter Try.func25, Try.ntmps25
    go_wp2
    go_ret
    exact ⟨rfl, rfl⟩
theorem conv1 (c : UInt8) (n : Int) (B : Nat) (W : World) (hn : (c.toNat : Int) = n) (h : W.cell? ⟨B, 0, none⟩ = some (.int .u8 n)) :
    (convert 38 9 (.slice (some ⟨B, 0, none⟩) 1 1)).run Try.prog W = .ok (.string ⟨#[c]⟩) W := by
  subst hn
  have h1 := Go.run_convert_bytes_back W 38 9 5 ⟨B, 0, none⟩ 1 [c] Try.underlying38 Try.underlying5 Try.underlying9 (fun j hj => by
    have : j = 0 := by simpa using hj
    subst this
    rw [addr_add]; exact h)
  exact h1
theorem bs_hd {c : UInt8} (h : contB c = false) : hdC [c] = [c] ∧ tlC [c] = [] := hd1 (y := c) (u := []) rfl
/-- What stands behind a backslash alone. -/
theorem readP_bs {c : UInt8} (h : contB c = false) (x : Rt) (hb : bakP [c] = .ok x []) (hx : er x = x) (hk0 : x.k ≠ 0) (hk1 : x.k ≠ 1) : readP [92, c] = .ok x [] := by
  obtain ⟨a1, a2⟩ := hd1 (y := 92) (u := [c]) h
  have hE : endB [92, c] = false := by unfold endB; rw [a1]; rfl
  have ha : atomP false (patP 16) [92, c] = .ok x [] := by
    unfold atomP
    rw [a1, a2, if_neg (by decide), if_neg (by decide), if_neg (by decide), if_pos (by decide), hb]
  have ht : termP false (patP 16) [92, c] = .ok x [] := by
    unfold termP
    rw [a1, if_neg (by decide), if_neg (by decide), ha]
    simp only
    split
    · rfl
    · rfl
  exact readP_to (by simp) rfl (one_term (deep := false) (pat := patP 16) (fun _ => pat_gd 15) hE ht rfl rfl hk0 hk1 hx)
theorem readP_be {c : UInt8} (h : contB c = false) (hb : bakP [c] = .err 10) : readP [92, c] = .err 10 := by
  obtain ⟨a1, a2⟩ := hd1 (y := 92) (u := [c]) h
  have hE : endB [92, c] = false := by unfold endB; rw [a1]; rfl
  have ha : atomP false (patP 16) [92, c] = .err 10 := by
    unfold atomP
    rw [a1, a2, if_neg (by decide), if_neg (by decide), if_neg (by decide), if_pos (by decide), hb]
  have ht : termP false (patP 16) [92, c] = .err 10 := by
    unfold termP
    rw [a1, if_neg (by decide), if_neg (by decide), ha]
  exact readP_er (by simp) rfl (one_err (deep := false) (pat := patP 16) hE ht)
theorem bak_gen {c : UInt8} (h : contB c = false) (hn : ∀ y ∈ ([98, 66, 100, 119, 115, 68, 87, 83, 110, 114, 116, 102, 118] : List UInt8), c ≠ y) : bakP [c] = if (letZ c.toNat || digZ c.toNat) = true then .err 10 else .ok (chX ⟨#[c]⟩) [] := by
  obtain ⟨a1, a2⟩ := hd1 (y := c) (u := []) rfl
  have e : ∀ y : UInt8, y ∈ ([98, 66, 100, 119, 115, 68, 87, 83, 110, 114, 116, 102, 118] : List UInt8) → (([c] : List UInt8) == [y]) = false := fun y hy => by
    rw [beq_eq_false_iff_ne]
    intro q
    injection q with q
    exact hn y hy q
  have hd : (bsC [c]).data.toList = [c] := bsC_data _
  unfold bakP
  rw [a1, a2, e 98 (by simp), e 66 (by simp), e 100 (by simp), e 119 (by simp), e 115 (by simp), e 68 (by simp), e 87 (by simp), e 83 (by simp)]
  have he : escP (bsC [c]) = if (letZ c.toNat || digZ c.toNat) = true then none else some (bsC [c]) := by
    unfold escP
    rw [hd, e 110 (by simp), e 114 (by simp), e 116 (by simp), e 102 (by simp), e 118 (by simp)]
    rw [show escNo (bsC [c]) = (letZ c.toNat || digZ c.toNat) by unfold escNo; rw [hd]]
    rfl
  rw [he]
  by_cases hl : (letZ c.toNat || digZ c.toNat) = true
  · rw [if_pos hl, if_pos hl]; rfl
  · rw [if_neg hl, if_neg hl]; rfl
set_option maxRecDepth 100000 in
set_option maxHeartbeats 16000000 in
theorem walk (a0 : Int) (w : World) (w0 : (Lit.int .u8 a0).wf = true) :
    Calls Try.prog 8 #[.int .u8 a0] w fun e w' => e = .returned (.bool true) ∧ Below w.heap.size w w' := by
  have hr0 : 0 ≤ a0 ∧ a0 ≤ 255 := by simp [Lit.wf, IntKind.min, IntKind.max, IntKind.signed, IntKind.bits] at w0; omega
  by_cases h1 : 128 ≤ a0
  case pos =>
    have g1 : decide (128 ≤ a0) = true := decide_eq_true h1
    go_enter Try.func8, Try.ntmps8
    go_wp2_with fail
    refine (awake14_any _).mono ?_
    rintro e w1 ⟨rfl, hb1⟩
    go_wp2
    go_ret
    exact ⟨rfl, hb1⟩
  by_cases q98 : a0 = 98
  case pos =>
    subst q98
    have hrd : readP ((⟨#[92]⟩ : ByteArray) ++ ⟨#[98]⟩).data.toList = .ok (kdX 10 []) [] := readP_bs (c := 98) (by decide) (kdX 10 []) rfl rfl (by decide) (by decide)
    have k1 : ∀ (B : Nat) (W : World), W.cell? ⟨B, 0, none⟩ = some (.int .u8 98) → (convert 38 9 (.slice (some ⟨B, 0, none⟩) 1 1)).run Try.prog W = .ok (.string ⟨#[98]⟩) W := fun B W h => conv1 _ _ B W (by decide) h
    have k3 : bits BinOp.or IntKind.u8 98 32 = 98 := by decide
    have HRD := hide (fun W => read_any _ (by rw [ByteArray.size_append]; show 1 + 1 ≤ _; decide) W _ hrd)
    unfold RdPost at HRD
    clear hrd w0 hr0
    go_enter Try.func8, Try.ntmps8
    go_wp2_with fail
    refine (HRD.out _).mono ?_
    rintro e w1 ⟨t, rfl, hb1, hrx, -, her⟩
    obtain ⟨tA, ta, tB, tb, hrv, hkv, hv⟩ := rx_vv hrx
    rw [hv]
    have HRX := hide hrx
    have HER := hide her
    have HVV := hide hv
    have HB1 := hide (bl_trans (bl_alloc (bl_refl w) _) hb1)
    have HR := hide hrv
    have HK := hide hkv
    clear hb1 hrx her hrv hkv hv
    have HSM := hide (fun (W : World) (hb : Below w1.heap.size w1 W) => (show Calls Try.prog 15 #[.agg #[.int .i64 t.k, .string t.ch, .bool t.nt, .slice tA t.rows.length ta, .int .i64 t.mi, .int .i64 t.ma, .bool t.lz, .slice tB t.kids.length tb], .agg #[.int .i64 10, .string ⟨#[]⟩, .bool false, .slice none 0 0, .int .i64 0, .int .i64 0, .bool false, .slice none 0 0]] W (fun e w' => e = .returned (.bool true) ∧ Below W.heap.size W w') from by
      have hh := same_any (rx_below HRX.out hb) (rx_leaf W (kdX 10 []) rfl rfl rfl rfl) W (bl_refl W)
      rw [sameM_of (HER.out.trans rfl), HVV.out] at hh
      exact hh))
    go_wp2_with fail
    refine (HSM.out _ (by repeat (first | exact bl_refl _ | refine bl_alloc ?_ _ | refine bl_set ?_ (by first | (simp; done) | (simp; omega)) _))).mono ?_
    rintro e w5 ⟨rfl, hb5⟩
    have HB5 := hide (bl_trans HB1.out (bl_trans (by repeat (first | exact bl_refl _ | refine bl_alloc ?_ _ | refine bl_set ?_ (by first | (simp; done) | (simp; omega)) _)) hb5))
    clear hb5
    go_wp2_with fail
    refine (awake14_any _).mono ?_
    rintro e w6 ⟨rfl, hb6⟩
    have HB6 := hide (bl_trans HB5.out hb6)
    clear hb6
    go_wp2
    go_ret
    exact ⟨rfl, HB6.out⟩
  by_cases q66 : a0 = 66
  case pos =>
    subst q66
    have hrd : readP ((⟨#[92]⟩ : ByteArray) ++ ⟨#[66]⟩).data.toList = .ok (kdX 11 []) [] := readP_bs (c := 66) (by decide) (kdX 11 []) rfl rfl (by decide) (by decide)
    have k1 : ∀ (B : Nat) (W : World), W.cell? ⟨B, 0, none⟩ = some (.int .u8 66) → (convert 38 9 (.slice (some ⟨B, 0, none⟩) 1 1)).run Try.prog W = .ok (.string ⟨#[66]⟩) W := fun B W h => conv1 _ _ B W (by decide) h
    have k2 : ∀ (B : Nat) (W : World), W.cell? ⟨B, 0, none⟩ = some (.int .u8 98) → (convert 38 9 (.slice (some ⟨B, 0, none⟩) 1 1)).run Try.prog W = .ok (.string ⟨#[98]⟩) W := fun B W h => conv1 _ _ B W (by decide) h
    have k3 : bits BinOp.or IntKind.u8 66 32 = 98 := by decide
    have HRD := hide (fun W => read_any _ (by rw [ByteArray.size_append]; show 1 + 1 ≤ _; decide) W _ hrd)
    unfold RdPost at HRD
    clear hrd w0 hr0
    go_enter Try.func8, Try.ntmps8
    go_wp2_with fail
    refine (HRD.out _).mono ?_
    rintro e w1 ⟨t, rfl, hb1, hrx, -, her⟩
    obtain ⟨tA, ta, tB, tb, hrv, hkv, hv⟩ := rx_vv hrx
    rw [hv]
    have HRX := hide hrx
    have HER := hide her
    have HVV := hide hv
    have HB1 := hide (bl_trans (bl_alloc (bl_refl w) _) hb1)
    have HR := hide hrv
    have HK := hide hkv
    clear hb1 hrx her hrv hkv hv
    have HSM := hide (fun (W : World) (hb : Below w1.heap.size w1 W) => (show Calls Try.prog 15 #[.agg #[.int .i64 t.k, .string t.ch, .bool t.nt, .slice tA t.rows.length ta, .int .i64 t.mi, .int .i64 t.ma, .bool t.lz, .slice tB t.kids.length tb], .agg #[.int .i64 11, .string ⟨#[]⟩, .bool false, .slice none 0 0, .int .i64 0, .int .i64 0, .bool false, .slice none 0 0]] W (fun e w' => e = .returned (.bool true) ∧ Below W.heap.size W w') from by
      have hh := same_any (rx_below HRX.out hb) (rx_leaf W (kdX 11 []) rfl rfl rfl rfl) W (bl_refl W)
      rw [sameM_of (HER.out.trans rfl), HVV.out] at hh
      exact hh))
    go_wp2_with fail
    refine (HSM.out _ (by repeat (first | exact bl_refl _ | refine bl_alloc ?_ _ | refine bl_set ?_ (by first | (simp; done) | (simp; omega)) _))).mono ?_
    rintro e w5 ⟨rfl, hb5⟩
    have HB5 := hide (bl_trans HB1.out (bl_trans (by repeat (first | exact bl_refl _ | refine bl_alloc ?_ _ | refine bl_set ?_ (by first | (simp; done) | (simp; omega)) _)) hb5))
    clear hb5
    go_wp2_with fail
    refine (awake14_any _).mono ?_
    rintro e w6 ⟨rfl, hb6⟩
    have HB6 := hide (bl_trans HB5.out hb6)
    clear hb6
    go_wp2
    go_ret
    exact ⟨rfl, HB6.out⟩
  by_cases q100 : a0 = 100
  case pos =>
    subst q100
    have hrd : readP ((⟨#[92]⟩ : ByteArray) ++ ⟨#[100]⟩).data.toList = .ok (setX false rD) [] := readP_bs (c := 100) (by decide) (setX false rD) rfl rfl (by decide) (by decide)
    have k1 : ∀ (B : Nat) (W : World), W.cell? ⟨B, 0, none⟩ = some (.int .u8 100) → (convert 38 9 (.slice (some ⟨B, 0, none⟩) 1 1)).run Try.prog W = .ok (.string ⟨#[100]⟩) W := fun B W h => conv1 _ _ B W (by decide) h
    have k3 : bits BinOp.or IntKind.u8 100 32 = 100 := by decide
    have HRD := hide (fun W => read_any _ (by rw [ByteArray.size_append]; show 1 + 1 ≤ _; decide) W _ hrd)
    unfold RdPost at HRD
    clear hrd w0 hr0
    have hnm := fun W => namf_any 100 W
    rw [show namR 100 = rD from rfl, show namB 100 = true from rfl] at hnm
    unfold NmfPost at hnm
    have HNM := hide hnm
    clear hnm
    go_enter Try.func8, Try.ntmps8
    go_wp2_with fail
    refine (HRD.out _).mono ?_
    rintro e w1 ⟨t, rfl, hb1, hrx, -, her⟩
    obtain ⟨tA, ta, tB, tb, hrv, hkv, hv⟩ := rx_vv hrx
    rw [hv]
    have HRX := hide hrx
    have HER := hide her
    have HVV := hide hv
    have HB1 := hide (bl_trans (bl_alloc (bl_refl w) _) hb1)
    have HR := hide hrv
    have HK := hide hkv
    clear hb1 hrx her hrv hkv hv
    go_wp2_with fail
    refine (HNM.out _).mono ?_
    rintro e w2 ⟨v, rfl, hb2, hrw, hfv⟩
    have hb12 : Below w1.heap.size w1 w2 := bl_trans (by repeat (first | exact bl_refl _ | refine bl_alloc ?_ _ | refine bl_set ?_ (by first | (simp; done) | (simp; omega)) _)) hb2
    obtain ⟨vA, vc, rfl⟩ := rwat_len hrw
    have hcx : CxAt w2 w1.heap.size t := cx_below (cx_new w1 t HR.out HK.out) (bl_trans (by repeat (first | exact bl_refl _ | refine bl_alloc ?_ _ | refine bl_set ?_ (by first | (simp; done) | (simp; omega)) _)) hb2)
    obtain ⟨c0, c1, c2, c3, c4, c5, c6, c7⟩ := cx_8 hcx HR.out HK.out
    have d0 : ∀ (j : Nat) (u : Value), ([.int .i64 2, .string ⟨#[100]⟩, .bool false, .slice none 0 0, .int .i64 0, .int .i64 0, .bool false, .slice none 0 0] : List Value)[j]? = some u → w2.cell? ⟨w1.heap.size + 1 + 1, j, none⟩ = some u := fun j u hu => cell_later hb2 (by
      refine alloc_blk ?_
      exact ks_alloc (T := 26) (cs := [.int .i64 2, .string ⟨#[100]⟩, .bool false, .slice none 0 0, .int .i64 0, .int .i64 0, .bool false, .slice none 0 0]) (by simp) j u hu)
    have e0 := d0 0 _ rfl
    have e1 := d0 1 _ rfl
    have e2 := d0 2 _ rfl
    have e3 := d0 3 _ rfl
    have e4 := d0 4 _ rfl
    have e5 := d0 5 _ rfl
    have e6 := d0 6 _ rfl
    have e7 := d0 7 _ rfl
    have ef : ∀ o, w2.frozen? ⟨w1.heap.size + 1 + 1, o, none⟩ = false := fun o => (hb2.frozen (p := ⟨w1.heap.size + 1 + 1, o, none⟩) (by first | (simp; done) | (simp; omega))).trans (by go_simp)
    have hs2 : w1.heap.size + 1 + 1 < w2.heap.size := World.block_lt_of_cell? _ _ e0
    have hs1 : w1.heap.size < w2.heap.size := World.block_lt_of_cell? _ _ c0
    have hn12 : w1.heap.size ≠ w1.heap.size + 1 + 1 := by omega
    have HSM := hide (fun (W : World) (hb : Below w1.heap.size w1 W) (hk : Kept (w1.heap.size + 1 + 1 + 1) w2 W) => (show Calls Try.prog 15 #[.agg #[.int .i64 t.k, .string t.ch, .bool t.nt, .slice tA t.rows.length ta, .int .i64 t.mi, .int .i64 t.ma, .bool t.lz, .slice tB t.kids.length tb], .agg #[.int .i64 4, .string ⟨#[]⟩, .bool false, .slice vA rD.length vc, .int .i64 0, .int .i64 0, .bool false, .slice none 0 0]] W (fun e w' => e = .returned (.bool true) ∧ Below W.heap.size W w') from by
      have hwt : RxAt W (.mk 4 ⟨#[]⟩ false (.slice vA rD.length vc) rD 0 0 false (.slice none 0 0) []) := .mk _ (rwat_kept hrw (hfv.mono (by simp)) hk) (.inl ⟨rfl, rfl⟩) (fun i hi => absurd hi (Nat.not_lt_zero _))
      have hh := same_any (rx_below HRX.out hb) hwt W (bl_refl W)
      rw [sameM_of (HER.out.trans (by rw [er_eq]; rfl)), HVV.out] at hh
      exact hh))
    have HB12 := hide hb12
    clear hb2 hrw hfv hcx d0 hb12
    go_wp2_with fail
    refine (HSM.out _ (bl8 HB12.out (by omega) _ _ _ _ _ _ _ _ _ _ _ _ _ _ _ _) (kept8 _ (Nat.lt_succ_self _) _ _ _ _ _ _ _ _ _ _ _ _ _ _ _ _)).mono ?_
    rintro e w5 ⟨rfl, hb5⟩
    have HB5 := hide (bl_trans HB1.out (bl_trans (bl8 HB12.out (by omega) _ _ _ _ _ _ _ _ _ _ _ _ _ _ _ _) hb5))
    clear hb5
    go_wp2_with fail
    refine (awake14_any _).mono ?_
    rintro e w6 ⟨rfl, hb6⟩
    have HB6 := hide (bl_trans HB5.out hb6)
    clear hb6
    go_wp2
    go_ret
    exact ⟨rfl, HB6.out⟩
  by_cases q119 : a0 = 119
  case pos =>
    subst q119
    have hrd : readP ((⟨#[92]⟩ : ByteArray) ++ ⟨#[119]⟩).data.toList = .ok (setX false rW) [] := readP_bs (c := 119) (by decide) (setX false rW) rfl rfl (by decide) (by decide)
    have k1 : ∀ (B : Nat) (W : World), W.cell? ⟨B, 0, none⟩ = some (.int .u8 119) → (convert 38 9 (.slice (some ⟨B, 0, none⟩) 1 1)).run Try.prog W = .ok (.string ⟨#[119]⟩) W := fun B W h => conv1 _ _ B W (by decide) h
    have k3 : bits BinOp.or IntKind.u8 119 32 = 119 := by decide
    have HRD := hide (fun W => read_any _ (by rw [ByteArray.size_append]; show 1 + 1 ≤ _; decide) W _ hrd)
    unfold RdPost at HRD
    clear hrd w0 hr0
    have hnm := fun W => namf_any 119 W
    rw [show namR 119 = rW from rfl, show namB 119 = true from rfl] at hnm
    unfold NmfPost at hnm
    have HNM := hide hnm
    clear hnm
    go_enter Try.func8, Try.ntmps8
    go_wp2_with fail
    refine (HRD.out _).mono ?_
    rintro e w1 ⟨t, rfl, hb1, hrx, -, her⟩
    obtain ⟨tA, ta, tB, tb, hrv, hkv, hv⟩ := rx_vv hrx
    rw [hv]
    have HRX := hide hrx
    have HER := hide her
    have HVV := hide hv
    have HB1 := hide (bl_trans (bl_alloc (bl_refl w) _) hb1)
    have HR := hide hrv
    have HK := hide hkv
    clear hb1 hrx her hrv hkv hv
    go_wp2_with fail
    refine (HNM.out _).mono ?_
    rintro e w2 ⟨v, rfl, hb2, hrw, hfv⟩
    have hb12 : Below w1.heap.size w1 w2 := bl_trans (by repeat (first | exact bl_refl _ | refine bl_alloc ?_ _ | refine bl_set ?_ (by first | (simp; done) | (simp; omega)) _)) hb2
    obtain ⟨vA, vc, rfl⟩ := rwat_len hrw
    have hcx : CxAt w2 w1.heap.size t := cx_below (cx_new w1 t HR.out HK.out) (bl_trans (by repeat (first | exact bl_refl _ | refine bl_alloc ?_ _ | refine bl_set ?_ (by first | (simp; done) | (simp; omega)) _)) hb2)
    obtain ⟨c0, c1, c2, c3, c4, c5, c6, c7⟩ := cx_8 hcx HR.out HK.out
    have d0 : ∀ (j : Nat) (u : Value), ([.int .i64 2, .string ⟨#[119]⟩, .bool false, .slice none 0 0, .int .i64 0, .int .i64 0, .bool false, .slice none 0 0] : List Value)[j]? = some u → w2.cell? ⟨w1.heap.size + 1 + 1, j, none⟩ = some u := fun j u hu => cell_later hb2 (by
      refine alloc_blk ?_
      exact ks_alloc (T := 26) (cs := [.int .i64 2, .string ⟨#[119]⟩, .bool false, .slice none 0 0, .int .i64 0, .int .i64 0, .bool false, .slice none 0 0]) (by simp) j u hu)
    have e0 := d0 0 _ rfl
    have e1 := d0 1 _ rfl
    have e2 := d0 2 _ rfl
    have e3 := d0 3 _ rfl
    have e4 := d0 4 _ rfl
    have e5 := d0 5 _ rfl
    have e6 := d0 6 _ rfl
    have e7 := d0 7 _ rfl
    have ef : ∀ o, w2.frozen? ⟨w1.heap.size + 1 + 1, o, none⟩ = false := fun o => (hb2.frozen (p := ⟨w1.heap.size + 1 + 1, o, none⟩) (by first | (simp; done) | (simp; omega))).trans (by go_simp)
    have hs2 : w1.heap.size + 1 + 1 < w2.heap.size := World.block_lt_of_cell? _ _ e0
    have hs1 : w1.heap.size < w2.heap.size := World.block_lt_of_cell? _ _ c0
    have hn12 : w1.heap.size ≠ w1.heap.size + 1 + 1 := by omega
    have HSM := hide (fun (W : World) (hb : Below w1.heap.size w1 W) (hk : Kept (w1.heap.size + 1 + 1 + 1) w2 W) => (show Calls Try.prog 15 #[.agg #[.int .i64 t.k, .string t.ch, .bool t.nt, .slice tA t.rows.length ta, .int .i64 t.mi, .int .i64 t.ma, .bool t.lz, .slice tB t.kids.length tb], .agg #[.int .i64 4, .string ⟨#[]⟩, .bool false, .slice vA rW.length vc, .int .i64 0, .int .i64 0, .bool false, .slice none 0 0]] W (fun e w' => e = .returned (.bool true) ∧ Below W.heap.size W w') from by
      have hwt : RxAt W (.mk 4 ⟨#[]⟩ false (.slice vA rW.length vc) rW 0 0 false (.slice none 0 0) []) := .mk _ (rwat_kept hrw (hfv.mono (by simp)) hk) (.inl ⟨rfl, rfl⟩) (fun i hi => absurd hi (Nat.not_lt_zero _))
      have hh := same_any (rx_below HRX.out hb) hwt W (bl_refl W)
      rw [sameM_of (HER.out.trans (by rw [er_eq]; rfl)), HVV.out] at hh
      exact hh))
    have HB12 := hide hb12
    clear hb2 hrw hfv hcx d0 hb12
    go_wp2_with fail
    refine (HSM.out _ (bl8 HB12.out (by omega) _ _ _ _ _ _ _ _ _ _ _ _ _ _ _ _) (kept8 _ (Nat.lt_succ_self _) _ _ _ _ _ _ _ _ _ _ _ _ _ _ _ _)).mono ?_
    rintro e w5 ⟨rfl, hb5⟩
    have HB5 := hide (bl_trans HB1.out (bl_trans (bl8 HB12.out (by omega) _ _ _ _ _ _ _ _ _ _ _ _ _ _ _ _) hb5))
    clear hb5
    go_wp2_with fail
    refine (awake14_any _).mono ?_
    rintro e w6 ⟨rfl, hb6⟩
    have HB6 := hide (bl_trans HB5.out hb6)
    clear hb6
    go_wp2
    go_ret
    exact ⟨rfl, HB6.out⟩
  by_cases q115 : a0 = 115
  case pos =>
    subst q115
    have hrd : readP ((⟨#[92]⟩ : ByteArray) ++ ⟨#[115]⟩).data.toList = .ok (setX false rS) [] := readP_bs (c := 115) (by decide) (setX false rS) rfl rfl (by decide) (by decide)
    have k1 : ∀ (B : Nat) (W : World), W.cell? ⟨B, 0, none⟩ = some (.int .u8 115) → (convert 38 9 (.slice (some ⟨B, 0, none⟩) 1 1)).run Try.prog W = .ok (.string ⟨#[115]⟩) W := fun B W h => conv1 _ _ B W (by decide) h
    have k3 : bits BinOp.or IntKind.u8 115 32 = 115 := by decide
    have HRD := hide (fun W => read_any _ (by rw [ByteArray.size_append]; show 1 + 1 ≤ _; decide) W _ hrd)
    unfold RdPost at HRD
    clear hrd w0 hr0
    have hnm := fun W => namf_any 115 W
    rw [show namR 115 = rS from rfl, show namB 115 = true from rfl] at hnm
    unfold NmfPost at hnm
    have HNM := hide hnm
    clear hnm
    go_enter Try.func8, Try.ntmps8
    go_wp2_with fail
    refine (HRD.out _).mono ?_
    rintro e w1 ⟨t, rfl, hb1, hrx, -, her⟩
    obtain ⟨tA, ta, tB, tb, hrv, hkv, hv⟩ := rx_vv hrx
    rw [hv]
    have HRX := hide hrx
    have HER := hide her
    have HVV := hide hv
    have HB1 := hide (bl_trans (bl_alloc (bl_refl w) _) hb1)
    have HR := hide hrv
    have HK := hide hkv
    clear hb1 hrx her hrv hkv hv
    go_wp2_with fail
    refine (HNM.out _).mono ?_
    rintro e w2 ⟨v, rfl, hb2, hrw, hfv⟩
    have hb12 : Below w1.heap.size w1 w2 := bl_trans (by repeat (first | exact bl_refl _ | refine bl_alloc ?_ _ | refine bl_set ?_ (by first | (simp; done) | (simp; omega)) _)) hb2
    obtain ⟨vA, vc, rfl⟩ := rwat_len hrw
    have hcx : CxAt w2 w1.heap.size t := cx_below (cx_new w1 t HR.out HK.out) (bl_trans (by repeat (first | exact bl_refl _ | refine bl_alloc ?_ _ | refine bl_set ?_ (by first | (simp; done) | (simp; omega)) _)) hb2)
    obtain ⟨c0, c1, c2, c3, c4, c5, c6, c7⟩ := cx_8 hcx HR.out HK.out
    have d0 : ∀ (j : Nat) (u : Value), ([.int .i64 2, .string ⟨#[115]⟩, .bool false, .slice none 0 0, .int .i64 0, .int .i64 0, .bool false, .slice none 0 0] : List Value)[j]? = some u → w2.cell? ⟨w1.heap.size + 1 + 1, j, none⟩ = some u := fun j u hu => cell_later hb2 (by
      refine alloc_blk ?_
      exact ks_alloc (T := 26) (cs := [.int .i64 2, .string ⟨#[115]⟩, .bool false, .slice none 0 0, .int .i64 0, .int .i64 0, .bool false, .slice none 0 0]) (by simp) j u hu)
    have e0 := d0 0 _ rfl
    have e1 := d0 1 _ rfl
    have e2 := d0 2 _ rfl
    have e3 := d0 3 _ rfl
    have e4 := d0 4 _ rfl
    have e5 := d0 5 _ rfl
    have e6 := d0 6 _ rfl
    have e7 := d0 7 _ rfl
    have ef : ∀ o, w2.frozen? ⟨w1.heap.size + 1 + 1, o, none⟩ = false := fun o => (hb2.frozen (p := ⟨w1.heap.size + 1 + 1, o, none⟩) (by first | (simp; done) | (simp; omega))).trans (by go_simp)
    have hs2 : w1.heap.size + 1 + 1 < w2.heap.size := World.block_lt_of_cell? _ _ e0
    have hs1 : w1.heap.size < w2.heap.size := World.block_lt_of_cell? _ _ c0
    have hn12 : w1.heap.size ≠ w1.heap.size + 1 + 1 := by omega
    have HSM := hide (fun (W : World) (hb : Below w1.heap.size w1 W) (hk : Kept (w1.heap.size + 1 + 1 + 1) w2 W) => (show Calls Try.prog 15 #[.agg #[.int .i64 t.k, .string t.ch, .bool t.nt, .slice tA t.rows.length ta, .int .i64 t.mi, .int .i64 t.ma, .bool t.lz, .slice tB t.kids.length tb], .agg #[.int .i64 4, .string ⟨#[]⟩, .bool false, .slice vA rS.length vc, .int .i64 0, .int .i64 0, .bool false, .slice none 0 0]] W (fun e w' => e = .returned (.bool true) ∧ Below W.heap.size W w') from by
      have hwt : RxAt W (.mk 4 ⟨#[]⟩ false (.slice vA rS.length vc) rS 0 0 false (.slice none 0 0) []) := .mk _ (rwat_kept hrw (hfv.mono (by simp)) hk) (.inl ⟨rfl, rfl⟩) (fun i hi => absurd hi (Nat.not_lt_zero _))
      have hh := same_any (rx_below HRX.out hb) hwt W (bl_refl W)
      rw [sameM_of (HER.out.trans (by rw [er_eq]; rfl)), HVV.out] at hh
      exact hh))
    have HB12 := hide hb12
    clear hb2 hrw hfv hcx d0 hb12
    go_wp2_with fail
    refine (HSM.out _ (bl8 HB12.out (by omega) _ _ _ _ _ _ _ _ _ _ _ _ _ _ _ _) (kept8 _ (Nat.lt_succ_self _) _ _ _ _ _ _ _ _ _ _ _ _ _ _ _ _)).mono ?_
    rintro e w5 ⟨rfl, hb5⟩
    have HB5 := hide (bl_trans HB1.out (bl_trans (bl8 HB12.out (by omega) _ _ _ _ _ _ _ _ _ _ _ _ _ _ _ _) hb5))
    clear hb5
    go_wp2_with fail
    refine (awake14_any _).mono ?_
    rintro e w6 ⟨rfl, hb6⟩
    have HB6 := hide (bl_trans HB5.out hb6)
    clear hb6
    go_wp2
    go_ret
    exact ⟨rfl, HB6.out⟩
  by_cases q68 : a0 = 68
  case pos =>
    subst q68
    have hrd : readP ((⟨#[92]⟩ : ByteArray) ++ ⟨#[68]⟩).data.toList = .ok (setX true rD) [] := readP_bs (c := 68) (by decide) (setX true rD) rfl rfl (by decide) (by decide)
    have k1 : ∀ (B : Nat) (W : World), W.cell? ⟨B, 0, none⟩ = some (.int .u8 68) → (convert 38 9 (.slice (some ⟨B, 0, none⟩) 1 1)).run Try.prog W = .ok (.string ⟨#[68]⟩) W := fun B W h => conv1 _ _ B W (by decide) h
    have k2 : ∀ (B : Nat) (W : World), W.cell? ⟨B, 0, none⟩ = some (.int .u8 100) → (convert 38 9 (.slice (some ⟨B, 0, none⟩) 1 1)).run Try.prog W = .ok (.string ⟨#[100]⟩) W := fun B W h => conv1 _ _ B W (by decide) h
    have k3 : bits BinOp.or IntKind.u8 68 32 = 100 := by decide
    have HRD := hide (fun W => read_any _ (by rw [ByteArray.size_append]; show 1 + 1 ≤ _; decide) W _ hrd)
    unfold RdPost at HRD
    clear hrd w0 hr0
    have hnm := fun W => namf_any 100 W
    rw [show namR 100 = rD from rfl, show namB 100 = true from rfl] at hnm
    unfold NmfPost at hnm
    have HNM := hide hnm
    clear hnm
    go_enter Try.func8, Try.ntmps8
    go_wp2_with fail
    refine (HRD.out _).mono ?_
    rintro e w1 ⟨t, rfl, hb1, hrx, -, her⟩
    obtain ⟨tA, ta, tB, tb, hrv, hkv, hv⟩ := rx_vv hrx
    rw [hv]
    have HRX := hide hrx
    have HER := hide her
    have HVV := hide hv
    have HB1 := hide (bl_trans (bl_alloc (bl_refl w) _) hb1)
    have HR := hide hrv
    have HK := hide hkv
    clear hb1 hrx her hrv hkv hv
    go_wp2_with fail
    refine (HNM.out _).mono ?_
    rintro e w2 ⟨v, rfl, hb2, hrw, hfv⟩
    have hb12 : Below w1.heap.size w1 w2 := bl_trans (by repeat (first | exact bl_refl _ | refine bl_alloc ?_ _ | refine bl_set ?_ (by first | (simp; done) | (simp; omega)) _)) hb2
    obtain ⟨vA, vc, rfl⟩ := rwat_len hrw
    have hcx : CxAt w2 w1.heap.size t := cx_below (cx_new w1 t HR.out HK.out) (bl_trans (by repeat (first | exact bl_refl _ | refine bl_alloc ?_ _ | refine bl_set ?_ (by first | (simp; done) | (simp; omega)) _)) hb2)
    obtain ⟨c0, c1, c2, c3, c4, c5, c6, c7⟩ := cx_8 hcx HR.out HK.out
    have d0 : ∀ (j : Nat) (u : Value), ([.int .i64 2, .string ⟨#[68]⟩, .bool false, .slice none 0 0, .int .i64 0, .int .i64 0, .bool false, .slice none 0 0] : List Value)[j]? = some u → w2.cell? ⟨w1.heap.size + 1 + 1, j, none⟩ = some u := fun j u hu => cell_later hb2 (by
      refine alloc_blk ?_
      exact ks_alloc (T := 26) (cs := [.int .i64 2, .string ⟨#[68]⟩, .bool false, .slice none 0 0, .int .i64 0, .int .i64 0, .bool false, .slice none 0 0]) (by simp) j u hu)
    have e0 := d0 0 _ rfl
    have e1 := d0 1 _ rfl
    have e2 := d0 2 _ rfl
    have e3 := d0 3 _ rfl
    have e4 := d0 4 _ rfl
    have e5 := d0 5 _ rfl
    have e6 := d0 6 _ rfl
    have e7 := d0 7 _ rfl
    have ef : ∀ o, w2.frozen? ⟨w1.heap.size + 1 + 1, o, none⟩ = false := fun o => (hb2.frozen (p := ⟨w1.heap.size + 1 + 1, o, none⟩) (by first | (simp; done) | (simp; omega))).trans (by go_simp)
    have hs2 : w1.heap.size + 1 + 1 < w2.heap.size := World.block_lt_of_cell? _ _ e0
    have hs1 : w1.heap.size < w2.heap.size := World.block_lt_of_cell? _ _ c0
    have hn12 : w1.heap.size ≠ w1.heap.size + 1 + 1 := by omega
    have HSM := hide (fun (W : World) (hb : Below w1.heap.size w1 W) (hk : Kept (w1.heap.size + 1 + 1 + 1) w2 W) => (show Calls Try.prog 15 #[.agg #[.int .i64 t.k, .string t.ch, .bool t.nt, .slice tA t.rows.length ta, .int .i64 t.mi, .int .i64 t.ma, .bool t.lz, .slice tB t.kids.length tb], .agg #[.int .i64 4, .string ⟨#[]⟩, .bool true, .slice vA rD.length vc, .int .i64 0, .int .i64 0, .bool false, .slice none 0 0]] W (fun e w' => e = .returned (.bool true) ∧ Below W.heap.size W w') from by
      have hwt : RxAt W (.mk 4 ⟨#[]⟩ true (.slice vA rD.length vc) rD 0 0 false (.slice none 0 0) []) := .mk _ (rwat_kept hrw (hfv.mono (by simp)) hk) (.inl ⟨rfl, rfl⟩) (fun i hi => absurd hi (Nat.not_lt_zero _))
      have hh := same_any (rx_below HRX.out hb) hwt W (bl_refl W)
      rw [sameM_of (HER.out.trans (by rw [er_eq]; rfl)), HVV.out] at hh
      exact hh))
    have HB12 := hide hb12
    clear hb2 hrw hfv hcx d0 hb12
    go_wp2_with fail
    refine (HSM.out _ (bl8 HB12.out (by omega) _ _ _ _ _ _ _ _ _ _ _ _ _ _ _ _) (kept8 _ (Nat.lt_succ_self _) _ _ _ _ _ _ _ _ _ _ _ _ _ _ _ _)).mono ?_
    rintro e w5 ⟨rfl, hb5⟩
    have HB5 := hide (bl_trans HB1.out (bl_trans (bl8 HB12.out (by omega) _ _ _ _ _ _ _ _ _ _ _ _ _ _ _ _) hb5))
    clear hb5
    go_wp2_with fail
    refine (awake14_any _).mono ?_
    rintro e w6 ⟨rfl, hb6⟩
    have HB6 := hide (bl_trans HB5.out hb6)
    clear hb6
    go_wp2
    go_ret
    exact ⟨rfl, HB6.out⟩
  by_cases q87 : a0 = 87
  case pos =>
    subst q87
    have hrd : readP ((⟨#[92]⟩ : ByteArray) ++ ⟨#[87]⟩).data.toList = .ok (setX true rW) [] := readP_bs (c := 87) (by decide) (setX true rW) rfl rfl (by decide) (by decide)
    have k1 : ∀ (B : Nat) (W : World), W.cell? ⟨B, 0, none⟩ = some (.int .u8 87) → (convert 38 9 (.slice (some ⟨B, 0, none⟩) 1 1)).run Try.prog W = .ok (.string ⟨#[87]⟩) W := fun B W h => conv1 _ _ B W (by decide) h
    have k2 : ∀ (B : Nat) (W : World), W.cell? ⟨B, 0, none⟩ = some (.int .u8 119) → (convert 38 9 (.slice (some ⟨B, 0, none⟩) 1 1)).run Try.prog W = .ok (.string ⟨#[119]⟩) W := fun B W h => conv1 _ _ B W (by decide) h
    have k3 : bits BinOp.or IntKind.u8 87 32 = 119 := by decide
    have HRD := hide (fun W => read_any _ (by rw [ByteArray.size_append]; show 1 + 1 ≤ _; decide) W _ hrd)
    unfold RdPost at HRD
    clear hrd w0 hr0
    have hnm := fun W => namf_any 119 W
    rw [show namR 119 = rW from rfl, show namB 119 = true from rfl] at hnm
    unfold NmfPost at hnm
    have HNM := hide hnm
    clear hnm
    go_enter Try.func8, Try.ntmps8
    go_wp2_with fail
    refine (HRD.out _).mono ?_
    rintro e w1 ⟨t, rfl, hb1, hrx, -, her⟩
    obtain ⟨tA, ta, tB, tb, hrv, hkv, hv⟩ := rx_vv hrx
    rw [hv]
    have HRX := hide hrx
    have HER := hide her
    have HVV := hide hv
    have HB1 := hide (bl_trans (bl_alloc (bl_refl w) _) hb1)
    have HR := hide hrv
    have HK := hide hkv
    clear hb1 hrx her hrv hkv hv
    go_wp2_with fail
    refine (HNM.out _).mono ?_
    rintro e w2 ⟨v, rfl, hb2, hrw, hfv⟩
    have hb12 : Below w1.heap.size w1 w2 := bl_trans (by repeat (first | exact bl_refl _ | refine bl_alloc ?_ _ | refine bl_set ?_ (by first | (simp; done) | (simp; omega)) _)) hb2
    obtain ⟨vA, vc, rfl⟩ := rwat_len hrw
    have hcx : CxAt w2 w1.heap.size t := cx_below (cx_new w1 t HR.out HK.out) (bl_trans (by repeat (first | exact bl_refl _ | refine bl_alloc ?_ _ | refine bl_set ?_ (by first | (simp; done) | (simp; omega)) _)) hb2)
    obtain ⟨c0, c1, c2, c3, c4, c5, c6, c7⟩ := cx_8 hcx HR.out HK.out
    have d0 : ∀ (j : Nat) (u : Value), ([.int .i64 2, .string ⟨#[87]⟩, .bool false, .slice none 0 0, .int .i64 0, .int .i64 0, .bool false, .slice none 0 0] : List Value)[j]? = some u → w2.cell? ⟨w1.heap.size + 1 + 1, j, none⟩ = some u := fun j u hu => cell_later hb2 (by
      refine alloc_blk ?_
      exact ks_alloc (T := 26) (cs := [.int .i64 2, .string ⟨#[87]⟩, .bool false, .slice none 0 0, .int .i64 0, .int .i64 0, .bool false, .slice none 0 0]) (by simp) j u hu)
    have e0 := d0 0 _ rfl
    have e1 := d0 1 _ rfl
    have e2 := d0 2 _ rfl
    have e3 := d0 3 _ rfl
    have e4 := d0 4 _ rfl
    have e5 := d0 5 _ rfl
    have e6 := d0 6 _ rfl
    have e7 := d0 7 _ rfl
    have ef : ∀ o, w2.frozen? ⟨w1.heap.size + 1 + 1, o, none⟩ = false := fun o => (hb2.frozen (p := ⟨w1.heap.size + 1 + 1, o, none⟩) (by first | (simp; done) | (simp; omega))).trans (by go_simp)
    have hs2 : w1.heap.size + 1 + 1 < w2.heap.size := World.block_lt_of_cell? _ _ e0
    have hs1 : w1.heap.size < w2.heap.size := World.block_lt_of_cell? _ _ c0
    have hn12 : w1.heap.size ≠ w1.heap.size + 1 + 1 := by omega
    have HSM := hide (fun (W : World) (hb : Below w1.heap.size w1 W) (hk : Kept (w1.heap.size + 1 + 1 + 1) w2 W) => (show Calls Try.prog 15 #[.agg #[.int .i64 t.k, .string t.ch, .bool t.nt, .slice tA t.rows.length ta, .int .i64 t.mi, .int .i64 t.ma, .bool t.lz, .slice tB t.kids.length tb], .agg #[.int .i64 4, .string ⟨#[]⟩, .bool true, .slice vA rW.length vc, .int .i64 0, .int .i64 0, .bool false, .slice none 0 0]] W (fun e w' => e = .returned (.bool true) ∧ Below W.heap.size W w') from by
      have hwt : RxAt W (.mk 4 ⟨#[]⟩ true (.slice vA rW.length vc) rW 0 0 false (.slice none 0 0) []) := .mk _ (rwat_kept hrw (hfv.mono (by simp)) hk) (.inl ⟨rfl, rfl⟩) (fun i hi => absurd hi (Nat.not_lt_zero _))
      have hh := same_any (rx_below HRX.out hb) hwt W (bl_refl W)
      rw [sameM_of (HER.out.trans (by rw [er_eq]; rfl)), HVV.out] at hh
      exact hh))
    have HB12 := hide hb12
    clear hb2 hrw hfv hcx d0 hb12
    go_wp2_with fail
    refine (HSM.out _ (bl8 HB12.out (by omega) _ _ _ _ _ _ _ _ _ _ _ _ _ _ _ _) (kept8 _ (Nat.lt_succ_self _) _ _ _ _ _ _ _ _ _ _ _ _ _ _ _ _)).mono ?_
    rintro e w5 ⟨rfl, hb5⟩
    have HB5 := hide (bl_trans HB1.out (bl_trans (bl8 HB12.out (by omega) _ _ _ _ _ _ _ _ _ _ _ _ _ _ _ _) hb5))
    clear hb5
    go_wp2_with fail
    refine (awake14_any _).mono ?_
    rintro e w6 ⟨rfl, hb6⟩
    have HB6 := hide (bl_trans HB5.out hb6)
    clear hb6
    go_wp2
    go_ret
    exact ⟨rfl, HB6.out⟩
  by_cases q83 : a0 = 83
  case pos =>
    subst q83
    have hrd : readP ((⟨#[92]⟩ : ByteArray) ++ ⟨#[83]⟩).data.toList = .ok (setX true rS) [] := readP_bs (c := 83) (by decide) (setX true rS) rfl rfl (by decide) (by decide)
    have k1 : ∀ (B : Nat) (W : World), W.cell? ⟨B, 0, none⟩ = some (.int .u8 83) → (convert 38 9 (.slice (some ⟨B, 0, none⟩) 1 1)).run Try.prog W = .ok (.string ⟨#[83]⟩) W := fun B W h => conv1 _ _ B W (by decide) h
    have k2 : ∀ (B : Nat) (W : World), W.cell? ⟨B, 0, none⟩ = some (.int .u8 115) → (convert 38 9 (.slice (some ⟨B, 0, none⟩) 1 1)).run Try.prog W = .ok (.string ⟨#[115]⟩) W := fun B W h => conv1 _ _ B W (by decide) h
    have k3 : bits BinOp.or IntKind.u8 83 32 = 115 := by decide
    have HRD := hide (fun W => read_any _ (by rw [ByteArray.size_append]; show 1 + 1 ≤ _; decide) W _ hrd)
    unfold RdPost at HRD
    clear hrd w0 hr0
    have hnm := fun W => namf_any 115 W
    rw [show namR 115 = rS from rfl, show namB 115 = true from rfl] at hnm
    unfold NmfPost at hnm
    have HNM := hide hnm
    clear hnm
    go_enter Try.func8, Try.ntmps8
    go_wp2_with fail
    refine (HRD.out _).mono ?_
    rintro e w1 ⟨t, rfl, hb1, hrx, -, her⟩
    obtain ⟨tA, ta, tB, tb, hrv, hkv, hv⟩ := rx_vv hrx
    rw [hv]
    have HRX := hide hrx
    have HER := hide her
    have HVV := hide hv
    have HB1 := hide (bl_trans (bl_alloc (bl_refl w) _) hb1)
    have HR := hide hrv
    have HK := hide hkv
    clear hb1 hrx her hrv hkv hv
    go_wp2_with fail
    refine (HNM.out _).mono ?_
    rintro e w2 ⟨v, rfl, hb2, hrw, hfv⟩
    have hb12 : Below w1.heap.size w1 w2 := bl_trans (by repeat (first | exact bl_refl _ | refine bl_alloc ?_ _ | refine bl_set ?_ (by first | (simp; done) | (simp; omega)) _)) hb2
    obtain ⟨vA, vc, rfl⟩ := rwat_len hrw
    have hcx : CxAt w2 w1.heap.size t := cx_below (cx_new w1 t HR.out HK.out) (bl_trans (by repeat (first | exact bl_refl _ | refine bl_alloc ?_ _ | refine bl_set ?_ (by first | (simp; done) | (simp; omega)) _)) hb2)
    obtain ⟨c0, c1, c2, c3, c4, c5, c6, c7⟩ := cx_8 hcx HR.out HK.out
    have d0 : ∀ (j : Nat) (u : Value), ([.int .i64 2, .string ⟨#[83]⟩, .bool false, .slice none 0 0, .int .i64 0, .int .i64 0, .bool false, .slice none 0 0] : List Value)[j]? = some u → w2.cell? ⟨w1.heap.size + 1 + 1, j, none⟩ = some u := fun j u hu => cell_later hb2 (by
      refine alloc_blk ?_
      exact ks_alloc (T := 26) (cs := [.int .i64 2, .string ⟨#[83]⟩, .bool false, .slice none 0 0, .int .i64 0, .int .i64 0, .bool false, .slice none 0 0]) (by simp) j u hu)
    have e0 := d0 0 _ rfl
    have e1 := d0 1 _ rfl
    have e2 := d0 2 _ rfl
    have e3 := d0 3 _ rfl
    have e4 := d0 4 _ rfl
    have e5 := d0 5 _ rfl
    have e6 := d0 6 _ rfl
    have e7 := d0 7 _ rfl
    have ef : ∀ o, w2.frozen? ⟨w1.heap.size + 1 + 1, o, none⟩ = false := fun o => (hb2.frozen (p := ⟨w1.heap.size + 1 + 1, o, none⟩) (by first | (simp; done) | (simp; omega))).trans (by go_simp)
    have hs2 : w1.heap.size + 1 + 1 < w2.heap.size := World.block_lt_of_cell? _ _ e0
    have hs1 : w1.heap.size < w2.heap.size := World.block_lt_of_cell? _ _ c0
    have hn12 : w1.heap.size ≠ w1.heap.size + 1 + 1 := by omega
    have HSM := hide (fun (W : World) (hb : Below w1.heap.size w1 W) (hk : Kept (w1.heap.size + 1 + 1 + 1) w2 W) => (show Calls Try.prog 15 #[.agg #[.int .i64 t.k, .string t.ch, .bool t.nt, .slice tA t.rows.length ta, .int .i64 t.mi, .int .i64 t.ma, .bool t.lz, .slice tB t.kids.length tb], .agg #[.int .i64 4, .string ⟨#[]⟩, .bool true, .slice vA rS.length vc, .int .i64 0, .int .i64 0, .bool false, .slice none 0 0]] W (fun e w' => e = .returned (.bool true) ∧ Below W.heap.size W w') from by
      have hwt : RxAt W (.mk 4 ⟨#[]⟩ true (.slice vA rS.length vc) rS 0 0 false (.slice none 0 0) []) := .mk _ (rwat_kept hrw (hfv.mono (by simp)) hk) (.inl ⟨rfl, rfl⟩) (fun i hi => absurd hi (Nat.not_lt_zero _))
      have hh := same_any (rx_below HRX.out hb) hwt W (bl_refl W)
      rw [sameM_of (HER.out.trans (by rw [er_eq]; rfl)), HVV.out] at hh
      exact hh))
    have HB12 := hide hb12
    clear hb2 hrw hfv hcx d0 hb12
    go_wp2_with fail
    refine (HSM.out _ (bl8 HB12.out (by omega) _ _ _ _ _ _ _ _ _ _ _ _ _ _ _ _) (kept8 _ (Nat.lt_succ_self _) _ _ _ _ _ _ _ _ _ _ _ _ _ _ _ _)).mono ?_
    rintro e w5 ⟨rfl, hb5⟩
    have HB5 := hide (bl_trans HB1.out (bl_trans (bl8 HB12.out (by omega) _ _ _ _ _ _ _ _ _ _ _ _ _ _ _ _) hb5))
    clear hb5
    go_wp2_with fail
    refine (awake14_any _).mono ?_
    rintro e w6 ⟨rfl, hb6⟩
    have HB6 := hide (bl_trans HB5.out hb6)
    clear hb6
    go_wp2
    go_ret
    exact ⟨rfl, HB6.out⟩
  by_cases q110 : a0 = 110
  case pos =>
    subst q110
    have hrd : readP ((⟨#[92]⟩ : ByteArray) ++ ⟨#[110]⟩).data.toList = .ok (chX ⟨#[10]⟩) [] := readP_bs (c := 110) (by decide) (chX ⟨#[10]⟩) rfl rfl (by decide) (by decide)
    have k1 : ∀ (B : Nat) (W : World), W.cell? ⟨B, 0, none⟩ = some (.int .u8 110) → (convert 38 9 (.slice (some ⟨B, 0, none⟩) 1 1)).run Try.prog W = .ok (.string ⟨#[110]⟩) W := fun B W h => conv1 _ _ B W (by decide) h
    have k3 : bits BinOp.or IntKind.u8 110 32 = 110 := by decide
    have HRD := hide (fun W => read_any _ (by rw [ByteArray.size_append]; show 1 + 1 ≤ _; decide) W _ hrd)
    unfold RdPost at HRD
    clear hrd w0 hr0
    go_enter Try.func8, Try.ntmps8
    go_wp2_with fail
    refine (HRD.out _).mono ?_
    rintro e w1 ⟨t, rfl, hb1, hrx, -, her⟩
    obtain ⟨tA, ta, tB, tb, hrv, hkv, hv⟩ := rx_vv hrx
    rw [hv]
    have HRX := hide hrx
    have HER := hide her
    have HVV := hide hv
    have HB1 := hide (bl_trans (bl_alloc (bl_refl w) _) hb1)
    have HR := hide hrv
    have HK := hide hkv
    clear hb1 hrx her hrv hkv hv
    have HSM := hide (fun (W : World) (hb : Below w1.heap.size w1 W) => (show Calls Try.prog 15 #[.agg #[.int .i64 t.k, .string t.ch, .bool t.nt, .slice tA t.rows.length ta, .int .i64 t.mi, .int .i64 t.ma, .bool t.lz, .slice tB t.kids.length tb], .agg #[.int .i64 2, .string ⟨#[10]⟩, .bool false, .slice none 0 0, .int .i64 0, .int .i64 0, .bool false, .slice none 0 0]] W (fun e w' => e = .returned (.bool true) ∧ Below W.heap.size W w') from by
      have hh := same_any (rx_below HRX.out hb) (rx_leaf W (chX ⟨#[10]⟩) rfl rfl rfl rfl) W (bl_refl W)
      rw [sameM_of (HER.out.trans rfl), HVV.out] at hh
      exact hh))
    go_wp2_with fail
    refine (HSM.out _ (by repeat (first | exact bl_refl _ | refine bl_alloc ?_ _ | refine bl_set ?_ (by first | (simp; done) | (simp; omega)) _))).mono ?_
    rintro e w5 ⟨rfl, hb5⟩
    have HB5 := hide (bl_trans HB1.out (bl_trans (by repeat (first | exact bl_refl _ | refine bl_alloc ?_ _ | refine bl_set ?_ (by first | (simp; done) | (simp; omega)) _)) hb5))
    clear hb5
    go_wp2_with fail
    refine (awake14_any _).mono ?_
    rintro e w6 ⟨rfl, hb6⟩
    have HB6 := hide (bl_trans HB5.out hb6)
    clear hb6
    go_wp2
    go_ret
    exact ⟨rfl, HB6.out⟩
  by_cases q114 : a0 = 114
  case pos =>
    subst q114
    have hrd : readP ((⟨#[92]⟩ : ByteArray) ++ ⟨#[114]⟩).data.toList = .ok (chX ⟨#[13]⟩) [] := readP_bs (c := 114) (by decide) (chX ⟨#[13]⟩) rfl rfl (by decide) (by decide)
    have k1 : ∀ (B : Nat) (W : World), W.cell? ⟨B, 0, none⟩ = some (.int .u8 114) → (convert 38 9 (.slice (some ⟨B, 0, none⟩) 1 1)).run Try.prog W = .ok (.string ⟨#[114]⟩) W := fun B W h => conv1 _ _ B W (by decide) h
    have k3 : bits BinOp.or IntKind.u8 114 32 = 114 := by decide
    have HRD := hide (fun W => read_any _ (by rw [ByteArray.size_append]; show 1 + 1 ≤ _; decide) W _ hrd)
    unfold RdPost at HRD
    clear hrd w0 hr0
    go_enter Try.func8, Try.ntmps8
    go_wp2_with fail
    refine (HRD.out _).mono ?_
    rintro e w1 ⟨t, rfl, hb1, hrx, -, her⟩
    obtain ⟨tA, ta, tB, tb, hrv, hkv, hv⟩ := rx_vv hrx
    rw [hv]
    have HRX := hide hrx
    have HER := hide her
    have HVV := hide hv
    have HB1 := hide (bl_trans (bl_alloc (bl_refl w) _) hb1)
    have HR := hide hrv
    have HK := hide hkv
    clear hb1 hrx her hrv hkv hv
    have HSM := hide (fun (W : World) (hb : Below w1.heap.size w1 W) => (show Calls Try.prog 15 #[.agg #[.int .i64 t.k, .string t.ch, .bool t.nt, .slice tA t.rows.length ta, .int .i64 t.mi, .int .i64 t.ma, .bool t.lz, .slice tB t.kids.length tb], .agg #[.int .i64 2, .string ⟨#[13]⟩, .bool false, .slice none 0 0, .int .i64 0, .int .i64 0, .bool false, .slice none 0 0]] W (fun e w' => e = .returned (.bool true) ∧ Below W.heap.size W w') from by
      have hh := same_any (rx_below HRX.out hb) (rx_leaf W (chX ⟨#[13]⟩) rfl rfl rfl rfl) W (bl_refl W)
      rw [sameM_of (HER.out.trans rfl), HVV.out] at hh
      exact hh))
    go_wp2_with fail
    refine (HSM.out _ (by repeat (first | exact bl_refl _ | refine bl_alloc ?_ _ | refine bl_set ?_ (by first | (simp; done) | (simp; omega)) _))).mono ?_
    rintro e w5 ⟨rfl, hb5⟩
    have HB5 := hide (bl_trans HB1.out (bl_trans (by repeat (first | exact bl_refl _ | refine bl_alloc ?_ _ | refine bl_set ?_ (by first | (simp; done) | (simp; omega)) _)) hb5))
    clear hb5
    go_wp2_with fail
    refine (awake14_any _).mono ?_
    rintro e w6 ⟨rfl, hb6⟩
    have HB6 := hide (bl_trans HB5.out hb6)
    clear hb6
    go_wp2
    go_ret
    exact ⟨rfl, HB6.out⟩
  by_cases q116 : a0 = 116
  case pos =>
    subst q116
    have hrd : readP ((⟨#[92]⟩ : ByteArray) ++ ⟨#[116]⟩).data.toList = .ok (chX ⟨#[9]⟩) [] := readP_bs (c := 116) (by decide) (chX ⟨#[9]⟩) rfl rfl (by decide) (by decide)
    have k1 : ∀ (B : Nat) (W : World), W.cell? ⟨B, 0, none⟩ = some (.int .u8 116) → (convert 38 9 (.slice (some ⟨B, 0, none⟩) 1 1)).run Try.prog W = .ok (.string ⟨#[116]⟩) W := fun B W h => conv1 _ _ B W (by decide) h
    have k3 : bits BinOp.or IntKind.u8 116 32 = 116 := by decide
    have HRD := hide (fun W => read_any _ (by rw [ByteArray.size_append]; show 1 + 1 ≤ _; decide) W _ hrd)
    unfold RdPost at HRD
    clear hrd w0 hr0
    go_enter Try.func8, Try.ntmps8
    go_wp2_with fail
    refine (HRD.out _).mono ?_
    rintro e w1 ⟨t, rfl, hb1, hrx, -, her⟩
    obtain ⟨tA, ta, tB, tb, hrv, hkv, hv⟩ := rx_vv hrx
    rw [hv]
    have HRX := hide hrx
    have HER := hide her
    have HVV := hide hv
    have HB1 := hide (bl_trans (bl_alloc (bl_refl w) _) hb1)
    have HR := hide hrv
    have HK := hide hkv
    clear hb1 hrx her hrv hkv hv
    have HSM := hide (fun (W : World) (hb : Below w1.heap.size w1 W) => (show Calls Try.prog 15 #[.agg #[.int .i64 t.k, .string t.ch, .bool t.nt, .slice tA t.rows.length ta, .int .i64 t.mi, .int .i64 t.ma, .bool t.lz, .slice tB t.kids.length tb], .agg #[.int .i64 2, .string ⟨#[9]⟩, .bool false, .slice none 0 0, .int .i64 0, .int .i64 0, .bool false, .slice none 0 0]] W (fun e w' => e = .returned (.bool true) ∧ Below W.heap.size W w') from by
      have hh := same_any (rx_below HRX.out hb) (rx_leaf W (chX ⟨#[9]⟩) rfl rfl rfl rfl) W (bl_refl W)
      rw [sameM_of (HER.out.trans rfl), HVV.out] at hh
      exact hh))
    go_wp2_with fail
    refine (HSM.out _ (by repeat (first | exact bl_refl _ | refine bl_alloc ?_ _ | refine bl_set ?_ (by first | (simp; done) | (simp; omega)) _))).mono ?_
    rintro e w5 ⟨rfl, hb5⟩
    have HB5 := hide (bl_trans HB1.out (bl_trans (by repeat (first | exact bl_refl _ | refine bl_alloc ?_ _ | refine bl_set ?_ (by first | (simp; done) | (simp; omega)) _)) hb5))
    clear hb5
    go_wp2_with fail
    refine (awake14_any _).mono ?_
    rintro e w6 ⟨rfl, hb6⟩
    have HB6 := hide (bl_trans HB5.out hb6)
    clear hb6
    go_wp2
    go_ret
    exact ⟨rfl, HB6.out⟩
  by_cases q102 : a0 = 102
  case pos =>
    subst q102
    have hrd : readP ((⟨#[92]⟩ : ByteArray) ++ ⟨#[102]⟩).data.toList = .ok (chX ⟨#[12]⟩) [] := readP_bs (c := 102) (by decide) (chX ⟨#[12]⟩) rfl rfl (by decide) (by decide)
    have k1 : ∀ (B : Nat) (W : World), W.cell? ⟨B, 0, none⟩ = some (.int .u8 102) → (convert 38 9 (.slice (some ⟨B, 0, none⟩) 1 1)).run Try.prog W = .ok (.string ⟨#[102]⟩) W := fun B W h => conv1 _ _ B W (by decide) h
    have k3 : bits BinOp.or IntKind.u8 102 32 = 102 := by decide
    have HRD := hide (fun W => read_any _ (by rw [ByteArray.size_append]; show 1 + 1 ≤ _; decide) W _ hrd)
    unfold RdPost at HRD
    clear hrd w0 hr0
    go_enter Try.func8, Try.ntmps8
    go_wp2_with fail
    refine (HRD.out _).mono ?_
    rintro e w1 ⟨t, rfl, hb1, hrx, -, her⟩
    obtain ⟨tA, ta, tB, tb, hrv, hkv, hv⟩ := rx_vv hrx
    rw [hv]
    have HRX := hide hrx
    have HER := hide her
    have HVV := hide hv
    have HB1 := hide (bl_trans (bl_alloc (bl_refl w) _) hb1)
    have HR := hide hrv
    have HK := hide hkv
    clear hb1 hrx her hrv hkv hv
    have HSM := hide (fun (W : World) (hb : Below w1.heap.size w1 W) => (show Calls Try.prog 15 #[.agg #[.int .i64 t.k, .string t.ch, .bool t.nt, .slice tA t.rows.length ta, .int .i64 t.mi, .int .i64 t.ma, .bool t.lz, .slice tB t.kids.length tb], .agg #[.int .i64 2, .string ⟨#[12]⟩, .bool false, .slice none 0 0, .int .i64 0, .int .i64 0, .bool false, .slice none 0 0]] W (fun e w' => e = .returned (.bool true) ∧ Below W.heap.size W w') from by
      have hh := same_any (rx_below HRX.out hb) (rx_leaf W (chX ⟨#[12]⟩) rfl rfl rfl rfl) W (bl_refl W)
      rw [sameM_of (HER.out.trans rfl), HVV.out] at hh
      exact hh))
    go_wp2_with fail
    refine (HSM.out _ (by repeat (first | exact bl_refl _ | refine bl_alloc ?_ _ | refine bl_set ?_ (by first | (simp; done) | (simp; omega)) _))).mono ?_
    rintro e w5 ⟨rfl, hb5⟩
    have HB5 := hide (bl_trans HB1.out (bl_trans (by repeat (first | exact bl_refl _ | refine bl_alloc ?_ _ | refine bl_set ?_ (by first | (simp; done) | (simp; omega)) _)) hb5))
    clear hb5
    go_wp2_with fail
    refine (awake14_any _).mono ?_
    rintro e w6 ⟨rfl, hb6⟩
    have HB6 := hide (bl_trans HB5.out hb6)
    clear hb6
    go_wp2
    go_ret
    exact ⟨rfl, HB6.out⟩
  by_cases q118 : a0 = 118
  case pos =>
    subst q118
    have hrd : readP ((⟨#[92]⟩ : ByteArray) ++ ⟨#[118]⟩).data.toList = .ok (chX ⟨#[11]⟩) [] := readP_bs (c := 118) (by decide) (chX ⟨#[11]⟩) rfl rfl (by decide) (by decide)
    have k1 : ∀ (B : Nat) (W : World), W.cell? ⟨B, 0, none⟩ = some (.int .u8 118) → (convert 38 9 (.slice (some ⟨B, 0, none⟩) 1 1)).run Try.prog W = .ok (.string ⟨#[118]⟩) W := fun B W h => conv1 _ _ B W (by decide) h
    have k3 : bits BinOp.or IntKind.u8 118 32 = 118 := by decide
    have HRD := hide (fun W => read_any _ (by rw [ByteArray.size_append]; show 1 + 1 ≤ _; decide) W _ hrd)
    unfold RdPost at HRD
    clear hrd w0 hr0
    go_enter Try.func8, Try.ntmps8
    go_wp2_with fail
    refine (HRD.out _).mono ?_
    rintro e w1 ⟨t, rfl, hb1, hrx, -, her⟩
    obtain ⟨tA, ta, tB, tb, hrv, hkv, hv⟩ := rx_vv hrx
    rw [hv]
    have HRX := hide hrx
    have HER := hide her
    have HVV := hide hv
    have HB1 := hide (bl_trans (bl_alloc (bl_refl w) _) hb1)
    have HR := hide hrv
    have HK := hide hkv
    clear hb1 hrx her hrv hkv hv
    have HSM := hide (fun (W : World) (hb : Below w1.heap.size w1 W) => (show Calls Try.prog 15 #[.agg #[.int .i64 t.k, .string t.ch, .bool t.nt, .slice tA t.rows.length ta, .int .i64 t.mi, .int .i64 t.ma, .bool t.lz, .slice tB t.kids.length tb], .agg #[.int .i64 2, .string ⟨#[11]⟩, .bool false, .slice none 0 0, .int .i64 0, .int .i64 0, .bool false, .slice none 0 0]] W (fun e w' => e = .returned (.bool true) ∧ Below W.heap.size W w') from by
      have hh := same_any (rx_below HRX.out hb) (rx_leaf W (chX ⟨#[11]⟩) rfl rfl rfl rfl) W (bl_refl W)
      rw [sameM_of (HER.out.trans rfl), HVV.out] at hh
      exact hh))
    go_wp2_with fail
    refine (HSM.out _ (by repeat (first | exact bl_refl _ | refine bl_alloc ?_ _ | refine bl_set ?_ (by first | (simp; done) | (simp; omega)) _))).mono ?_
    rintro e w5 ⟨rfl, hb5⟩
    have HB5 := hide (bl_trans HB1.out (bl_trans (by repeat (first | exact bl_refl _ | refine bl_alloc ?_ _ | refine bl_set ?_ (by first | (simp; done) | (simp; omega)) _)) hb5))
    clear hb5
    go_wp2_with fail
    refine (awake14_any _).mono ?_
    rintro e w6 ⟨rfl, hb6⟩
    have HB6 := hide (bl_trans HB5.out hb6)
    clear hb6
    go_wp2
    go_ret
    exact ⟨rfl, HB6.out⟩
  have g1 : decide (128 ≤ a0) = false := decide_eq_false h1
  obtain ⟨n, rfl⟩ : ∃ n : Nat, a0 = n := ⟨a0.toNat, by omega⟩
  have hn : n < 128 := by omega
  obtain ⟨c, hc⟩ : ∃ c : UInt8, c = UInt8.ofNat n := ⟨_, rfl⟩
  have hcn : (c.toNat : Int) = (n : Int) := by rw [hc, UInt8.toNat_ofNat_of_lt' (by simp [UInt8.size]; omega)]
  have hbt : ∀ m : Fin 128, 0 ≤ bits BinOp.or IntKind.u8 ((m.val : Nat) : Int) 32 ∧ bits BinOp.or IntKind.u8 ((m.val : Nat) : Int) 32 < 256 := by decide
  have hb2 := hbt ⟨n, hn⟩
  simp only at hb2
  obtain ⟨m, hm⟩ : ∃ m, bits BinOp.or IntKind.u8 (n : Int) 32 = m := ⟨_, rfl⟩
  rw [hm] at hb2
  obtain ⟨c2, hc2⟩ : ∃ c2 : UInt8, (c2.toNat : Int) = m := ⟨UInt8.ofNat m.toNat, by rw [UInt8.toNat_ofNat_of_lt' (by simp [UInt8.size]; omega)]; omega⟩
  have k1 : ∀ (B : Nat) (W : World), W.cell? ⟨B, 0, none⟩ = some (.int .u8 (n : Int)) → (convert 38 9 (.slice (some ⟨B, 0, none⟩) 1 1)).run Try.prog W = .ok (.string ⟨#[c]⟩) W := fun B W h => conv1 _ _ B W hcn h
  have k2 : ∀ (B : Nat) (W : World), W.cell? ⟨B, 0, none⟩ = some (.int .u8 m) → (convert 38 9 (.slice (some ⟨B, 0, none⟩) 1 1)).run Try.prog W = .ok (.string ⟨#[c2]⟩) W := fun B W h => conv1 _ _ B W hc2 h
  have hcb : contB c = false := by unfold contB; rw [decide_eq_false_iff_not]; omega
  have hg := bak_gen hcb (fun y hy e => by
    rw [e] at hcn
    simp only [List.mem_cons, List.not_mem_nil, or_false] at hy
    rcases hy with rfl | rfl | rfl | rfl | rfl | rfl | rfl | rfl | rfl | rfl | rfl | rfl | rfl
    all_goals first | exact q98 hcn.symm | exact q66 hcn.symm | exact q100 hcn.symm | exact q119 hcn.symm | exact q115 hcn.symm | exact q68 hcn.symm | exact q87 hcn.symm | exact q83 hcn.symm | exact q110 hcn.symm | exact q114 hcn.symm | exact q116 hcn.symm | exact q102 hcn.symm | exact q118 hcn.symm)
  have HL := hide (fun W => rlet_m (n : Int) (by omega) (by omega) W)
  have HD := hide (fun W => rdig_m (n : Int) (by omega) (by omega) W)
  rw [hcn] at hg
  have z0 : ((n : Int) == 98) = false := by rw [Bool.eq_false_iff]; intro h; exact q98 (beq_iff_eq.1 h)
  have z1 : ((n : Int) == 66) = false := by rw [Bool.eq_false_iff]; intro h; exact q66 (beq_iff_eq.1 h)
  have z2 : ((n : Int) == 100) = false := by rw [Bool.eq_false_iff]; intro h; exact q100 (beq_iff_eq.1 h)
  have z3 : ((n : Int) == 119) = false := by rw [Bool.eq_false_iff]; intro h; exact q119 (beq_iff_eq.1 h)
  have z4 : ((n : Int) == 115) = false := by rw [Bool.eq_false_iff]; intro h; exact q115 (beq_iff_eq.1 h)
  have z5 : ((n : Int) == 68) = false := by rw [Bool.eq_false_iff]; intro h; exact q68 (beq_iff_eq.1 h)
  have z6 : ((n : Int) == 87) = false := by rw [Bool.eq_false_iff]; intro h; exact q87 (beq_iff_eq.1 h)
  have z7 : ((n : Int) == 83) = false := by rw [Bool.eq_false_iff]; intro h; exact q83 (beq_iff_eq.1 h)
  have z8 : ((n : Int) == 110) = false := by rw [Bool.eq_false_iff]; intro h; exact q110 (beq_iff_eq.1 h)
  have z9 : ((n : Int) == 114) = false := by rw [Bool.eq_false_iff]; intro h; exact q114 (beq_iff_eq.1 h)
  have z10 : ((n : Int) == 116) = false := by rw [Bool.eq_false_iff]; intro h; exact q116 (beq_iff_eq.1 h)
  have z11 : ((n : Int) == 102) = false := by rw [Bool.eq_false_iff]; intro h; exact q102 (beq_iff_eq.1 h)
  have z12 : ((n : Int) == 118) = false := by rw [Bool.eq_false_iff]; intro h; exact q118 (beq_iff_eq.1 h)
  clear q98 q66 q100 q119 q115 q68 q87 q83 q110 q114 q116 q102 q118 hc w0 hr0 h1 hbt
  obtain ⟨p, hp⟩ : ∃ p, letZ (n : Int) = p := ⟨_, rfl⟩
  obtain ⟨q, hq⟩ : ∃ q, digZ (n : Int) = q := ⟨_, rfl⟩
  rw [hp] at HL
  rw [hq] at HD
  rw [hp, hq] at hg
  clear hp hq
  cases p
  case true =>
    rw [if_pos (by simp)] at hg
    have hrd : readP ((⟨#[92]⟩ : ByteArray) ++ ⟨#[c]⟩).data.toList = .err 10 := readP_be hcb hg
    have HRD := hide (fun W => read_any _ (by rw [ByteArray.size_append]; show 1 + 1 ≤ _; decide) W _ hrd)
    unfold RdPost at HRD
    clear hrd hg hcb hcn hc2 hb2 hn
    go_enter Try.func8, Try.ntmps8
    go_wp2_with fail
    refine (HRD.out _).mono ?_
    rintro e w1 ⟨rfl, hb1⟩
    rw [show rt0.v = .agg #[.int .i64 0, .string ⟨#[]⟩, .bool false, .slice none 0 0, .int .i64 0, .int .i64 0, .bool false, .slice none 0 0] from rfl]
    have HB1 := hide (bl_trans (bl_alloc (bl_refl w) _) hb1)
    clear hb1
    go_wp2_with fail
    refine (HL.out _).mono ?_
    rintro e _ ⟨rfl, rfl⟩
    go_wp2_with fail
    refine (awake14_any _).mono ?_
    rintro e w6 ⟨rfl, hb6⟩
    have HB6 := hide (bl_trans HB1.out (bl_trans (by repeat (first | exact bl_refl _ | refine bl_alloc ?_ _ | refine bl_set ?_ (by first | (simp; done) | (simp; omega)) _)) hb6))
    clear hb6
    go_wp2
    go_ret
    exact ⟨rfl, HB6.out⟩
  case false =>
    cases q
    case true =>
      rw [if_pos (by simp)] at hg
      have hrd : readP ((⟨#[92]⟩ : ByteArray) ++ ⟨#[c]⟩).data.toList = .err 10 := readP_be hcb hg
      have HRD := hide (fun W => read_any _ (by rw [ByteArray.size_append]; show 1 + 1 ≤ _; decide) W _ hrd)
      unfold RdPost at HRD
      clear hrd hg hcb hcn hc2 hb2 hn
      go_enter Try.func8, Try.ntmps8
      go_wp2_with fail
      refine (HRD.out _).mono ?_
      rintro e w1 ⟨rfl, hb1⟩
      rw [show rt0.v = .agg #[.int .i64 0, .string ⟨#[]⟩, .bool false, .slice none 0 0, .int .i64 0, .int .i64 0, .bool false, .slice none 0 0] from rfl]
      have HB1 := hide (bl_trans (bl_alloc (bl_refl w) _) hb1)
      clear hb1
      go_wp2_with fail
      refine (HL.out _).mono ?_
      rintro e _ ⟨rfl, rfl⟩
      go_wp2_with fail
      refine (HD.out _).mono ?_
      rintro e _ ⟨rfl, rfl⟩
      go_wp2_with fail
      refine (awake14_any _).mono ?_
      rintro e w6 ⟨rfl, hb6⟩
      have HB6 := hide (bl_trans HB1.out (bl_trans (by repeat (first | exact bl_refl _ | refine bl_alloc ?_ _ | refine bl_set ?_ (by first | (simp; done) | (simp; omega)) _)) hb6))
      clear hb6
      go_wp2
      go_ret
      exact ⟨rfl, HB6.out⟩
    case false =>
      rw [if_neg (by simp)] at hg
      have hrd : readP ((⟨#[92]⟩ : ByteArray) ++ ⟨#[c]⟩).data.toList = .ok (chX ⟨#[c]⟩) [] := readP_bs hcb _ hg rfl (by rw [chX_k]; decide) (by rw [chX_k]; decide)
      have HRD := hide (fun W => read_any _ (by rw [ByteArray.size_append]; show 1 + 1 ≤ _; decide) W _ hrd)
      unfold RdPost at HRD
      clear hrd hg hcb hcn hc2 hb2 hn
      go_enter Try.func8, Try.ntmps8
      go_wp2_with fail
      refine (HRD.out _).mono ?_
      rintro e w1 ⟨t, rfl, hb1, hrx, -, her⟩
      obtain ⟨tA, ta, tB, tb, hrv, hkv, hv⟩ := rx_vv hrx
      rw [hv]
      have HRX := hide hrx
      have HER := hide her
      have HVV := hide hv
      have HB1 := hide (bl_trans (bl_alloc (bl_refl w) _) hb1)
      clear hb1 hrx her hrv hkv hv
      have HSM := hide (fun (W : World) (hb : Below w1.heap.size w1 W) => (show Calls Try.prog 15 #[.agg #[.int .i64 t.k, .string t.ch, .bool t.nt, .slice tA t.rows.length ta, .int .i64 t.mi, .int .i64 t.ma, .bool t.lz, .slice tB t.kids.length tb], .agg #[.int .i64 2, .string ⟨#[c]⟩, .bool false, .slice none 0 0, .int .i64 0, .int .i64 0, .bool false, .slice none 0 0]] W (fun e w' => e = .returned (.bool true) ∧ Below W.heap.size W w') from by
        have hh := same_any (rx_below HRX.out hb) (rx_leaf W (chX ⟨#[c]⟩) rfl rfl rfl rfl) W (bl_refl W)
        rw [sameM_of (HER.out.trans rfl), HVV.out] at hh
        exact hh))
      go_wp2_with fail
      refine (HL.out _).mono ?_
      rintro e _ ⟨rfl, rfl⟩
      go_wp2_with fail
      refine (HD.out _).mono ?_
      rintro e _ ⟨rfl, rfl⟩
      go_wp2_with fail
      refine (HSM.out _ (by repeat (first | exact bl_refl _ | refine bl_alloc ?_ _ | refine bl_set ?_ (by first | (simp; done) | (simp; omega)) _))).mono ?_
      rintro e w5 ⟨rfl, hb5⟩
      have HB5 := hide (bl_trans HB1.out (bl_trans (by repeat (first | exact bl_refl _ | refine bl_alloc ?_ _ | refine bl_set ?_ (by first | (simp; done) | (simp; omega)) _)) hb5))
      clear hb5
      go_wp2_with fail
      refine (awake14_any _).mono ?_
      rintro e w6 ⟨rfl, hb6⟩
      have HB6 := hide (bl_trans HB5.out hb6)
      clear hb6
      go_wp2
      go_ret
      exact ⟨rfl, HB6.out⟩

set_option maxRecDepth 100000 in
theorem lifted (os : Os) (started : os.Started) (H : Type) (enc : TypeId × Value → H) :
    ReturnsInHanded {} Try.checked os 8 .any (Rows.readEscapeSpec.pre6 enc Try.prog Try.f8 Rows.readEscapeRow.domain false) (Rows.readEscapeSpec.post enc Try.prog Try.f8 false true false false) := by
  refine returnsInHanded_of_change (C := Try.checked) own started (by kernel_rfl) Try.func8
    (ChangeSpec.witness6 (enc := enc) (C := Try.checked) false ⟨#[], #[.int .u8 0], []⟩ 8 (by kernel_rfl) (by kernel_rfl) (by kernel_rfl) (by kernel_rfl)) ?_
  intro W base args ds gs before hval0 hW hcnd _
  have hval : ∀ (j : Nat) t v, Try.f8.params[j]? = some t → args[j]? = some v → Value.okWide Try.prog W .any base t v := hval0
  have hW' := hW
  obtain ⟨p, q, hA0, hV, rfl, hfz, hnd⟩ := hW
  have hA : DataW.TrodAll enc Try.prog W 0 (fun _ => true) true Try.f8.params.toList args.toList ds p := hA0
  rw [Try.params8] at hA hval
  obtain ⟨v0, vs0, d0, ds0, p0, q0, hargs, rfl, rfl, h0, r0⟩ := trodAll_cons hA
  obtain ⟨rfl, rfl, rfl⟩ := trodAll_nil r0
  obtain rfl : args = #[v0] := by cases args; simp_all
  obtain ⟨rfl, rfl⟩ := trodVars_none hV
  have k0 := h0
  have lt0 : ∀ x ∈ p0, x.block < W.heap.size := by obtain ⟨m, hm⟩ := k0; exact DataW.trod_lt m _ _ _ hm
  obtain ⟨a0, rfl, hd0, hp0, w0⟩ := open_int Try.underlying5 (hval 0 5 v0 rfl rfl) h0
  clear hA0 hval0
  refine (walk a0 W w0).mono fun e W' ⟨he, bel⟩ => ?_
  subst he
  exact ⟨_, rfl, _, _, _, [], _, [], hW', trodAll_mk1 (shut_bool Try.underlying4 _), (trodAll_cons_mk (Below.trod laidOut (by kernel_rfl) (of_decide_eq_true (by kernel_rfl)) k0 bel lt0) trodAll_mk0), rfl, bel.frame _, fun h => by cases h⟩

theorem over : Rows.readEscapeRow.holds Try.pinned (OpenSpec.ofChange Rows.readEscapeSpec) :=
  OpenClaim.holds_of_wide 8 Try.f8 rfl rfl rfl rfl rfl rfl rfl ⟨rfl, rfl, rfl, rfl, rfl⟩ rfl rfl rfl rfl rfl (by kernel_rfl) Try.func8 (by kernel_rfl)
    (of_decide_eq_true (by kernel_rfl)) (by unfold Func.isWrapper; first | (rw [if_pos (by decide +kernel)]; kernel_rfl) | (rw [if_neg (by decide +kernel)]; exact ⟨rfl, rfl⟩))
    (fun os started H enc _ => lifted os started H enc)

theorem proved : Rows.ReadEscapeSaid := over
end Go.Proofs.Ytcgphknnnjpbkaa.readEscape
