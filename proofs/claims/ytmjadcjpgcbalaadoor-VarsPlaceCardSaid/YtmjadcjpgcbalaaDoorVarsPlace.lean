/- What a place gives is the document's, at any place of any text, by any variables. Conditions: none beyond the form's own. -/
import Derived.Test.YtmjadcjpgcbalaaDoorRows
import Derived.Test.YtmjadcjpgcbalaaDoorCards
import Derived.Test.YtmjadcjpgcbalaaDoorTie
import Derived.Lay
import Derived.LaidMore
import Derived.MakeChecks
import Derived.Stop.Joined
import Derived.SevenTiedAt
import Derived.Test.YtmjadcjpgcbalaaDoorArgs
import Derived.Test.YtmjadcjpgcbalaaDoorVarL
import Derived.Test.YtmjadcjpgcbalaaDoorVarN
import Derived.Test.YtmjadcjpgcbalaaDoorLow
namespace Go.Proofs.YtmjadcjpgcbalaaDoor.varsPlace
open Go.Proofs.YtmjadcjpgcbalaaDoor
open Go.ChangeShapes Go.WideShapes Go.ChangeAt Go.RowKit Go.Deep
open Go.ChangeMaps (open_string shut_string)
set_option linter.unusedVariables false

theorem own : ownKnob Tryd.prog.godebug = none := by kernel_rfl
theorem laidOut : laidOutB Tryd.prog = true := by kernel_rfl
-- opt:16000000
-- tied
open SpanM SetM
attribute [local go_sem ↓] Go.wp_at_zero Go.wp_at_succ
theorem rplace_any {w : World} {x : ByteArray} (hs : x.size ≤ 100000) (A H p q idx S E d : Nat) (v0 : Value) (env : List Rw) (he : RwAt w v0 env) (hel : env.length ≤ 1000)
    (hp : min (A : Int) H = p) (hq : max (A : Int) H = q) (hqx : q ≤ x.size) (h1 : atV x.data.toList H = idx) (h2 : lnSv x.data.toList idx = S) (h3 : lnEv x.data.toList idx = E) (hd : S + d = H) (hHE : H ≤ E) (hEx : E ≤ x.size) (hidx : idx ≤ 100000)
    (line wd pa : ByteArray) (b : Bool) (hline : x.extract S E = line) (hwd : wrdF line d = wd) (hpa : getV ⟨#[84, 77, 95, 70, 73, 76, 69, 80, 65, 84, 72]⟩ env = pa) (hbb : getB ⟨#[84, 77, 95, 70, 73, 76, 69, 80, 65, 84, 72]⟩ env = b) (hpz : pa.size ≤ 1000000) (hlc : lnC x.data.toList idx = 0) :
    Calls Tryd.prog 23 #[.string x, .agg #[.int .i64 A, .int .i64 H], v0] w (VPost w (plAll x p q line wd idx b pa ++ env)) := by
  rcases hw : wd.toList.isEmpty with _ | _ <;> rcases hb : b with _ | _ <;> by_cases hsel : p < q
  · subst hb; exact rplace_swn hs A H p q idx S E d v0 env he hel hp hq hqx h1 h2 h3 hd hHE hEx hidx line wd pa _ hline hwd hpa hbb hpz hlc hsel hw rfl
  · subst hb; exact rplace_nwn hs A H p q idx S E d v0 env he hel hp hq hqx h1 h2 h3 hd hHE hEx hidx line wd pa _ hline hwd hpa hbb hpz hlc hsel hw rfl
  · subst hb; by_cases hdot : 0 < lstB (cutF pa) 46; exact rplace_swq hs A H p q idx S E d v0 env he hel hp hq hqx h1 h2 h3 hd hHE hEx hidx line wd pa _ hline hwd hpa hbb hpz hlc hsel hw rfl hdot; exact rplace_swp hs A H p q idx S E d v0 env he hel hp hq hqx h1 h2 h3 hd hHE hEx hidx line wd pa _ hline hwd hpa hbb hpz hlc hsel hw rfl hdot
  · subst hb; by_cases hdot : 0 < lstB (cutF pa) 46; exact rplace_nwq hs A H p q idx S E d v0 env he hel hp hq hqx h1 h2 h3 hd hHE hEx hidx line wd pa _ hline hwd hpa hbb hpz hlc hsel hw rfl hdot; exact rplace_nwp hs A H p q idx S E d v0 env he hel hp hq hqx h1 h2 h3 hd hHE hEx hidx line wd pa _ hline hwd hpa hbb hpz hlc hsel hw rfl hdot
  · subst hb; exact rplace_snn hs A H p q idx S E d v0 env he hel hp hq hqx h1 h2 h3 hd hHE hEx hidx line wd pa _ hline hwd hpa hbb hpz hlc hsel hw rfl
  · subst hb; exact rplace_nnn hs A H p q idx S E d v0 env he hel hp hq hqx h1 h2 h3 hd hHE hEx hidx line wd pa _ hline hwd hpa hbb hpz hlc hsel hw rfl
  · subst hb; by_cases hdot : 0 < lstB (cutF pa) 46; exact rplace_snq hs A H p q idx S E d v0 env he hel hp hq hqx h1 h2 h3 hd hHE hEx hidx line wd pa _ hline hwd hpa hbb hpz hlc hsel hw rfl hdot; exact rplace_snp hs A H p q idx S E d v0 env he hel hp hq hqx h1 h2 h3 hd hHE hEx hidx line wd pa _ hline hwd hpa hbb hpz hlc hsel hw rfl hdot
  · subst hb; by_cases hdot : 0 < lstB (cutF pa) 46; exact rplace_nnq hs A H p q idx S E d v0 env he hel hp hq hqx h1 h2 h3 hd hHE hEx hidx line wd pa _ hline hwd hpa hbb hpz hlc hsel hw rfl hdot; exact rplace_nnp hs A H p q idx S E d v0 env he hel hp hq hqx h1 h2 h3 hd hHE hEx hidx line wd pa _ hline hwd hpa hbb hpz hlc hsel hw rfl hdot
theorem getV_le (nm : ByteArray) (l : List Rw) (n : Nat) (h : ∀ s ∈ l, s.2.size ≤ n) : (getV nm l).size ≤ n := by
  induction l with
  | nil => exact Nat.zero_le _
  | cons a r ih =>
    unfold getV
    split
    · exact h a (by simp)
    · exact ih (fun s hs => h s (by simp [hs]))
def XPost (w : World) (R : List Rw) (k : Int) (e : Ending) (w' : World) : Prop := ∃ v', e = .returned (.tuple #[v', .int .i64 k]) ∧ Below w.heap.size w w' ∧ RwAt w' v' R
theorem px (x : ByteArray) (hs : x.size ≤ 1000) (x1 x2 : Int) (env : List Rw) (hel : env.length ≤ 100) (hsz : (getV nPa env).size ≤ 100000) (w : World) (HT : Go.Lib.TabIs Tryd.prog w "internal/strconv.uint64pow10" .u64 Go.Lib.pow10Tab) :
    ∃ (R : List Rw) (k : Int), R.length ≤ 1000 ∧ ((0 ≤ x1 ∧ x1 ≤ x.size ∧ 0 ≤ x2 ∧ x2 ≤ x.size) → k = 0) ∧
      (∀ (W : World) (r : Nat) (v : Value), Below w.heap.size w W → LnAt W r x → RwAt W v env → Calls Tryd.prog 22 #[.agg #[.pointer (some ⟨r, 0, none⟩)], .agg #[.int .i64 x1, .int .i64 x2], v] W (XPost W R k)) ∧
      (∀ (W : World) (v : Value), RwAt W v env → Calls Tryd.prog 23 #[.string x, .agg #[.int .i64 x1, .int .i64 x2], v] W (XPost W R k)) := by
  by_cases hin : 0 ≤ x1 ∧ x1 ≤ x.size ∧ 0 ≤ x2 ∧ x2 ≤ x.size
  · obtain ⟨A, rfl⟩ : ∃ A : Nat, x1 = A := ⟨x1.toNat, by omega⟩
    obtain ⟨H, rfl⟩ : ∃ H : Nat, x2 = H := ⟨x2.toNat, by omega⟩
    obtain ⟨idx, S, E, d, k1, k2, k3, k4, k5, k6, k7, k8⟩ := ln_of x H (by omega)
    refine ⟨plAll x (min A H) (max A H) (x.extract S E) (wrdF (x.extract S E) d) idx (getB nPa env) (getV nPa env) ++ env, 0, ?_, fun _ => rfl, ?_, ?_⟩
    · have h20 : (plAll x (min A H) (max A H) (x.extract S E) (wrdF (x.extract S E) d) idx (getB nPa env) (getV nPa env)).length ≤ 20 := by
        unfold plAll plSel plWord plPath
        (repeat' split) <;> simp
      rw [List.length_append]; omega
    · intro W r v hb hL hR
      refine (place_any hL (by omega) A H (min A H) (max A H) idx S E d v env hR (by omega) (by omega) (by omega) (by omega) k1 k2 k3 k4 k5 k6 (by omega) _ _ _ _ rfl rfl rfl rfl (by exact Nat.le_trans hsz (by decide)) (it_tab (tab_bl HT hb) idx (by omega)) (it_tab (tab_bl HT hb) (idx + 1) (by omega)) k8).mono ?_
      rintro e w' ⟨v', rfl, h1, h2⟩
      exact ⟨v', rfl, h1, own_rwat h2⟩
    · intro W v hR
      refine (rplace_any (by omega) A H (min A H) (max A H) idx S E d v env hR (by omega) (by omega) (by omega) (by omega) k1 k2 k3 k4 k5 k6 (by omega) _ _ _ _ rfl rfl rfl rfl (by exact Nat.le_trans hsz (by decide)) k8).mono ?_
      rintro e w' ⟨v', rfl, h1, h2⟩
      exact ⟨v', rfl, h1, own_rwat h2⟩
  · refine ⟨[], 3, by simp, fun h => absurd h hin, ?_, ?_⟩
    · intro W r v hb hL hR
      refine (place_no hL x1 x2 (by omega) v env hR).mono ?_
      rintro e w' ⟨rfl, h1⟩
      exact ⟨_, rfl, h1, .inl ⟨rfl, rfl⟩⟩
    · intro W v hR
      refine (rplace_no x (by omega) x1 x2 (by omega) v W).mono ?_
      rintro e w' ⟨rfl, h1⟩
      exact ⟨_, rfl, h1, .inl ⟨rfl, rfl⟩⟩
theorem all_any (l : List Rw) (p : ByteArray) (b : Bool) (hl : l.length ≤ 8) (hs : ∀ s ∈ l, s.2.size ≤ 200) (hp : p.size ≤ 60) : ∀ A, (if b = true then l ++ [(nPa, p)] else l) = A → A.length ≤ 9 ∧ (getV nPa A).size ≤ 100000 := by
  rintro A rfl
  refine ⟨by (split; (simp; omega); omega), Nat.le_trans (getV_le nPa _ 200 ?_) (by decide)⟩
  intro s hm
  split at hm
  · rcases List.mem_append.1 hm with h | h
    · exact hs s h
    · rw [List.mem_singleton] at h; subst h; exact Nat.le_trans hp (by decide)
  · exact hs s hm
set_option maxRecDepth 100000 in
set_option maxHeartbeats 16000000 in
theorem walk (a0 : ByteArray) (s1 : SpanM.Sp) (a2 : Value) (l2 : List SetM.Rw) (a3 : ByteArray) (a4 : Bool) (w : World) (w0 : a0.size ≤ maxLen) (b1 : Wf s1) (w2 : RwAt w a2 l2) (b2 : ∀ s ∈ l2, WfR s) (w3 : a3.size ≤ maxLen) (hT : laidMetH Tryd.prog Rows.varsPlaceRow.laid w) :
    Calls Tryd.prog 5 #[.string a0, .agg #[.int .i64 s1.1, .int .i64 s1.2], a2, .string a3, .bool a4] w fun e w' => e = .returned (.bool true) ∧ Below w.heap.size w w' := by
  have HTAB := hide (pow_tab hT)
  clear hT
  obtain ⟨x1, x2⟩ := s1
  dsimp only
  obtain ⟨i0, hi0, hz0', hz1, hz2⟩ := info_parts info_rw
  have HENV : Hid (∀ W, RwAt W a2 l2 → Calls Tryd.prog 10 #[.int .i64 8, .int .i64 200, a2] W (MuchPost l2 8 200 W)) := hide (fun W h => env_any a2 l2 8 200 W h (by decide) (by decide) b2)
  have HW := hide w2
  obtain ⟨vA, vc, rfl, hsrc⟩ := rw_src w2
  have HSRC := hide hsrc
  have hone := flatR_one l2
  clear w2 b1 b2 hsrc
  by_cases h0 : 150 < a0.size
  · have g0 : decide ((150 : Int) < (a0.size : Int)) = true := decide_eq_true (by omega)
    have g0' : decide (150 < a0.size) = true := decide_eq_true h0
    clear h0
    go_enter Tryd.func5, Tryd.ntmps5
    go_wp2_with fail
    refine (awake23_any _).mono ?_
    rintro e w9 ⟨rfl, hb9⟩
    go_wp2
    go_ret
    exact ⟨rfl, bl_trans (bl_alloc (bl_refl w) _) hb9⟩
  have g0 : decide ((150 : Int) < (a0.size : Int)) = false := decide_eq_false (by omega)
  have g0' : decide (150 < a0.size) = false := decide_eq_false h0
  have hs150 : a0.size ≤ 150 := by omega
  clear h0
  have hy1 := lowN_lt x1 (a0.size + 1) (by omega)
  have hy2 := lowN_lt x2 (a0.size + 1) (by omega)
  have HL1 : Hid (∀ W, Calls Tryd.prog 19 #[.int .i64 x1, .int .i64 ((a0.size : Int) + 1)] W fun e w' => e = .returned (.int .i64 (lowN x1 (a0.size + 1) : Nat)) ∧ W = w') := hide (fun W => low_any x1 (a0.size + 1) W (by omega) (by omega))
  have HL2 : Hid (∀ W, Calls Tryd.prog 19 #[.int .i64 x2, .int .i64 ((a0.size : Int) + 1)] W fun e w' => e = .returned (.int .i64 (lowN x2 (a0.size + 1) : Nat)) ∧ W = w') := hide (fun W => low_any x2 (a0.size + 1) W (by omega) (by omega))
  generalize lowN x1 (a0.size + 1) = y1 at *
  generalize lowN x2 (a0.size + 1) = y2 at *
  have qs : IntKind.i64.wrap ((a0.size : Int) + 1) = (a0.size : Int) + 1 := by rw [IntKind.wrap_i64]; omega
  have HO := hide (fun W => of23_b a0 W (by omega))
  have c6a : (w.alloc (.cells #[.int .i64 x1, .int .i64 x2] 39)).cell? ⟨w.heap.size, 0, none⟩ = some (.int .i64 x1) := cells_lit w _ _ 0 _ rfl
  have c6b : (w.alloc (.cells #[.int .i64 x1, .int .i64 x2] 39)).cell? ⟨w.heap.size, 1, none⟩ = some (.int .i64 x2) := cells_lit w _ _ 1 _ rfl
  have HB := hide (bl_alloc (bl_refl w) (.cells #[.int .i64 x1, .int .i64 x2] 39))
  have HPX := hide (px a0 (by omega) x1 x2)
  have HPY := hide (px a0 (by omega) (y1 : Int) (y2 : Int))
  go_enter Tryd.func5, Tryd.ntmps5
  go_wp2_with fail
  refine (HENV.out _ (rwat_below HW.out HB.out)).mono ?_
  rintro e w1 ⟨rr, rfl, hb1, hr⟩
  have c6a := cell_later hb1 c6a
  have c6b := cell_later hb1 c6b
  have HB := hide (bl_trans HB.out hb1)
  clear hb1
  cases rr
  case true =>
    go_wp2_with fail
    refine (awake23_any _).mono ?_
    rintro e w9 ⟨rfl, hb9⟩
    go_wp2
    go_ret
    exact ⟨rfl, bl_trans HB.out hb9⟩
  obtain ⟨hl8, hl2⟩ := hr.out rfl
  by_cases h3 : 60 < a3.size
  · have g3 : decide ((60 : Int) < (a3.size : Int)) = true := decide_eq_true (by omega)
    have g3' : decide (60 < a3.size) = true := decide_eq_true h3
    clear h3 hl2 hr
    go_wp2_with fail
    refine (awake23_any _).mono ?_
    rintro e w9 ⟨rfl, hb9⟩
    go_wp2
    go_ret
    exact ⟨rfl, bl_trans HB.out hb9⟩
  have g3 : decide ((60 : Int) < (a3.size : Int)) = false := decide_eq_false (by omega)
  have g3' : decide (60 < a3.size) = false := decide_eq_false h3
  obtain ⟨A, hA⟩ : ∃ A, (if a4 = true then l2 ++ [(nPa, a3)] else l2) = A := ⟨_, rfl⟩
  obtain ⟨hAl, hAz⟩ := all_any l2 a3 a4 (by omega) (fun s hs => (hl2 s hs).2) (by omega) A hA
  obtain ⟨R, k, hRl, -, P1, P2⟩ := HPX.out A (by omega) hAz w HTAB.out
  obtain ⟨R', k', hRl', hk0, Q1, Q2⟩ := HPY.out A (by omega) hAz w HTAB.out
  obtain rfl := hk0 ⟨by omega, by omega, by omega, by omega⟩
  have HP1 := hide P1
  have HP2 := hide P2
  have HQ1 := hide Q1
  have HQ2 := hide Q2
  have HPA := hide (fun (W : World) (v u : Value) (h : RwAt W v R) (g : RwAt W u R) => (pairs_any v u R R W h g hRl hRl))
  have HPB := hide (fun (W : World) (v u : Value) (h : RwAt W v R') (g : RwAt W u R') => (pairs_any v u R' R' W h g hRl' hRl'))
  have dR : decide (R = R) = true := decide_eq_true rfl
  have dR' : decide (R' = R') = true := decide_eq_true rfl
  rw [dR] at HPA
  rw [dR'] at HPB
  have hAA := hide hA
  clear h3 hl2 hr P1 P2 Q1 Q2 hAz HPX HPY hk0 dR dR' HTAB HENV hA hRl hRl'
  go_wp2_with fail
  refine (HO.out _).mono ?_
  rintro e w2 ⟨r, rfl, hL, hb2, _⟩
  have c0 := ln_c0 w2 r
  have hb2' := bl_trans hb2 (ln_b0 w2 r)
  have c6a := cell_later hb2' c6a
  have c6b := cell_later hb2' c6b
  have HB := hide (bl_trans HB.out hb2')
  have HL := hide (hL.bl (ln_b0 w2 r))
  clear hL hb2 hb2' HO
  obtain ⟨wx, hwx⟩ : ∃ wx, w2.alloc (.cells #[.pointer (some ⟨r, 0, none⟩)] 42) = wx := ⟨_, rfl⟩
  rw [hwx] at c0 HB HL c6a c6b
  have HAT := hide (show (wx.alloc (.cells #[] 46)).ownsRow wx.heap.size 46 2 (.slice (some ⟨wx.heap.size, 0, none⟩) 0 0) 0 [] from own_at (heap_new rfl) (Nat.le_refl _))
  have HSR := hide (src_below HSRC.out (bl_trans HB.out (bl_alloc (bl_refl wx) (.cells #[] 46))))
  clear HSRC
  cases a4
  · go_wp2_with (at_builtin; (refine wpList_src _ rfl _ _ 22 rfl wx.heap.size 46 i0 (.agg #[.string ⟨#[]⟩, .string ⟨#[]⟩]) 2 32 Tryd.underlying22 hi0 hz0' hz1 hz2 rfl (by decide) (.slice (some ⟨wx.heap.size, 0, none⟩) 0 0) 0 [] rfl HAT.out vA l2.length vc (flatR l2) rfl HSR.out hone (by omega) (by decide) (by simp) ?_); intro v8 w8 hv8 hg8; rw [Nat.zero_add, List.nil_append] at hv8; have B8 := hide (bl_grown (bl_alloc (bl_refl wx) (.cells #[] 46)) hg8 (fun k hk => (World.ownsRow.lt HAT.out k hk).1)); obtain ⟨aV, cV, rfl⟩ := own_slice hv8; have HV8 := hide hv8; clear hv8 hg8; have c6a := cell_later B8.out c6a; have c6b := cell_later B8.out c6b; have c0 := cell_later B8.out c0)
    clear HAT HSR hone
    obtain rfl : l2 = A := hAA.out
    have RA := hide (own_rwat HV8.out)
    have HB := hide (bl_trans HB.out B8.out)
    have HL := hide (HL.out.bl B8.out)
    clear B8 HV8
    refine (HP1.out _ r _ HB.out HL.out RA.out).mono ?_
    rintro e w5 ⟨v1, rfl, hb5, R1⟩
    have c6a := cell_later hb5 c6a
    have c6b := cell_later hb5 c6b
    have c0 := cell_later hb5 c0
    have HB := hide (bl_trans HB.out hb5)
    have HL := hide (HL.out.bl hb5)
    have RA := hide (rwat_below RA.out hb5)
    clear hb5 HP1
    go_wp2_with fail
    refine (HP2.out _ _ RA.out).mono ?_
    rintro e w6 ⟨v2, rfl, hb6, R2⟩
    have R1 := rwat_below R1 hb6
    have c6a := cell_later hb6 c6a
    have c6b := cell_later hb6 c6b
    have c0 := cell_later hb6 c0
    have HB := hide (bl_trans HB.out hb6)
    have HL := hide (HL.out.bl hb6)
    have RA := hide (rwat_below RA.out hb6)
    clear hb6 HP2
    go_wp2
    have HKEEP := hide (fun W (hh : Below w6.heap.size w6 W) => And.intro hh (And.intro (cell_later hh c6a) (cell_later hh c6b)))
    go_region_held3 (fun W => Below w6.heap.size w6 W ∧ W.cell? ⟨w.heap.size, 0, none⟩ = some (.int .i64 x1) ∧ W.cell? ⟨w.heap.size, 1, none⟩ = some (.int .i64 x2))
      ((try go_split_ands
        refine HKEEP.out _ ?_
        repeat (first | assumption | exact bl_refl _ | refine bl_drew ?_ | refine bl_alloc ?_ _)))
      (first
        | (go_at_call 19
           first
             | ((with_reducible refine (HL1.out _).mono ?_); rintro e wa ⟨rfl, hwa⟩; subst hwa)
             | ((with_reducible refine (HL2.out _).mono ?_); rintro e wa ⟨rfl, hwa⟩; subst hwa))
        | fail)
    all_goals
      clear HKEEP HL1 HL2
      have hb67 : Below w6.heap.size w6 ((w6.alloc (.cells #[.int .i64 y1, .int .i64 y2] 39)).drew) := bl_drew (bl_alloc (bl_refl _) _)
      have c0 := cell_later hb67 c0
      have c7a : ((w6.alloc (.cells #[.int .i64 y1, .int .i64 y2] 39)).drew).cell? ⟨w6.heap.size, 0, none⟩ = some (.int .i64 y1) := by go_simp
      have c7b : ((w6.alloc (.cells #[.int .i64 y1, .int .i64 y2] 39)).drew).cell? ⟨w6.heap.size, 1, none⟩ = some (.int .i64 y2) := by go_simp
      have HB := hide (bl_trans HB.out hb67)
      have HL := hide (HL.out.bl hb67)
      have RA := hide (rwat_below RA.out hb67)
      have R1 := rwat_below R1 hb67
      have R2 := rwat_below R2 hb67
      clear hb67 c6a c6b
      generalize ((w6.alloc (.cells #[.int .i64 y1, .int .i64 y2] 39)).drew) = wy at *
      go_wp2_with fail
      refine (HQ1.out _ r _ HB.out HL.out RA.out).mono ?_
      rintro e w7 ⟨v3, rfl, hb7, R3⟩
      have R1 := rwat_below R1 hb7
      have R2 := rwat_below R2 hb7
      have c7a := cell_later hb7 c7a
      have c7b := cell_later hb7 c7b
      have RA := hide (rwat_below RA.out hb7)
      have HB := hide (bl_trans HB.out hb7)
      clear hb7 HQ1 HL c0
      go_wp2_with fail
      refine (HQ2.out _ _ RA.out).mono ?_
      rintro e w8 ⟨v4, rfl, hb8, R4⟩
      have R1 := rwat_below R1 hb8
      have R2 := rwat_below R2 hb8
      have R3 := rwat_below R3 hb8
      have HB := hide (bl_trans HB.out hb8)
      clear hb8 HQ2 RA c7a c7b
      go_wp2_with fail
      refine (HPA.out _ _ _ R1 R2).mono ?_
      rintro e wa ⟨rfl, n1, rfl⟩
      have R3 := rwat_below R3 (bl_drewN (bl_refl _) n1)
      have R4 := rwat_below R4 (bl_drewN (bl_refl _) n1)
      clear R1 R2 HPA
      go_wp2_with fail
      refine (HPB.out _ _ _ R3 R4).mono ?_
      rintro e wb ⟨rfl, n2, rfl⟩
      clear R3 R4 HPB
      go_wp2_with fail
      refine (awake23_any _).mono ?_
      rintro e w9 ⟨rfl, hb9⟩
      go_wp2
      go_ret
      exact ⟨rfl, bl_trans (bl_drewN HB.out (n1 + n2)) hb9⟩
  · have hAe : l2 ++ [(nPa, a3)] = A := hAA.out
    go_wp2_with (at_builtin; first | ((refine wpList_push w8 rfl _ _ 22 rfl wx.heap.size 46 i0 (.agg #[.string ⟨#[]⟩, .string ⟨#[]⟩]) 2 32 Tryd.underlying22 hi0 hz0' hz1 hz2 rfl (by decide) (.slice aV l2.length cV) l2.length (flatR l2) rfl HV8.out 1 #[.string nPa, .string a3] rfl rfl (by simp [Value.oneCell']) (by omega) (by decide) (by have := B8.out.size; omega) ?_); intro v' w4 hv4 hg4 hat; have HV4 := hide hv4; have HG4 := hide (bl_own B8.out HV8.out hg4 (Nat.le_refl _)); obtain ⟨vB, vd, rfl⟩ := own_slice hv4; have HV4 := hide hv4; clear hv4 hg4 hat; have c6a := cell_later HG4.out c6a; have c6b := cell_later HG4.out c6b; have c0 := cell_later HG4.out c0) | ((refine wpList_src _ rfl _ _ 22 rfl wx.heap.size 46 i0 (.agg #[.string ⟨#[]⟩, .string ⟨#[]⟩]) 2 32 Tryd.underlying22 hi0 hz0' hz1 hz2 rfl (by decide) (.slice (some ⟨wx.heap.size, 0, none⟩) 0 0) 0 [] rfl HAT.out vA l2.length vc (flatR l2) rfl HSR.out hone (by omega) (by decide) (by simp) ?_); intro v8 w8 hv8 hg8; rw [Nat.zero_add, List.nil_append] at hv8; have B8 := hide (bl_grown (bl_alloc (bl_refl wx) (.cells #[] 46)) hg8 (fun k hk => (World.ownsRow.lt HAT.out k hk).1)); obtain ⟨aV, cV, rfl⟩ := own_slice hv8; have HV8 := hide hv8; clear hv8 hg8))
    clear HAT HSR hone
    have hv5 : w4.ownsRow wx.heap.size 46 2 (.slice vB A.length vd) A.length (flatR A) := by
      rw [← hAe, flatR_app, List.length_append]; exact HV4.out
    have hAl2 : A.length = l2.length + 1 := by rw [← hAe]; simp
    have RA := hide (show RwAt w4 (.slice vB (l2.length + 1) vd) A from by have h0 := own_rwat hv5; rwa [hAl2] at h0)
    have HB := hide (bl_trans HB.out HG4.out)
    have HL := hide (HL.out.bl HG4.out)
    clear B8 HV8 HV4 HG4 hv5 hAe
    refine (HP1.out _ r _ HB.out HL.out RA.out).mono ?_
    rintro e w5 ⟨v1, rfl, hb5, R1⟩
    have c6a := cell_later hb5 c6a
    have c6b := cell_later hb5 c6b
    have c0 := cell_later hb5 c0
    have HB := hide (bl_trans HB.out hb5)
    have HL := hide (HL.out.bl hb5)
    have RA := hide (rwat_below RA.out hb5)
    clear hb5 HP1
    go_wp2_with fail
    refine (HP2.out _ _ RA.out).mono ?_
    rintro e w6 ⟨v2, rfl, hb6, R2⟩
    have R1 := rwat_below R1 hb6
    have c6a := cell_later hb6 c6a
    have c6b := cell_later hb6 c6b
    have c0 := cell_later hb6 c0
    have HB := hide (bl_trans HB.out hb6)
    have HL := hide (HL.out.bl hb6)
    have RA := hide (rwat_below RA.out hb6)
    clear hb6 HP2
    go_wp2
    have HKEEP := hide (fun W (hh : Below w6.heap.size w6 W) => And.intro hh (And.intro (cell_later hh c6a) (cell_later hh c6b)))
    go_region_held3 (fun W => Below w6.heap.size w6 W ∧ W.cell? ⟨w.heap.size, 0, none⟩ = some (.int .i64 x1) ∧ W.cell? ⟨w.heap.size, 1, none⟩ = some (.int .i64 x2))
      ((try go_split_ands
        refine HKEEP.out _ ?_
        repeat (first | assumption | exact bl_refl _ | refine bl_drew ?_ | refine bl_alloc ?_ _)))
      (first
        | (go_at_call 19
           first
             | ((with_reducible refine (HL1.out _).mono ?_); rintro e wa ⟨rfl, hwa⟩; subst hwa)
             | ((with_reducible refine (HL2.out _).mono ?_); rintro e wa ⟨rfl, hwa⟩; subst hwa))
        | fail)
    all_goals
      clear HKEEP HL1 HL2
      have hb67 : Below w6.heap.size w6 ((w6.alloc (.cells #[.int .i64 y1, .int .i64 y2] 39)).drew) := bl_drew (bl_alloc (bl_refl _) _)
      have c0 := cell_later hb67 c0
      have c7a : ((w6.alloc (.cells #[.int .i64 y1, .int .i64 y2] 39)).drew).cell? ⟨w6.heap.size, 0, none⟩ = some (.int .i64 y1) := by go_simp
      have c7b : ((w6.alloc (.cells #[.int .i64 y1, .int .i64 y2] 39)).drew).cell? ⟨w6.heap.size, 1, none⟩ = some (.int .i64 y2) := by go_simp
      have HB := hide (bl_trans HB.out hb67)
      have HL := hide (HL.out.bl hb67)
      have RA := hide (rwat_below RA.out hb67)
      have R1 := rwat_below R1 hb67
      have R2 := rwat_below R2 hb67
      clear hb67 c6a c6b
      generalize ((w6.alloc (.cells #[.int .i64 y1, .int .i64 y2] 39)).drew) = wy at *
      go_wp2_with fail
      refine (HQ1.out _ r _ HB.out HL.out RA.out).mono ?_
      rintro e w7 ⟨v3, rfl, hb7, R3⟩
      have R1 := rwat_below R1 hb7
      have R2 := rwat_below R2 hb7
      have c7a := cell_later hb7 c7a
      have c7b := cell_later hb7 c7b
      have RA := hide (rwat_below RA.out hb7)
      have HB := hide (bl_trans HB.out hb7)
      clear hb7 HQ1 HL c0
      go_wp2_with fail
      refine (HQ2.out _ _ RA.out).mono ?_
      rintro e w8 ⟨v4, rfl, hb8, R4⟩
      have R1 := rwat_below R1 hb8
      have R2 := rwat_below R2 hb8
      have R3 := rwat_below R3 hb8
      have HB := hide (bl_trans HB.out hb8)
      clear hb8 HQ2 RA c7a c7b
      go_wp2_with fail
      refine (HPA.out _ _ _ R1 R2).mono ?_
      rintro e wa ⟨rfl, n1, rfl⟩
      have R3 := rwat_below R3 (bl_drewN (bl_refl _) n1)
      have R4 := rwat_below R4 (bl_drewN (bl_refl _) n1)
      clear R1 R2 HPA
      go_wp2_with fail
      refine (HPB.out _ _ _ R3 R4).mono ?_
      rintro e wb ⟨rfl, n2, rfl⟩
      clear R3 R4 HPB
      go_wp2_with fail
      refine (awake23_any _).mono ?_
      rintro e w9 ⟨rfl, hb9⟩
      go_wp2
      go_ret
      exact ⟨rfl, bl_trans (bl_drewN HB.out (n1 + n2)) hb9⟩

set_option maxRecDepth 100000 in
theorem lifted (os : Os) (started : os.Started) (H : Type) (enc : TypeId × Value → H) :
    ReturnsInHanded {} Tryd.checked os 5 .any (fun w args => (Rows.varsPlaceSpec.pre enc Tryd.prog Tryd.f5 Rows.varsPlaceRow.domain false w args ∧ laidMetH Tryd.prog Rows.varsPlaceRow.laid w) ∧ sizedMet enc Tryd.prog Tryd.f5 (OpenSpec.ofChange Rows.varsPlaceSpec) false w args) (Rows.varsPlaceSpec.post enc Tryd.prog Tryd.f5 false true false false) := by
  refine returnsInHanded_of_change_and (C := Tryd.checked) (X := fun w _ => laidMetH Tryd.prog Rows.varsPlaceRow.laid w) (fun _ _ _ hh h => h.of_heap hh) own started (by kernel_rfl) Tryd.func5
    (ChangeSpec.witness_shaped (enc := enc) (C := Tryd.checked) (os := os) (X := fun w _ => laidMetH Tryd.prog Rows.varsPlaceRow.laid w) false (World.laidAll Tryd.prog os Rows.varsPlaceRow.laid) #[.string ByteArray.empty, .agg #[.int .i64 0, .int .i64 0], .slice none 0 0, .string ByteArray.empty, .bool false] 8 (World.laidAll_os _ _ _)
      (World.shaped_of_ZipB (by kernel_rfl) (by kernel_rfl)) (by kernel_rfl) (by kernel_rfl) (by kernel_rfl)
      (by rw [MakeChecks.laidMetH_plain _ _ _ (by kernel_rfl)]; exact laidMet_laidAll _ (by kernel_rfl) (by kernel_rfl))) ?_
  intro W base args ds gs before hval0 hW hcnd _ hL _
  have hval : ∀ (j : Nat) t v, Tryd.f5.params[j]? = some t → args[j]? = some v → Value.okWide Tryd.prog W .any base t v := hval0
  have hW' := hW
  obtain ⟨p, q, hA0, hV, rfl, hfz, hnd⟩ := hW
  have hA : DataW.TrodAll enc Tryd.prog W 0 (fun _ => true) true Tryd.f5.params.toList args.toList ds p := hA0
  rw [Tryd.params5] at hA hval
  obtain ⟨v0, vs0, d0, ds0, p0, q0, hargs, rfl, rfl, h0, r0⟩ := trodAll_cons hA
  obtain ⟨v1, vs1, d1, ds1, p1, q1, rfl, rfl, rfl, h1, r1⟩ := trodAll_cons r0
  obtain ⟨v2, vs2, d2, ds2, p2, q2, rfl, rfl, rfl, h2, r2⟩ := trodAll_cons r1
  obtain ⟨v3, vs3, d3, ds3, p3, q3, rfl, rfl, rfl, h3, r3⟩ := trodAll_cons r2
  obtain ⟨v4, vs4, d4, ds4, p4, q4, rfl, rfl, rfl, h4, r4⟩ := trodAll_cons r3
  obtain ⟨rfl, rfl, rfl⟩ := trodAll_nil r4
  obtain rfl : args = #[v0, v1, v2, v3, v4] := by cases args; simp_all
  obtain ⟨rfl, rfl⟩ := trodVars_none hV
  have k0 := h0
  have lt0 : ∀ x ∈ p0, x.block < W.heap.size := by obtain ⟨m, hm⟩ := k0; exact DataW.trod_lt m _ _ _ hm
  obtain ⟨a0, rfl, hd0, hp0, w0⟩ := open_string Tryd.underlying9 (hval 0 9 v0 rfl rfl) h0
  have k1 := h1
  have lt1 : ∀ x ∈ p1, x.block < W.heap.size := by obtain ⟨m, hm⟩ := k1; exact DataW.trod_lt m _ _ _ hm
  obtain ⟨s1, rfl, b1⟩ := open_span (hval 1 39 v1 rfl rfl) h1
  have k2 := h2
  have lt2 : ∀ x ∈ p2, x.block < W.heap.size := by obtain ⟨m, hm⟩ := k2; exact DataW.trod_lt m _ _ _ hm
  obtain ⟨l2, w2, b2⟩ := open_rows (hval 2 22 v2 rfl rfl) h2
  have k3 := h3
  have lt3 : ∀ x ∈ p3, x.block < W.heap.size := by obtain ⟨m, hm⟩ := k3; exact DataW.trod_lt m _ _ _ hm
  obtain ⟨a3, rfl, hd3, hp3, w3⟩ := open_string Tryd.underlying9 (hval 3 9 v3 rfl rfl) h3
  have k4 := h4
  have lt4 : ∀ x ∈ p4, x.block < W.heap.size := by obtain ⟨m, hm⟩ := k4; exact DataW.trod_lt m _ _ _ hm
  obtain ⟨a4, rfl, hd4, hp4⟩ := open_bool Tryd.underlying4 (hval 4 4 v4 rfl rfl) h4
  clear hA0 hval0
  refine (walk a0 s1 v2 l2 a3 a4 W w0 b1 w2 b2 w3 hL).mono fun e W' ⟨he, bel⟩ => ?_
  subst he
  exact ⟨_, rfl, _, _, _, [], _, [], hW', trodAll_mk1 (shut_bool Tryd.underlying4 _), (trodAll_cons_mk (Below.trod laidOut (by kernel_rfl) (of_decide_eq_true (by kernel_rfl)) k0 bel lt0) (trodAll_cons_mk (Below.trod laidOut (by kernel_rfl) (of_decide_eq_true (by kernel_rfl)) k1 bel lt1) (trodAll_cons_mk (Below.trod laidOut (by kernel_rfl) (of_decide_eq_true (by kernel_rfl)) k2 bel lt2) (trodAll_cons_mk (Below.trod laidOut (by kernel_rfl) (of_decide_eq_true (by kernel_rfl)) k3 bel lt3) (trodAll_cons_mk (Below.trod laidOut (by kernel_rfl) (of_decide_eq_true (by kernel_rfl)) k4 bel lt4) trodAll_mk0))))), rfl, bel.frame _, fun h => by cases h⟩

theorem over : Rows.varsPlaceRow.holds Tryd.pinned (OpenSpec.ofChange Rows.varsPlaceSpec) :=
  OpenClaim.holds_of_wide 5 Tryd.f5 rfl rfl rfl rfl rfl rfl rfl ⟨rfl, rfl, rfl, rfl, rfl⟩ rfl rfl rfl rfl rfl (by kernel_rfl) Tryd.func5 (by kernel_rfl)
    (of_decide_eq_true (by kernel_rfl)) (by unfold Func.isWrapper; first | (rw [if_pos (by decide +kernel)]; kernel_rfl) | (rw [if_neg (by decide +kernel)]; exact ⟨rfl, rfl⟩))
    (fun os started H enc _ => lifted os started H enc)

set_option maxRecDepth 100000 in
theorem proved : Rows.VarsPlaceCardSaid :=
  Claim7.holds_tied_plain_at .later [] [.data, .data, .data] true (true, "ad88b18fa5cecbf30a26213c9b87035bcf4c1f531589068041e55abbb04c666c") false
    over (fun _ h => by cases h) (by kernel_rfl) (fun _ h => by cases h) varsPlace_row_tie rfl ⟨rfl, rfl⟩ (by kernel_rfl) rfl
    (fun f fn hf hfn => by
      obtain rfl : f = 5 := Option.some.inj ((show Tryd.prog.funcNamed "gimlet/gimletlaw23.VarsPlace" = some 5 by kernel_rfl).symm.trans hf) |>.symm
      obtain rfl : fn = Tryd.f5 := (Option.some.inj (Tryd.func5.symm.trans hfn)).symm
      refine ⟨by kernel_rfl, fun j t ht => ?_⟩
      rw [Tryd.params5] at ht
      have hm := Array.mem_of_getElem? ht
      simp at hm
      first
        | (rcases hm with rfl <;> first  | exact (show Tryd.prog.wantsStandIn 4 = false by kernel_rfl) | exact (show Tryd.prog.wantsStandIn 9 = false by kernel_rfl) | exact (show Tryd.prog.wantsStandIn 22 = false by kernel_rfl) | exact (show Tryd.prog.wantsStandIn 39 = false by kernel_rfl))
        | (rcases hm with rfl | rfl <;> first  | exact (show Tryd.prog.wantsStandIn 4 = false by kernel_rfl) | exact (show Tryd.prog.wantsStandIn 9 = false by kernel_rfl) | exact (show Tryd.prog.wantsStandIn 22 = false by kernel_rfl) | exact (show Tryd.prog.wantsStandIn 39 = false by kernel_rfl))
        | (rcases hm with rfl | rfl | rfl <;> first  | exact (show Tryd.prog.wantsStandIn 4 = false by kernel_rfl) | exact (show Tryd.prog.wantsStandIn 9 = false by kernel_rfl) | exact (show Tryd.prog.wantsStandIn 22 = false by kernel_rfl) | exact (show Tryd.prog.wantsStandIn 39 = false by kernel_rfl))
        | (rcases hm with rfl | rfl | rfl | rfl <;> first  | exact (show Tryd.prog.wantsStandIn 4 = false by kernel_rfl) | exact (show Tryd.prog.wantsStandIn 9 = false by kernel_rfl) | exact (show Tryd.prog.wantsStandIn 22 = false by kernel_rfl) | exact (show Tryd.prog.wantsStandIn 39 = false by kernel_rfl))
        | (rcases hm with rfl | rfl | rfl | rfl | rfl <;> first  | exact (show Tryd.prog.wantsStandIn 4 = false by kernel_rfl) | exact (show Tryd.prog.wantsStandIn 9 = false by kernel_rfl) | exact (show Tryd.prog.wantsStandIn 22 = false by kernel_rfl) | exact (show Tryd.prog.wantsStandIn 39 = false by kernel_rfl)))
    (by kernel_rfl)
end Go.Proofs.YtmjadcjpgcbalaaDoor.varsPlace
