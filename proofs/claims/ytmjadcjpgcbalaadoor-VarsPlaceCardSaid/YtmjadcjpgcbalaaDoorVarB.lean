/- Contract: the variables of a place (vars.Place). Condition: the selection lies in the text, which is not too long. -/
import Derived.Test.YtmjadcjpgcbalaaDoorVarA
import Derived.Test.YtmjadcjpgcbalaaDoorLinR
import Derived.Deep.RegionHeld3
namespace Go.Proofs.YtmjadcjpgcbalaaDoor
open Go.ChangeShapes Go.WideShapes Go.ChangeAt Go.RowKit
open SpanM SetM
attribute [local go_sem ↓] Go.wp_at_zero Go.wp_at_succ
attribute [local go_sem] later_cell later_frozen
set_option maxRecDepth 100000
set_option linter.unusedVariables false
def itoaS (i : Nat) : ByteArray := ⟨(Go.Lib.decDigits i).toArray⟩
/-- The library tells this number, wherever it is asked for behind w. -/
def ItOK (w : World) (i : Nat) : Prop := ∀ W, Below w.heap.size w W → Calls Tryd.prog 44 #[.int .i64 i] W fun e w' => e = .returned (.string (itoaS i)) ∧ Below W.heap.size W w'
theorem it_small (w : World) (i : Nat) (h : i < 100) : ItOK w i := fun W _ => by
  refine (Any.strconv_Itoa_small itoaR i h W).mono ?_
  rintro e w' ⟨rfl, rfl⟩
  exact ⟨rfl, bl_refl _⟩
def plSel (x : ByteArray) (p q : Nat) : List Rw := if p < q then [(⟨#[84, 77, 95, 83, 69, 76, 69, 67, 84, 69, 68, 95, 84, 69, 88, 84]⟩, x.extract p q)] else []
def plWord (r : ByteArray) : List Rw := if r.toList.isEmpty then [] else [(⟨#[84, 77, 95, 67, 85, 82, 82, 69, 78, 84, 95, 87, 79, 82, 68]⟩, r)]
def plPath (b : Bool) (p : ByteArray) : List Rw := if b then [(⟨#[84, 77, 95, 70, 73, 76, 69, 78, 65, 77, 69]⟩, cutF p), (⟨#[84, 77, 95, 70, 73, 76, 69, 78, 65, 77, 69, 95, 66, 65, 83, 69]⟩, basF (cutF p)), (⟨#[84, 77, 95, 68, 73, 82, 69, 67, 84, 79, 82, 89]⟩, cutD p)] else []
/-- What a place's list is, ahead of the variables given. -/
def plAll (x : ByteArray) (p q : Nat) (line : ByteArray) (wd : ByteArray) (idx : Nat) (b : Bool) (pa : ByteArray) : List Rw :=
  plSel x p q ++ [(⟨#[84, 77, 95, 67, 85, 82, 82, 69, 78, 84, 95, 76, 73, 78, 69]⟩, line)] ++ plWord wd ++ [(⟨#[84, 77, 95, 76, 73, 78, 69, 95, 73, 78, 68, 69, 88]⟩, itoaS idx)] ++ [(⟨#[84, 77, 95, 76, 73, 78, 69, 95, 78, 85, 77, 66, 69, 82]⟩, itoaS (idx + 1))] ++ plPath b pa
def VPost (w : World) (R : List Rw) (e : Ending) (w' : World) : Prop := ∃ v', e = .returned (.tuple #[v', .int .i64 0]) ∧ Below w.heap.size w w' ∧ w'.ownsRow w.heap.size 46 2 v' R.length (flatR R)
theorem rw_src {w : World} {v : Value} {l : List Rw} (h : RwAt w v l) : ∃ A c, v = .slice A l.length c ∧ Src w 2 A l.length (flatR l) := by
  rcases h with ⟨rfl, rfl⟩ | ⟨x, c, rfl, h1, h2, h3⟩
  · exact ⟨none, 0, rfl, rfl, .inl rfl⟩
  · refine ⟨_, c, rfl, flatR_len l, .inr ⟨x, rfl, fun j u hu => ?_⟩⟩
    have hj : j < l.length * 2 := by
      have := (List.getElem?_eq_some_iff.1 hu).1
      rwa [flatR_len] at this
    have hq : j / 2 < l.length := by omega
    have hf := flatR_at l (j / 2) hq
    have hc := h3 (j / 2) hq
    rcases Nat.mod_two_eq_zero_or_one j with hh | hh
    · have ht : j / 2 * 2 = j := by omega
      rw [ht] at hf hc
      rw [hu] at hf
      rw [Option.some.inj hf.1]
      exact hc.1
    · have ht : j / 2 * 2 + 1 = j := by omega
      rw [ht] at hf hc
      rw [hu] at hf
      rw [Option.some.inj hf.2]
      exact hc.2
theorem acc_b {w9 w : World} {l : List Rw} (h : Acc w9 l w) : Below w9.heap.size w9 w := h.1
theorem acc_start (w : World) : Acc w [] (w.alloc (.cells #[.slice none 0 0] 22)) := by
  have hn := heap_alloc_new w (.cells #[.slice none 0 0] 22)
  exact ⟨bl_alloc (bl_refl w) _, by unfold World.frozen?; rw [hn]; rfl, .slice none 0 0, cells_lit w _ _ 0 _ rfl, ⟨rfl, .inl ⟨rfl, rfl⟩⟩⟩
set_option maxHeartbeats 16000000 in
theorem place_nnn {w : World} {r : Nat} {x : ByteArray} (h : LnAt w r x) (hs : x.size ≤ 100000) (A H p q idx S E d : Nat) (v0 : Value) (env : List Rw) (he : RwAt w v0 env) (hel : env.length ≤ 1000)
    (hp : min (A : Int) H = p) (hq : max (A : Int) H = q) (hqx : q ≤ x.size) (h1 : atV x.data.toList H = idx) (h2 : lnSv x.data.toList idx = S) (h3 : lnEv x.data.toList idx = E) (hd : S + d = H) (hHE : H ≤ E) (hEx : E ≤ x.size) (hidx : idx ≤ 100000)
    (line wd pa : ByteArray) (b : Bool) (hline : x.extract S E = line) (hwd : wrdF line d = wd) (hpa : getV ⟨#[84, 77, 95, 70, 73, 76, 69, 80, 65, 84, 72]⟩ env = pa) (hbb : getB ⟨#[84, 77, 95, 70, 73, 76, 69, 80, 65, 84, 72]⟩ env = b) (hpz : pa.size ≤ 1000000) (hi1 : ItOK w idx) (hi2 : ItOK w (idx + 1)) (hsel : ¬ p < q) (hwe' : wd.toList.isEmpty = true) (hbt' : b = false) (hlc0 : lnC x.data.toList idx = 0) :
    Calls Tryd.prog 22 #[.agg #[.pointer (some ⟨r, 0, none⟩)], .agg #[.int .i64 A, .int .i64 H], v0] w (VPost w (plAll x p q line wd idx b pa ++ env)) := by
  have hwe : (wd.toList.isEmpty = true) := by simp [hwe']
  have hbt : ¬ (b = true) := by simp [hbt']
  obtain ⟨i0, hi0, hz0', hz1, hz2⟩ := info_parts info_rw
  obtain ⟨vA, vc, rfl, hsrc⟩ := rw_src he
  have hAH : (p : Int) ≤ q := by omega
  have hlz : line.size = E - S := by rw [← hline, ByteArray.size_extract]; omega
  have hm : mayR 0 (H : Int) x.size = 0 := by unfold mayR; rw [if_neg (by omega)]
  have hlc : lnC x.data.toList idx = 0 := hlc0
  have hH1 : (H : Int) ≤ x.size := by omega
  have HSP := hide (fun W => spanV (A : Int) H p q hp hq W)
  have HMAY := hide (fun W => (show Calls Tryd.prog 38 #[.agg #[.int .i64 p, .int .i64 q], .int .i64 x.size] W fun e w' => e = .returned (.bool true) ∧ Below W.heap.size W w' from by
    have := may_any (p, q) x.size W
    rwa [show mayB ((p : Int), (q : Int)) x.size = true from decide_eq_true (by omega)] at this))
  have HLEN := hide (fun W (hb : Below w.heap.size w W) => ln_len (h.bl hb))
  have HLN := hide h
  have HSRC := hide hsrc
  have HE := hide he
  have HI1 := hide hi1
  have HI2 := hide hi2
  have HR : Hid (plAll x p q line wd idx b pa = [] ++ [(⟨#[84, 77, 95, 67, 85, 82, 82, 69, 78, 84, 95, 76, 73, 78, 69]⟩, line)] ++ [(⟨#[84, 77, 95, 76, 73, 78, 69, 95, 73, 78, 68, 69, 88]⟩, itoaS idx)] ++ [(⟨#[84, 77, 95, 76, 73, 78, 69, 95, 78, 85, 77, 66, 69, 82]⟩, itoaS (idx + 1))]) := hide (by unfold plAll plSel plWord plPath; rw [if_neg hsel]; rw [if_pos hwe]; rw [if_neg hbt]; simp)
  clear hi1 hi2 hsrc hp hq
  go_enter Tryd.func22, Tryd.ntmps22
  go_wp2_with fail
  (with_reducible refine (HSP.out _).mono ?_)
  rintro e w1 ⟨rfl, hb1⟩
  have hb00 := bl_alloc (bl_alloc (bl_refl w) (.cells #[.pointer (some ⟨r, 0, none⟩)] 42)) (.cells #[.int .i64 A, .int .i64 H] 39)
  have c3 : ((w.alloc (.cells #[.pointer (some ⟨r, 0, none⟩)] 42)).alloc (.cells #[.int .i64 A, .int .i64 H] 39)).cell? ⟨w.heap.size, 0, none⟩ = some (.pointer (some ⟨r, 0, none⟩)) := by go_simp
  have c41 : ((w.alloc (.cells #[.pointer (some ⟨r, 0, none⟩)] 42)).alloc (.cells #[.int .i64 A, .int .i64 H] 39)).cell? ⟨w.heap.size + 1, 0, none⟩ = some (.int .i64 A) := by go_simp
  have c42 : ((w.alloc (.cells #[.pointer (some ⟨r, 0, none⟩)] 42)).alloc (.cells #[.int .i64 A, .int .i64 H] 39)).cell? ⟨w.heap.size + 1, 1, none⟩ = some (.int .i64 H) := by go_simp
  replace c3 := cell_later hb1 c3
  replace c41 := cell_later hb1 c41
  replace c42 := cell_later hb1 c42
  have hb01 := bl_trans hb00 hb1
  have hb02 := bl_trans hb01 (bl_alloc (bl_refl w1) (.cells #[.int .i64 p, .int .i64 q] 71))
  have hb11 := bl_alloc (bl_refl w1) (.cells #[.int .i64 p, .int .i64 q] 71)
  have c81 : (w1.alloc (.cells #[.int .i64 p, .int .i64 q] 71)).cell? ⟨w1.heap.size, 0, none⟩ = some (.int .i64 p) := by go_simp
  have c82 : (w1.alloc (.cells #[.int .i64 p, .int .i64 q] 71)).cell? ⟨w1.heap.size, 1, none⟩ = some (.int .i64 q) := by go_simp
  replace c3 := cell_later hb11 c3
  replace c41 := cell_later hb11 c41
  replace c42 := cell_later hb11 c42
  have HB02 := hide hb02
  clear hb00 hb01 hb02 hb1 hb11
  go_wp2
  generalize (w1.alloc (.cells #[.int .i64 p, .int .i64 q] 71)) = w2 at *
  have n1 := World.block_lt_of_cell? _ _ c3
  have n2 := World.block_lt_of_cell? _ _ c81
  refine wp_region_later (by kernel_rfl) (by kernel_rfl) ?_
  repeat (go_big_quiet_step (first
    | (go_at_call 39; exact later_call_same (HLEN.out _ (bl_trans HB02.out (Later.below _))))
    | (go_at_call 38; exact later_call (HMAY.out _))
    | exact rfl))
  refine wpQuiet_nil ?_
  rintro w9 ⟨⟨_, hb9⟩, rfl⟩
  have C3 := hide (cell_later hb9 c3)
  have C41 := hide (cell_later hb9 c41)
  have C42 := hide (cell_later hb9 c42)
  have C81 := hide (cell_later hb9 c81)
  have C82 := hide (cell_later hb9 c82)
  have HB9 := hide (bl_trans HB02.out hb9)
  have HL := hide (HLN.out.bl HB9.out)
  have HIT1 := hide (fun W (hb : Below w9.heap.size w9 W) => HI1.out W (bl_trans HB9.out hb))
  have HIT2 := hide (fun W (hb : Below w9.heap.size w9 W) => (show Calls Tryd.prog 44 #[.int .i64 ((idx : Int) + 1)] W fun e w' => e = .returned (.string (itoaS (idx + 1))) ∧ Below W.heap.size W w' from by
    have := HI2.out W (bl_trans HB9.out hb)
    rwa [show (((idx + 1 : Nat)) : Int) = (idx : Int) + 1 by omega] at this))
  have HAT := hide (fun W (hb : Below w9.heap.size w9 W) => (show Calls Tryd.prog 24 #[.agg #[.pointer (some ⟨r, 0, none⟩)], .int .i64 H] W fun e w' => e = .returned (.tuple #[.int .i64 idx, .int .i64 0]) ∧ Below W.heap.size W w' from by
    have := at_l (HL.out.bl hb) hs (H : Int)
    rwa [h1, hm] at this))
  have HST := hide (fun W (hb : Below w9.heap.size w9 W) => (show Calls Tryd.prog 25 #[.agg #[.pointer (some ⟨r, 0, none⟩)], .int .i64 idx] W fun e w' => e = .returned (.tuple #[.int .i64 S, .int .i64 0]) ∧ Below W.heap.size W w' from by
    have := start_l (HL.out.bl hb) hs (idx : Int)
    rwa [h2, hlc] at this))
  have HEN := hide (fun W (hb : Below w9.heap.size w9 W) => (show Calls Tryd.prog 26 #[.agg #[.pointer (some ⟨r, 0, none⟩)], .int .i64 idx] W fun e w' => e = .returned (.tuple #[.int .i64 E, .int .i64 0]) ∧ Below W.heap.size W w' from by
    have := end_l (HL.out.bl hb) hs (idx : Int)
    rwa [h3, hlc] at this))
  have HSLA := hide (fun W (hb : Below w9.heap.size w9 W) => ln_slc (HL.out.bl hb) hs p q (by omega) hqx)
  have HSLB := hide (fun W (hb : Below w9.heap.size w9 W) => ln_slc (HL.out.bl hb) hs S E (by omega) hEx)
  rw [hline] at HSLB
  have HWD := hide (fun W => wordAt_any line d (by omega) (by omega) wd hwd W)
  have HGET := hide (fun W (hb : Below w9.heap.size w9 W) => get_any _ env ⟨#[84, 77, 95, 70, 73, 76, 69, 80, 65, 84, 72]⟩ pa b W (rwat_below HE.out (bl_trans HB9.out hb)) hel hpa hbb)
  have HSRC9 := hide (fun W (hb : Below w9.heap.size w9 W) => src_below HSRC.out (bl_trans HB9.out hb))
  have HCUT := hide (fun W => cut_any pa hpz (cutD pa) (cutF pa) rfl rfl W)
  have hcz : (cutF pa).size ≤ 1000000 := by
    unfold cutF
    split
    · exact hpz
    · rw [ByteArray.size_extract]; omega
  have HBAS := hide (fun W => base_any (cutF pa) hcz (basF (cutF pa)) rfl W)
  have HA := hide (acc_start w9)
  have q1 : IntKind.i64.wrap ((H : Int) - (S : Int)) = (d : Int) := by rw [IntKind.wrap_i64]; omega
  have q2 : IntKind.i64.wrap ((idx : Int) + 1) = (idx : Int) + 1 := by rw [IntKind.wrap_i64]; omega
  have HQ := hide (show IntKind.i64.wrap ((q : Int) - (p : Int)) = ((q - p : Nat) : Int) by rw [IntKind.wrap_i64]; omega)
  have HLE := hide (fun W => splen_any (p : Int) q ((q - p : Nat) : Int) HQ.out W)
  have gq : decide ((0 : Int) < ((q - p : Nat) : Int)) = false := decide_eq_false (by omega)
  have gq' : decide (0 < q - p) = false := decide_eq_false (by omega)
  have gwd : wd.toList.isEmpty = true := hwe'
  subst hbt'
  clear hb9 c3 c41 c42 c81 c82 n1 n2 hm hlc h1 h2 h3 hwd hpa hbb hline hlz HI1 HI2 HSP HMAY HLEN HLN HSRC HQ hcz he
  have c3 := cell_later (acc_b HA.out) C3.out
  have c41 := cell_later (acc_b HA.out) C41.out
  have c42 := cell_later (acc_b HA.out) C42.out
  have c81 := cell_later (acc_b HA.out) C81.out
  have c82 := cell_later (acc_b HA.out) C82.out
  go_wp2_with fail
  (with_reducible refine (HLE.out _).mono ?_)
  rintro e w3 ⟨rfl, hbn⟩
  have HA := hide (HA.out.bl hbn)
  clear hbn HLE
  clear c3 c41 c42 c81 c82
  have c3 := cell_later (acc_b HA.out) C3.out
  have c41 := cell_later (acc_b HA.out) C41.out
  have c42 := cell_later (acc_b HA.out) C42.out
  have c81 := cell_later (acc_b HA.out) C81.out
  have c82 := cell_later (acc_b HA.out) C82.out
  go_wp2_with fail
  (with_reducible refine (HAT.out _ (acc_b HA.out)).mono ?_)
  rintro e w6 ⟨rfl, hbn⟩
  have HA := hide (HA.out.bl hbn)
  clear hbn
  clear c3 c41 c42 c81 c82
  have c3 := cell_later (acc_b HA.out) C3.out
  have c41 := cell_later (acc_b HA.out) C41.out
  have c42 := cell_later (acc_b HA.out) C42.out
  have c81 := cell_later (acc_b HA.out) C81.out
  have c82 := cell_later (acc_b HA.out) C82.out
  go_wp2_with fail
  (with_reducible refine (HST.out _ (acc_b HA.out)).mono ?_)
  rintro e w7 ⟨rfl, hbn⟩
  have HA := hide (HA.out.bl hbn)
  clear hbn
  clear c3 c41 c42 c81 c82
  have c3 := cell_later (acc_b HA.out) C3.out
  have c41 := cell_later (acc_b HA.out) C41.out
  have c42 := cell_later (acc_b HA.out) C42.out
  have c81 := cell_later (acc_b HA.out) C81.out
  have c82 := cell_later (acc_b HA.out) C82.out
  go_wp2_with fail
  (with_reducible refine (HEN.out _ (acc_b HA.out)).mono ?_)
  rintro e w8 ⟨rfl, hbn⟩
  have HA := hide (HA.out.bl hbn)
  clear hbn
  clear c3 c41 c42 c81 c82
  have c3 := cell_later (acc_b HA.out) C3.out
  have c41 := cell_later (acc_b HA.out) C41.out
  have c42 := cell_later (acc_b HA.out) C42.out
  have c81 := cell_later (acc_b HA.out) C81.out
  have c82 := cell_later (acc_b HA.out) C82.out
  go_wp2_with fail
  (with_reducible refine (HSLB.out _ (acc_b HA.out)).mono ?_)
  rintro e w19 ⟨rfl, hbn⟩
  have HA := hide (HA.out.bl hbn)
  clear hbn
  clear c3 c41 c42 c81 c82
  go_wp2_with fail
  (with_reducible refine (add_any HA.out (by simp) ⟨#[84, 77, 95, 67, 85, 82, 82, 69, 78, 84, 95, 76, 73, 78, 69]⟩ line).mono ?_)
  rintro e w20 ⟨rfl, ha⟩
  have HA := hide ha
  clear ha
  have c3 := cell_later (acc_b HA.out) C3.out
  have c41 := cell_later (acc_b HA.out) C41.out
  have c42 := cell_later (acc_b HA.out) C42.out
  have c81 := cell_later (acc_b HA.out) C81.out
  have c82 := cell_later (acc_b HA.out) C82.out
  go_wp2_with fail
  (with_reducible refine (HWD.out _).mono ?_)
  rintro e w21 ⟨rfl, hwn⟩
  subst hwn
  clear c3 c41 c42 c81 c82
  go_wp2_with fail
  (with_reducible refine (HIT1.out _ (acc_b HA.out)).mono ?_)
  rintro e w23 ⟨rfl, hbn⟩
  have HA := hide (HA.out.bl hbn)
  clear hbn
  go_wp2_with fail
  (with_reducible refine (add_any HA.out (by simp) ⟨#[84, 77, 95, 76, 73, 78, 69, 95, 73, 78, 68, 69, 88]⟩ (itoaS idx)).mono ?_)
  rintro e w24 ⟨rfl, ha⟩
  have HA := hide ha
  clear ha
  go_wp2_with fail
  (with_reducible refine (HIT2.out _ (acc_b HA.out)).mono ?_)
  rintro e w25 ⟨rfl, hbn⟩
  have HA := hide (HA.out.bl hbn)
  clear hbn
  go_wp2_with fail
  (with_reducible refine (add_any HA.out (by simp) ⟨#[84, 77, 95, 76, 73, 78, 69, 95, 78, 85, 77, 66, 69, 82]⟩ (itoaS (idx + 1))).mono ?_)
  rintro e w26 ⟨rfl, ha⟩
  have HA := hide ha
  clear ha
  go_wp2_with fail
  (with_reducible refine (HGET.out _ (acc_b HA.out)).mono ?_)
  rintro e w27 ⟨rfl, hbn⟩
  have HA := hide (HA.out.bl hbn)
  clear hbn
  rw [← HR.out] at HA
  obtain ⟨R, hR⟩ : ∃ R, plAll x p q line wd idx false pa = R := ⟨_, rfl⟩
  rw [hR] at HA ⊢
  have hRl : R.length ≤ 1000 := by rw [← hR, HR.out]; simp
  obtain ⟨ha1, ha2, vR, ha3, ha4⟩ := HA.out
  obtain ⟨aR, cR, rfl⟩ := own_slice ha4
  have HA4 := hide ha4
  have HS9 := hide (HSRC9.out _ ha1)
  have hone := flatR_one env
  have ha5 := World.block_lt_of_cell? _ _ ha3
  have ha6 : w9.heap.size < _ := ha5
  have ag := fun h => (World.ownsRow.lt HA4.out w9.heap.size h).1
  have HBE := hide (bl_trans HB9.out ha1)
  have HRR := hide hR
  clear ha1 ha2 ha4 hR HR HA HSRC9 ha5
  go_wp2_with (at_builtin; (refine wpList_src _ rfl _ _ 22 rfl (w9.heap.size + 1) 46 i0 (.agg #[.string ⟨#[]⟩, .string ⟨#[]⟩]) 2 32 Tryd.underlying22 hi0 hz0' hz1 hz2 rfl (by decide) (.slice aR R.length cR) R.length (flatR R) rfl HA4.out vA env.length vc (flatR env) rfl HS9.out hone (by omega) (by decide) (by omega) ?_); intro v' w4 hv4 hg4; have HV4 := hide hv4; have HG4 := hide hg4; clear hv4 hg4)
  go_ret2
  have hv := HV4.out
  rw [← flatR_app, ← List.length_append, ← HRR.out] at hv
  refine ⟨v', rfl, bl_grown HBE.out HG4.out (fun k hk => ?_), own_base hv ?_⟩
  · have := (World.ownsRow.lt HA4.out k hk).1
    have := HB9.out.size
    omega
  · have := HB9.out.size
    omega
set_option maxHeartbeats 16000000 in
theorem place_nnp {w : World} {r : Nat} {x : ByteArray} (h : LnAt w r x) (hs : x.size ≤ 100000) (A H p q idx S E d : Nat) (v0 : Value) (env : List Rw) (he : RwAt w v0 env) (hel : env.length ≤ 1000)
    (hp : min (A : Int) H = p) (hq : max (A : Int) H = q) (hqx : q ≤ x.size) (h1 : atV x.data.toList H = idx) (h2 : lnSv x.data.toList idx = S) (h3 : lnEv x.data.toList idx = E) (hd : S + d = H) (hHE : H ≤ E) (hEx : E ≤ x.size) (hidx : idx ≤ 100000)
    (line wd pa : ByteArray) (b : Bool) (hline : x.extract S E = line) (hwd : wrdF line d = wd) (hpa : getV ⟨#[84, 77, 95, 70, 73, 76, 69, 80, 65, 84, 72]⟩ env = pa) (hbb : getB ⟨#[84, 77, 95, 70, 73, 76, 69, 80, 65, 84, 72]⟩ env = b) (hpz : pa.size ≤ 1000000) (hi1 : ItOK w idx) (hi2 : ItOK w (idx + 1)) (hsel : ¬ p < q) (hwe' : wd.toList.isEmpty = true) (hbt' : b = true) (hlc0 : lnC x.data.toList idx = 0) :
    Calls Tryd.prog 22 #[.agg #[.pointer (some ⟨r, 0, none⟩)], .agg #[.int .i64 A, .int .i64 H], v0] w (VPost w (plAll x p q line wd idx b pa ++ env)) := by
  have hwe : (wd.toList.isEmpty = true) := by simp [hwe']
  have hbt : (b = true) := by simp [hbt']
  obtain ⟨i0, hi0, hz0', hz1, hz2⟩ := info_parts info_rw
  obtain ⟨vA, vc, rfl, hsrc⟩ := rw_src he
  have hAH : (p : Int) ≤ q := by omega
  have hlz : line.size = E - S := by rw [← hline, ByteArray.size_extract]; omega
  have hm : mayR 0 (H : Int) x.size = 0 := by unfold mayR; rw [if_neg (by omega)]
  have hlc : lnC x.data.toList idx = 0 := hlc0
  have hH1 : (H : Int) ≤ x.size := by omega
  have HSP := hide (fun W => spanV (A : Int) H p q hp hq W)
  have HMAY := hide (fun W => (show Calls Tryd.prog 38 #[.agg #[.int .i64 p, .int .i64 q], .int .i64 x.size] W fun e w' => e = .returned (.bool true) ∧ Below W.heap.size W w' from by
    have := may_any (p, q) x.size W
    rwa [show mayB ((p : Int), (q : Int)) x.size = true from decide_eq_true (by omega)] at this))
  have HLEN := hide (fun W (hb : Below w.heap.size w W) => ln_len (h.bl hb))
  have HLN := hide h
  have HSRC := hide hsrc
  have HE := hide he
  have HI1 := hide hi1
  have HI2 := hide hi2
  have HR : Hid (plAll x p q line wd idx b pa = [] ++ [(⟨#[84, 77, 95, 67, 85, 82, 82, 69, 78, 84, 95, 76, 73, 78, 69]⟩, line)] ++ [(⟨#[84, 77, 95, 76, 73, 78, 69, 95, 73, 78, 68, 69, 88]⟩, itoaS idx)] ++ [(⟨#[84, 77, 95, 76, 73, 78, 69, 95, 78, 85, 77, 66, 69, 82]⟩, itoaS (idx + 1))] ++ [(⟨#[84, 77, 95, 70, 73, 76, 69, 78, 65, 77, 69]⟩, cutF pa)] ++ [(⟨#[84, 77, 95, 70, 73, 76, 69, 78, 65, 77, 69, 95, 66, 65, 83, 69]⟩, basF (cutF pa))] ++ [(⟨#[84, 77, 95, 68, 73, 82, 69, 67, 84, 79, 82, 89]⟩, cutD pa)]) := hide (by unfold plAll plSel plWord plPath; rw [if_neg hsel]; rw [if_pos hwe]; rw [if_pos hbt]; simp)
  clear hi1 hi2 hsrc hp hq
  go_enter Tryd.func22, Tryd.ntmps22
  go_wp2_with fail
  (with_reducible refine (HSP.out _).mono ?_)
  rintro e w1 ⟨rfl, hb1⟩
  have hb00 := bl_alloc (bl_alloc (bl_refl w) (.cells #[.pointer (some ⟨r, 0, none⟩)] 42)) (.cells #[.int .i64 A, .int .i64 H] 39)
  have c3 : ((w.alloc (.cells #[.pointer (some ⟨r, 0, none⟩)] 42)).alloc (.cells #[.int .i64 A, .int .i64 H] 39)).cell? ⟨w.heap.size, 0, none⟩ = some (.pointer (some ⟨r, 0, none⟩)) := by go_simp
  have c41 : ((w.alloc (.cells #[.pointer (some ⟨r, 0, none⟩)] 42)).alloc (.cells #[.int .i64 A, .int .i64 H] 39)).cell? ⟨w.heap.size + 1, 0, none⟩ = some (.int .i64 A) := by go_simp
  have c42 : ((w.alloc (.cells #[.pointer (some ⟨r, 0, none⟩)] 42)).alloc (.cells #[.int .i64 A, .int .i64 H] 39)).cell? ⟨w.heap.size + 1, 1, none⟩ = some (.int .i64 H) := by go_simp
  replace c3 := cell_later hb1 c3
  replace c41 := cell_later hb1 c41
  replace c42 := cell_later hb1 c42
  have hb01 := bl_trans hb00 hb1
  have hb02 := bl_trans hb01 (bl_alloc (bl_refl w1) (.cells #[.int .i64 p, .int .i64 q] 71))
  have hb11 := bl_alloc (bl_refl w1) (.cells #[.int .i64 p, .int .i64 q] 71)
  have c81 : (w1.alloc (.cells #[.int .i64 p, .int .i64 q] 71)).cell? ⟨w1.heap.size, 0, none⟩ = some (.int .i64 p) := by go_simp
  have c82 : (w1.alloc (.cells #[.int .i64 p, .int .i64 q] 71)).cell? ⟨w1.heap.size, 1, none⟩ = some (.int .i64 q) := by go_simp
  replace c3 := cell_later hb11 c3
  replace c41 := cell_later hb11 c41
  replace c42 := cell_later hb11 c42
  have HB02 := hide hb02
  clear hb00 hb01 hb02 hb1 hb11
  go_wp2
  generalize (w1.alloc (.cells #[.int .i64 p, .int .i64 q] 71)) = w2 at *
  have n1 := World.block_lt_of_cell? _ _ c3
  have n2 := World.block_lt_of_cell? _ _ c81
  refine wp_region_later (by kernel_rfl) (by kernel_rfl) ?_
  repeat (go_big_quiet_step (first
    | (go_at_call 39; exact later_call_same (HLEN.out _ (bl_trans HB02.out (Later.below _))))
    | (go_at_call 38; exact later_call (HMAY.out _))
    | exact rfl))
  refine wpQuiet_nil ?_
  rintro w9 ⟨⟨_, hb9⟩, rfl⟩
  have C3 := hide (cell_later hb9 c3)
  have C41 := hide (cell_later hb9 c41)
  have C42 := hide (cell_later hb9 c42)
  have C81 := hide (cell_later hb9 c81)
  have C82 := hide (cell_later hb9 c82)
  have HB9 := hide (bl_trans HB02.out hb9)
  have HL := hide (HLN.out.bl HB9.out)
  have HIT1 := hide (fun W (hb : Below w9.heap.size w9 W) => HI1.out W (bl_trans HB9.out hb))
  have HIT2 := hide (fun W (hb : Below w9.heap.size w9 W) => (show Calls Tryd.prog 44 #[.int .i64 ((idx : Int) + 1)] W fun e w' => e = .returned (.string (itoaS (idx + 1))) ∧ Below W.heap.size W w' from by
    have := HI2.out W (bl_trans HB9.out hb)
    rwa [show (((idx + 1 : Nat)) : Int) = (idx : Int) + 1 by omega] at this))
  have HAT := hide (fun W (hb : Below w9.heap.size w9 W) => (show Calls Tryd.prog 24 #[.agg #[.pointer (some ⟨r, 0, none⟩)], .int .i64 H] W fun e w' => e = .returned (.tuple #[.int .i64 idx, .int .i64 0]) ∧ Below W.heap.size W w' from by
    have := at_l (HL.out.bl hb) hs (H : Int)
    rwa [h1, hm] at this))
  have HST := hide (fun W (hb : Below w9.heap.size w9 W) => (show Calls Tryd.prog 25 #[.agg #[.pointer (some ⟨r, 0, none⟩)], .int .i64 idx] W fun e w' => e = .returned (.tuple #[.int .i64 S, .int .i64 0]) ∧ Below W.heap.size W w' from by
    have := start_l (HL.out.bl hb) hs (idx : Int)
    rwa [h2, hlc] at this))
  have HEN := hide (fun W (hb : Below w9.heap.size w9 W) => (show Calls Tryd.prog 26 #[.agg #[.pointer (some ⟨r, 0, none⟩)], .int .i64 idx] W fun e w' => e = .returned (.tuple #[.int .i64 E, .int .i64 0]) ∧ Below W.heap.size W w' from by
    have := end_l (HL.out.bl hb) hs (idx : Int)
    rwa [h3, hlc] at this))
  have HSLA := hide (fun W (hb : Below w9.heap.size w9 W) => ln_slc (HL.out.bl hb) hs p q (by omega) hqx)
  have HSLB := hide (fun W (hb : Below w9.heap.size w9 W) => ln_slc (HL.out.bl hb) hs S E (by omega) hEx)
  rw [hline] at HSLB
  have HWD := hide (fun W => wordAt_any line d (by omega) (by omega) wd hwd W)
  have HGET := hide (fun W (hb : Below w9.heap.size w9 W) => get_any _ env ⟨#[84, 77, 95, 70, 73, 76, 69, 80, 65, 84, 72]⟩ pa b W (rwat_below HE.out (bl_trans HB9.out hb)) hel hpa hbb)
  have HSRC9 := hide (fun W (hb : Below w9.heap.size w9 W) => src_below HSRC.out (bl_trans HB9.out hb))
  have HCUT := hide (fun W => cut_any pa hpz (cutD pa) (cutF pa) rfl rfl W)
  have hcz : (cutF pa).size ≤ 1000000 := by
    unfold cutF
    split
    · exact hpz
    · rw [ByteArray.size_extract]; omega
  have HBAS := hide (fun W => base_any (cutF pa) hcz (basF (cutF pa)) rfl W)
  have HA := hide (acc_start w9)
  have q1 : IntKind.i64.wrap ((H : Int) - (S : Int)) = (d : Int) := by rw [IntKind.wrap_i64]; omega
  have q2 : IntKind.i64.wrap ((idx : Int) + 1) = (idx : Int) + 1 := by rw [IntKind.wrap_i64]; omega
  have HQ := hide (show IntKind.i64.wrap ((q : Int) - (p : Int)) = ((q - p : Nat) : Int) by rw [IntKind.wrap_i64]; omega)
  have HLE := hide (fun W => splen_any (p : Int) q ((q - p : Nat) : Int) HQ.out W)
  have gq : decide ((0 : Int) < ((q - p : Nat) : Int)) = false := decide_eq_false (by omega)
  have gq' : decide (0 < q - p) = false := decide_eq_false (by omega)
  have gwd : wd.toList.isEmpty = true := hwe'
  subst hbt'
  clear hb9 c3 c41 c42 c81 c82 n1 n2 hm hlc h1 h2 h3 hwd hpa hbb hline hlz HI1 HI2 HSP HMAY HLEN HLN HSRC HQ hcz he
  have c3 := cell_later (acc_b HA.out) C3.out
  have c41 := cell_later (acc_b HA.out) C41.out
  have c42 := cell_later (acc_b HA.out) C42.out
  have c81 := cell_later (acc_b HA.out) C81.out
  have c82 := cell_later (acc_b HA.out) C82.out
  go_wp2_with fail
  (with_reducible refine (HLE.out _).mono ?_)
  rintro e w3 ⟨rfl, hbn⟩
  have HA := hide (HA.out.bl hbn)
  clear hbn HLE
  clear c3 c41 c42 c81 c82
  have c3 := cell_later (acc_b HA.out) C3.out
  have c41 := cell_later (acc_b HA.out) C41.out
  have c42 := cell_later (acc_b HA.out) C42.out
  have c81 := cell_later (acc_b HA.out) C81.out
  have c82 := cell_later (acc_b HA.out) C82.out
  go_wp2_with fail
  (with_reducible refine (HAT.out _ (acc_b HA.out)).mono ?_)
  rintro e w6 ⟨rfl, hbn⟩
  have HA := hide (HA.out.bl hbn)
  clear hbn
  clear c3 c41 c42 c81 c82
  have c3 := cell_later (acc_b HA.out) C3.out
  have c41 := cell_later (acc_b HA.out) C41.out
  have c42 := cell_later (acc_b HA.out) C42.out
  have c81 := cell_later (acc_b HA.out) C81.out
  have c82 := cell_later (acc_b HA.out) C82.out
  go_wp2_with fail
  (with_reducible refine (HST.out _ (acc_b HA.out)).mono ?_)
  rintro e w7 ⟨rfl, hbn⟩
  have HA := hide (HA.out.bl hbn)
  clear hbn
  clear c3 c41 c42 c81 c82
  have c3 := cell_later (acc_b HA.out) C3.out
  have c41 := cell_later (acc_b HA.out) C41.out
  have c42 := cell_later (acc_b HA.out) C42.out
  have c81 := cell_later (acc_b HA.out) C81.out
  have c82 := cell_later (acc_b HA.out) C82.out
  go_wp2_with fail
  (with_reducible refine (HEN.out _ (acc_b HA.out)).mono ?_)
  rintro e w8 ⟨rfl, hbn⟩
  have HA := hide (HA.out.bl hbn)
  clear hbn
  clear c3 c41 c42 c81 c82
  have c3 := cell_later (acc_b HA.out) C3.out
  have c41 := cell_later (acc_b HA.out) C41.out
  have c42 := cell_later (acc_b HA.out) C42.out
  have c81 := cell_later (acc_b HA.out) C81.out
  have c82 := cell_later (acc_b HA.out) C82.out
  go_wp2_with fail
  (with_reducible refine (HSLB.out _ (acc_b HA.out)).mono ?_)
  rintro e w19 ⟨rfl, hbn⟩
  have HA := hide (HA.out.bl hbn)
  clear hbn
  clear c3 c41 c42 c81 c82
  go_wp2_with fail
  (with_reducible refine (add_any HA.out (by simp) ⟨#[84, 77, 95, 67, 85, 82, 82, 69, 78, 84, 95, 76, 73, 78, 69]⟩ line).mono ?_)
  rintro e w20 ⟨rfl, ha⟩
  have HA := hide ha
  clear ha
  have c3 := cell_later (acc_b HA.out) C3.out
  have c41 := cell_later (acc_b HA.out) C41.out
  have c42 := cell_later (acc_b HA.out) C42.out
  have c81 := cell_later (acc_b HA.out) C81.out
  have c82 := cell_later (acc_b HA.out) C82.out
  go_wp2_with fail
  (with_reducible refine (HWD.out _).mono ?_)
  rintro e w21 ⟨rfl, hwn⟩
  subst hwn
  clear c3 c41 c42 c81 c82
  go_wp2_with fail
  (with_reducible refine (HIT1.out _ (acc_b HA.out)).mono ?_)
  rintro e w23 ⟨rfl, hbn⟩
  have HA := hide (HA.out.bl hbn)
  clear hbn
  go_wp2_with fail
  (with_reducible refine (add_any HA.out (by simp) ⟨#[84, 77, 95, 76, 73, 78, 69, 95, 73, 78, 68, 69, 88]⟩ (itoaS idx)).mono ?_)
  rintro e w24 ⟨rfl, ha⟩
  have HA := hide ha
  clear ha
  go_wp2_with fail
  (with_reducible refine (HIT2.out _ (acc_b HA.out)).mono ?_)
  rintro e w25 ⟨rfl, hbn⟩
  have HA := hide (HA.out.bl hbn)
  clear hbn
  go_wp2_with fail
  (with_reducible refine (add_any HA.out (by simp) ⟨#[84, 77, 95, 76, 73, 78, 69, 95, 78, 85, 77, 66, 69, 82]⟩ (itoaS (idx + 1))).mono ?_)
  rintro e w26 ⟨rfl, ha⟩
  have HA := hide ha
  clear ha
  go_wp2_with fail
  (with_reducible refine (HGET.out _ (acc_b HA.out)).mono ?_)
  rintro e w27 ⟨rfl, hbn⟩
  have HA := hide (HA.out.bl hbn)
  clear hbn
  go_wp2_with fail
  (with_reducible refine (HCUT.out _).mono ?_)
  rintro e w28 ⟨rfl, hbn⟩
  have HA := hide (HA.out.bl hbn)
  clear hbn
  go_wp2_with fail
  (with_reducible refine (add_any HA.out (by simp) ⟨#[84, 77, 95, 70, 73, 76, 69, 78, 65, 77, 69]⟩ (cutF pa)).mono ?_)
  rintro e w29 ⟨rfl, ha⟩
  have HA := hide ha
  clear ha
  go_wp2_with fail
  (with_reducible refine (HBAS.out _).mono ?_)
  rintro e w30 ⟨rfl, hwn⟩
  subst hwn
  go_wp2_with fail
  (with_reducible refine (add_any HA.out (by simp) ⟨#[84, 77, 95, 70, 73, 76, 69, 78, 65, 77, 69, 95, 66, 65, 83, 69]⟩ (basF (cutF pa))).mono ?_)
  rintro e w31 ⟨rfl, ha⟩
  have HA := hide ha
  clear ha
  go_wp2_with fail
  (with_reducible refine (add_any HA.out (by simp) ⟨#[84, 77, 95, 68, 73, 82, 69, 67, 84, 79, 82, 89]⟩ (cutD pa)).mono ?_)
  rintro e w32 ⟨rfl, ha⟩
  have HA := hide ha
  clear ha
  rw [← HR.out] at HA
  obtain ⟨R, hR⟩ : ∃ R, plAll x p q line wd idx true pa = R := ⟨_, rfl⟩
  rw [hR] at HA ⊢
  have hRl : R.length ≤ 1000 := by rw [← hR, HR.out]; simp
  obtain ⟨ha1, ha2, vR, ha3, ha4⟩ := HA.out
  obtain ⟨aR, cR, rfl⟩ := own_slice ha4
  have HA4 := hide ha4
  have HS9 := hide (HSRC9.out _ ha1)
  have hone := flatR_one env
  have ha5 := World.block_lt_of_cell? _ _ ha3
  have ha6 : w9.heap.size < _ := ha5
  have ag := fun h => (World.ownsRow.lt HA4.out w9.heap.size h).1
  have HBE := hide (bl_trans HB9.out ha1)
  have HRR := hide hR
  clear ha1 ha2 ha4 hR HR HA HSRC9 ha5
  go_wp2_with (at_builtin; (refine wpList_src _ rfl _ _ 22 rfl (w9.heap.size + 1) 46 i0 (.agg #[.string ⟨#[]⟩, .string ⟨#[]⟩]) 2 32 Tryd.underlying22 hi0 hz0' hz1 hz2 rfl (by decide) (.slice aR R.length cR) R.length (flatR R) rfl HA4.out vA env.length vc (flatR env) rfl HS9.out hone (by omega) (by decide) (by omega) ?_); intro v' w4 hv4 hg4; have HV4 := hide hv4; have HG4 := hide hg4; clear hv4 hg4)
  go_ret2
  have hv := HV4.out
  rw [← flatR_app, ← List.length_append, ← HRR.out] at hv
  refine ⟨v', rfl, bl_grown HBE.out HG4.out (fun k hk => ?_), own_base hv ?_⟩
  · have := (World.ownsRow.lt HA4.out k hk).1
    have := HB9.out.size
    omega
  · have := HB9.out.size
    omega
set_option maxHeartbeats 16000000 in
theorem place_nwn {w : World} {r : Nat} {x : ByteArray} (h : LnAt w r x) (hs : x.size ≤ 100000) (A H p q idx S E d : Nat) (v0 : Value) (env : List Rw) (he : RwAt w v0 env) (hel : env.length ≤ 1000)
    (hp : min (A : Int) H = p) (hq : max (A : Int) H = q) (hqx : q ≤ x.size) (h1 : atV x.data.toList H = idx) (h2 : lnSv x.data.toList idx = S) (h3 : lnEv x.data.toList idx = E) (hd : S + d = H) (hHE : H ≤ E) (hEx : E ≤ x.size) (hidx : idx ≤ 100000)
    (line wd pa : ByteArray) (b : Bool) (hline : x.extract S E = line) (hwd : wrdF line d = wd) (hpa : getV ⟨#[84, 77, 95, 70, 73, 76, 69, 80, 65, 84, 72]⟩ env = pa) (hbb : getB ⟨#[84, 77, 95, 70, 73, 76, 69, 80, 65, 84, 72]⟩ env = b) (hpz : pa.size ≤ 1000000) (hi1 : ItOK w idx) (hi2 : ItOK w (idx + 1)) (hsel : ¬ p < q) (hwe' : wd.toList.isEmpty = false) (hbt' : b = false) (hlc0 : lnC x.data.toList idx = 0) :
    Calls Tryd.prog 22 #[.agg #[.pointer (some ⟨r, 0, none⟩)], .agg #[.int .i64 A, .int .i64 H], v0] w (VPost w (plAll x p q line wd idx b pa ++ env)) := by
  have hwe : ¬ (wd.toList.isEmpty = true) := by simp [hwe']
  have hbt : ¬ (b = true) := by simp [hbt']
  obtain ⟨i0, hi0, hz0', hz1, hz2⟩ := info_parts info_rw
  obtain ⟨vA, vc, rfl, hsrc⟩ := rw_src he
  have hAH : (p : Int) ≤ q := by omega
  have hlz : line.size = E - S := by rw [← hline, ByteArray.size_extract]; omega
  have hm : mayR 0 (H : Int) x.size = 0 := by unfold mayR; rw [if_neg (by omega)]
  have hlc : lnC x.data.toList idx = 0 := hlc0
  have hH1 : (H : Int) ≤ x.size := by omega
  have HSP := hide (fun W => spanV (A : Int) H p q hp hq W)
  have HMAY := hide (fun W => (show Calls Tryd.prog 38 #[.agg #[.int .i64 p, .int .i64 q], .int .i64 x.size] W fun e w' => e = .returned (.bool true) ∧ Below W.heap.size W w' from by
    have := may_any (p, q) x.size W
    rwa [show mayB ((p : Int), (q : Int)) x.size = true from decide_eq_true (by omega)] at this))
  have HLEN := hide (fun W (hb : Below w.heap.size w W) => ln_len (h.bl hb))
  have HLN := hide h
  have HSRC := hide hsrc
  have HE := hide he
  have HI1 := hide hi1
  have HI2 := hide hi2
  have HR : Hid (plAll x p q line wd idx b pa = [] ++ [(⟨#[84, 77, 95, 67, 85, 82, 82, 69, 78, 84, 95, 76, 73, 78, 69]⟩, line)] ++ [(⟨#[84, 77, 95, 67, 85, 82, 82, 69, 78, 84, 95, 87, 79, 82, 68]⟩, wd)] ++ [(⟨#[84, 77, 95, 76, 73, 78, 69, 95, 73, 78, 68, 69, 88]⟩, itoaS idx)] ++ [(⟨#[84, 77, 95, 76, 73, 78, 69, 95, 78, 85, 77, 66, 69, 82]⟩, itoaS (idx + 1))]) := hide (by unfold plAll plSel plWord plPath; rw [if_neg hsel]; rw [if_neg hwe]; rw [if_neg hbt]; simp)
  clear hi1 hi2 hsrc hp hq
  go_enter Tryd.func22, Tryd.ntmps22
  go_wp2_with fail
  (with_reducible refine (HSP.out _).mono ?_)
  rintro e w1 ⟨rfl, hb1⟩
  have hb00 := bl_alloc (bl_alloc (bl_refl w) (.cells #[.pointer (some ⟨r, 0, none⟩)] 42)) (.cells #[.int .i64 A, .int .i64 H] 39)
  have c3 : ((w.alloc (.cells #[.pointer (some ⟨r, 0, none⟩)] 42)).alloc (.cells #[.int .i64 A, .int .i64 H] 39)).cell? ⟨w.heap.size, 0, none⟩ = some (.pointer (some ⟨r, 0, none⟩)) := by go_simp
  have c41 : ((w.alloc (.cells #[.pointer (some ⟨r, 0, none⟩)] 42)).alloc (.cells #[.int .i64 A, .int .i64 H] 39)).cell? ⟨w.heap.size + 1, 0, none⟩ = some (.int .i64 A) := by go_simp
  have c42 : ((w.alloc (.cells #[.pointer (some ⟨r, 0, none⟩)] 42)).alloc (.cells #[.int .i64 A, .int .i64 H] 39)).cell? ⟨w.heap.size + 1, 1, none⟩ = some (.int .i64 H) := by go_simp
  replace c3 := cell_later hb1 c3
  replace c41 := cell_later hb1 c41
  replace c42 := cell_later hb1 c42
  have hb01 := bl_trans hb00 hb1
  have hb02 := bl_trans hb01 (bl_alloc (bl_refl w1) (.cells #[.int .i64 p, .int .i64 q] 71))
  have hb11 := bl_alloc (bl_refl w1) (.cells #[.int .i64 p, .int .i64 q] 71)
  have c81 : (w1.alloc (.cells #[.int .i64 p, .int .i64 q] 71)).cell? ⟨w1.heap.size, 0, none⟩ = some (.int .i64 p) := by go_simp
  have c82 : (w1.alloc (.cells #[.int .i64 p, .int .i64 q] 71)).cell? ⟨w1.heap.size, 1, none⟩ = some (.int .i64 q) := by go_simp
  replace c3 := cell_later hb11 c3
  replace c41 := cell_later hb11 c41
  replace c42 := cell_later hb11 c42
  have HB02 := hide hb02
  clear hb00 hb01 hb02 hb1 hb11
  go_wp2
  generalize (w1.alloc (.cells #[.int .i64 p, .int .i64 q] 71)) = w2 at *
  have n1 := World.block_lt_of_cell? _ _ c3
  have n2 := World.block_lt_of_cell? _ _ c81
  refine wp_region_later (by kernel_rfl) (by kernel_rfl) ?_
  repeat (go_big_quiet_step (first
    | (go_at_call 39; exact later_call_same (HLEN.out _ (bl_trans HB02.out (Later.below _))))
    | (go_at_call 38; exact later_call (HMAY.out _))
    | exact rfl))
  refine wpQuiet_nil ?_
  rintro w9 ⟨⟨_, hb9⟩, rfl⟩
  have C3 := hide (cell_later hb9 c3)
  have C41 := hide (cell_later hb9 c41)
  have C42 := hide (cell_later hb9 c42)
  have C81 := hide (cell_later hb9 c81)
  have C82 := hide (cell_later hb9 c82)
  have HB9 := hide (bl_trans HB02.out hb9)
  have HL := hide (HLN.out.bl HB9.out)
  have HIT1 := hide (fun W (hb : Below w9.heap.size w9 W) => HI1.out W (bl_trans HB9.out hb))
  have HIT2 := hide (fun W (hb : Below w9.heap.size w9 W) => (show Calls Tryd.prog 44 #[.int .i64 ((idx : Int) + 1)] W fun e w' => e = .returned (.string (itoaS (idx + 1))) ∧ Below W.heap.size W w' from by
    have := HI2.out W (bl_trans HB9.out hb)
    rwa [show (((idx + 1 : Nat)) : Int) = (idx : Int) + 1 by omega] at this))
  have HAT := hide (fun W (hb : Below w9.heap.size w9 W) => (show Calls Tryd.prog 24 #[.agg #[.pointer (some ⟨r, 0, none⟩)], .int .i64 H] W fun e w' => e = .returned (.tuple #[.int .i64 idx, .int .i64 0]) ∧ Below W.heap.size W w' from by
    have := at_l (HL.out.bl hb) hs (H : Int)
    rwa [h1, hm] at this))
  have HST := hide (fun W (hb : Below w9.heap.size w9 W) => (show Calls Tryd.prog 25 #[.agg #[.pointer (some ⟨r, 0, none⟩)], .int .i64 idx] W fun e w' => e = .returned (.tuple #[.int .i64 S, .int .i64 0]) ∧ Below W.heap.size W w' from by
    have := start_l (HL.out.bl hb) hs (idx : Int)
    rwa [h2, hlc] at this))
  have HEN := hide (fun W (hb : Below w9.heap.size w9 W) => (show Calls Tryd.prog 26 #[.agg #[.pointer (some ⟨r, 0, none⟩)], .int .i64 idx] W fun e w' => e = .returned (.tuple #[.int .i64 E, .int .i64 0]) ∧ Below W.heap.size W w' from by
    have := end_l (HL.out.bl hb) hs (idx : Int)
    rwa [h3, hlc] at this))
  have HSLA := hide (fun W (hb : Below w9.heap.size w9 W) => ln_slc (HL.out.bl hb) hs p q (by omega) hqx)
  have HSLB := hide (fun W (hb : Below w9.heap.size w9 W) => ln_slc (HL.out.bl hb) hs S E (by omega) hEx)
  rw [hline] at HSLB
  have HWD := hide (fun W => wordAt_any line d (by omega) (by omega) wd hwd W)
  have HGET := hide (fun W (hb : Below w9.heap.size w9 W) => get_any _ env ⟨#[84, 77, 95, 70, 73, 76, 69, 80, 65, 84, 72]⟩ pa b W (rwat_below HE.out (bl_trans HB9.out hb)) hel hpa hbb)
  have HSRC9 := hide (fun W (hb : Below w9.heap.size w9 W) => src_below HSRC.out (bl_trans HB9.out hb))
  have HCUT := hide (fun W => cut_any pa hpz (cutD pa) (cutF pa) rfl rfl W)
  have hcz : (cutF pa).size ≤ 1000000 := by
    unfold cutF
    split
    · exact hpz
    · rw [ByteArray.size_extract]; omega
  have HBAS := hide (fun W => base_any (cutF pa) hcz (basF (cutF pa)) rfl W)
  have HA := hide (acc_start w9)
  have q1 : IntKind.i64.wrap ((H : Int) - (S : Int)) = (d : Int) := by rw [IntKind.wrap_i64]; omega
  have q2 : IntKind.i64.wrap ((idx : Int) + 1) = (idx : Int) + 1 := by rw [IntKind.wrap_i64]; omega
  have HQ := hide (show IntKind.i64.wrap ((q : Int) - (p : Int)) = ((q - p : Nat) : Int) by rw [IntKind.wrap_i64]; omega)
  have HLE := hide (fun W => splen_any (p : Int) q ((q - p : Nat) : Int) HQ.out W)
  have gq : decide ((0 : Int) < ((q - p : Nat) : Int)) = false := decide_eq_false (by omega)
  have gq' : decide (0 < q - p) = false := decide_eq_false (by omega)
  have gwd : wd.toList.isEmpty = false := hwe'
  subst hbt'
  clear hb9 c3 c41 c42 c81 c82 n1 n2 hm hlc h1 h2 h3 hwd hpa hbb hline hlz HI1 HI2 HSP HMAY HLEN HLN HSRC HQ hcz he
  have c3 := cell_later (acc_b HA.out) C3.out
  have c41 := cell_later (acc_b HA.out) C41.out
  have c42 := cell_later (acc_b HA.out) C42.out
  have c81 := cell_later (acc_b HA.out) C81.out
  have c82 := cell_later (acc_b HA.out) C82.out
  go_wp2_with fail
  (with_reducible refine (HLE.out _).mono ?_)
  rintro e w3 ⟨rfl, hbn⟩
  have HA := hide (HA.out.bl hbn)
  clear hbn HLE
  clear c3 c41 c42 c81 c82
  have c3 := cell_later (acc_b HA.out) C3.out
  have c41 := cell_later (acc_b HA.out) C41.out
  have c42 := cell_later (acc_b HA.out) C42.out
  have c81 := cell_later (acc_b HA.out) C81.out
  have c82 := cell_later (acc_b HA.out) C82.out
  go_wp2_with fail
  (with_reducible refine (HAT.out _ (acc_b HA.out)).mono ?_)
  rintro e w6 ⟨rfl, hbn⟩
  have HA := hide (HA.out.bl hbn)
  clear hbn
  clear c3 c41 c42 c81 c82
  have c3 := cell_later (acc_b HA.out) C3.out
  have c41 := cell_later (acc_b HA.out) C41.out
  have c42 := cell_later (acc_b HA.out) C42.out
  have c81 := cell_later (acc_b HA.out) C81.out
  have c82 := cell_later (acc_b HA.out) C82.out
  go_wp2_with fail
  (with_reducible refine (HST.out _ (acc_b HA.out)).mono ?_)
  rintro e w7 ⟨rfl, hbn⟩
  have HA := hide (HA.out.bl hbn)
  clear hbn
  clear c3 c41 c42 c81 c82
  have c3 := cell_later (acc_b HA.out) C3.out
  have c41 := cell_later (acc_b HA.out) C41.out
  have c42 := cell_later (acc_b HA.out) C42.out
  have c81 := cell_later (acc_b HA.out) C81.out
  have c82 := cell_later (acc_b HA.out) C82.out
  go_wp2_with fail
  (with_reducible refine (HEN.out _ (acc_b HA.out)).mono ?_)
  rintro e w8 ⟨rfl, hbn⟩
  have HA := hide (HA.out.bl hbn)
  clear hbn
  clear c3 c41 c42 c81 c82
  have c3 := cell_later (acc_b HA.out) C3.out
  have c41 := cell_later (acc_b HA.out) C41.out
  have c42 := cell_later (acc_b HA.out) C42.out
  have c81 := cell_later (acc_b HA.out) C81.out
  have c82 := cell_later (acc_b HA.out) C82.out
  go_wp2_with fail
  (with_reducible refine (HSLB.out _ (acc_b HA.out)).mono ?_)
  rintro e w19 ⟨rfl, hbn⟩
  have HA := hide (HA.out.bl hbn)
  clear hbn
  clear c3 c41 c42 c81 c82
  go_wp2_with fail
  (with_reducible refine (add_any HA.out (by simp) ⟨#[84, 77, 95, 67, 85, 82, 82, 69, 78, 84, 95, 76, 73, 78, 69]⟩ line).mono ?_)
  rintro e w20 ⟨rfl, ha⟩
  have HA := hide ha
  clear ha
  have c3 := cell_later (acc_b HA.out) C3.out
  have c41 := cell_later (acc_b HA.out) C41.out
  have c42 := cell_later (acc_b HA.out) C42.out
  have c81 := cell_later (acc_b HA.out) C81.out
  have c82 := cell_later (acc_b HA.out) C82.out
  go_wp2_with fail
  (with_reducible refine (HWD.out _).mono ?_)
  rintro e w21 ⟨rfl, hwn⟩
  subst hwn
  clear c3 c41 c42 c81 c82
  go_wp2_with fail
  (with_reducible refine (add_any HA.out (by simp) ⟨#[84, 77, 95, 67, 85, 82, 82, 69, 78, 84, 95, 87, 79, 82, 68]⟩ wd).mono ?_)
  rintro e w22 ⟨rfl, ha⟩
  have HA := hide ha
  clear ha
  go_wp2_with fail
  (with_reducible refine (HIT1.out _ (acc_b HA.out)).mono ?_)
  rintro e w23 ⟨rfl, hbn⟩
  have HA := hide (HA.out.bl hbn)
  clear hbn
  go_wp2_with fail
  (with_reducible refine (add_any HA.out (by simp) ⟨#[84, 77, 95, 76, 73, 78, 69, 95, 73, 78, 68, 69, 88]⟩ (itoaS idx)).mono ?_)
  rintro e w24 ⟨rfl, ha⟩
  have HA := hide ha
  clear ha
  go_wp2_with fail
  (with_reducible refine (HIT2.out _ (acc_b HA.out)).mono ?_)
  rintro e w25 ⟨rfl, hbn⟩
  have HA := hide (HA.out.bl hbn)
  clear hbn
  go_wp2_with fail
  (with_reducible refine (add_any HA.out (by simp) ⟨#[84, 77, 95, 76, 73, 78, 69, 95, 78, 85, 77, 66, 69, 82]⟩ (itoaS (idx + 1))).mono ?_)
  rintro e w26 ⟨rfl, ha⟩
  have HA := hide ha
  clear ha
  go_wp2_with fail
  (with_reducible refine (HGET.out _ (acc_b HA.out)).mono ?_)
  rintro e w27 ⟨rfl, hbn⟩
  have HA := hide (HA.out.bl hbn)
  clear hbn
  rw [← HR.out] at HA
  obtain ⟨R, hR⟩ : ∃ R, plAll x p q line wd idx false pa = R := ⟨_, rfl⟩
  rw [hR] at HA ⊢
  have hRl : R.length ≤ 1000 := by rw [← hR, HR.out]; simp
  obtain ⟨ha1, ha2, vR, ha3, ha4⟩ := HA.out
  obtain ⟨aR, cR, rfl⟩ := own_slice ha4
  have HA4 := hide ha4
  have HS9 := hide (HSRC9.out _ ha1)
  have hone := flatR_one env
  have ha5 := World.block_lt_of_cell? _ _ ha3
  have ha6 : w9.heap.size < _ := ha5
  have ag := fun h => (World.ownsRow.lt HA4.out w9.heap.size h).1
  have HBE := hide (bl_trans HB9.out ha1)
  have HRR := hide hR
  clear ha1 ha2 ha4 hR HR HA HSRC9 ha5
  go_wp2_with (at_builtin; (refine wpList_src _ rfl _ _ 22 rfl (w9.heap.size + 1) 46 i0 (.agg #[.string ⟨#[]⟩, .string ⟨#[]⟩]) 2 32 Tryd.underlying22 hi0 hz0' hz1 hz2 rfl (by decide) (.slice aR R.length cR) R.length (flatR R) rfl HA4.out vA env.length vc (flatR env) rfl HS9.out hone (by omega) (by decide) (by omega) ?_); intro v' w4 hv4 hg4; have HV4 := hide hv4; have HG4 := hide hg4; clear hv4 hg4)
  go_ret2
  have hv := HV4.out
  rw [← flatR_app, ← List.length_append, ← HRR.out] at hv
  refine ⟨v', rfl, bl_grown HBE.out HG4.out (fun k hk => ?_), own_base hv ?_⟩
  · have := (World.ownsRow.lt HA4.out k hk).1
    have := HB9.out.size
    omega
  · have := HB9.out.size
    omega
set_option maxHeartbeats 16000000 in
theorem place_nwp {w : World} {r : Nat} {x : ByteArray} (h : LnAt w r x) (hs : x.size ≤ 100000) (A H p q idx S E d : Nat) (v0 : Value) (env : List Rw) (he : RwAt w v0 env) (hel : env.length ≤ 1000)
    (hp : min (A : Int) H = p) (hq : max (A : Int) H = q) (hqx : q ≤ x.size) (h1 : atV x.data.toList H = idx) (h2 : lnSv x.data.toList idx = S) (h3 : lnEv x.data.toList idx = E) (hd : S + d = H) (hHE : H ≤ E) (hEx : E ≤ x.size) (hidx : idx ≤ 100000)
    (line wd pa : ByteArray) (b : Bool) (hline : x.extract S E = line) (hwd : wrdF line d = wd) (hpa : getV ⟨#[84, 77, 95, 70, 73, 76, 69, 80, 65, 84, 72]⟩ env = pa) (hbb : getB ⟨#[84, 77, 95, 70, 73, 76, 69, 80, 65, 84, 72]⟩ env = b) (hpz : pa.size ≤ 1000000) (hi1 : ItOK w idx) (hi2 : ItOK w (idx + 1)) (hsel : ¬ p < q) (hwe' : wd.toList.isEmpty = false) (hbt' : b = true) (hlc0 : lnC x.data.toList idx = 0) :
    Calls Tryd.prog 22 #[.agg #[.pointer (some ⟨r, 0, none⟩)], .agg #[.int .i64 A, .int .i64 H], v0] w (VPost w (plAll x p q line wd idx b pa ++ env)) := by
  have hwe : ¬ (wd.toList.isEmpty = true) := by simp [hwe']
  have hbt : (b = true) := by simp [hbt']
  obtain ⟨i0, hi0, hz0', hz1, hz2⟩ := info_parts info_rw
  obtain ⟨vA, vc, rfl, hsrc⟩ := rw_src he
  have hAH : (p : Int) ≤ q := by omega
  have hlz : line.size = E - S := by rw [← hline, ByteArray.size_extract]; omega
  have hm : mayR 0 (H : Int) x.size = 0 := by unfold mayR; rw [if_neg (by omega)]
  have hlc : lnC x.data.toList idx = 0 := hlc0
  have hH1 : (H : Int) ≤ x.size := by omega
  have HSP := hide (fun W => spanV (A : Int) H p q hp hq W)
  have HMAY := hide (fun W => (show Calls Tryd.prog 38 #[.agg #[.int .i64 p, .int .i64 q], .int .i64 x.size] W fun e w' => e = .returned (.bool true) ∧ Below W.heap.size W w' from by
    have := may_any (p, q) x.size W
    rwa [show mayB ((p : Int), (q : Int)) x.size = true from decide_eq_true (by omega)] at this))
  have HLEN := hide (fun W (hb : Below w.heap.size w W) => ln_len (h.bl hb))
  have HLN := hide h
  have HSRC := hide hsrc
  have HE := hide he
  have HI1 := hide hi1
  have HI2 := hide hi2
  have HR : Hid (plAll x p q line wd idx b pa = [] ++ [(⟨#[84, 77, 95, 67, 85, 82, 82, 69, 78, 84, 95, 76, 73, 78, 69]⟩, line)] ++ [(⟨#[84, 77, 95, 67, 85, 82, 82, 69, 78, 84, 95, 87, 79, 82, 68]⟩, wd)] ++ [(⟨#[84, 77, 95, 76, 73, 78, 69, 95, 73, 78, 68, 69, 88]⟩, itoaS idx)] ++ [(⟨#[84, 77, 95, 76, 73, 78, 69, 95, 78, 85, 77, 66, 69, 82]⟩, itoaS (idx + 1))] ++ [(⟨#[84, 77, 95, 70, 73, 76, 69, 78, 65, 77, 69]⟩, cutF pa)] ++ [(⟨#[84, 77, 95, 70, 73, 76, 69, 78, 65, 77, 69, 95, 66, 65, 83, 69]⟩, basF (cutF pa))] ++ [(⟨#[84, 77, 95, 68, 73, 82, 69, 67, 84, 79, 82, 89]⟩, cutD pa)]) := hide (by unfold plAll plSel plWord plPath; rw [if_neg hsel]; rw [if_neg hwe]; rw [if_pos hbt]; simp)
  clear hi1 hi2 hsrc hp hq
  go_enter Tryd.func22, Tryd.ntmps22
  go_wp2_with fail
  (with_reducible refine (HSP.out _).mono ?_)
  rintro e w1 ⟨rfl, hb1⟩
  have hb00 := bl_alloc (bl_alloc (bl_refl w) (.cells #[.pointer (some ⟨r, 0, none⟩)] 42)) (.cells #[.int .i64 A, .int .i64 H] 39)
  have c3 : ((w.alloc (.cells #[.pointer (some ⟨r, 0, none⟩)] 42)).alloc (.cells #[.int .i64 A, .int .i64 H] 39)).cell? ⟨w.heap.size, 0, none⟩ = some (.pointer (some ⟨r, 0, none⟩)) := by go_simp
  have c41 : ((w.alloc (.cells #[.pointer (some ⟨r, 0, none⟩)] 42)).alloc (.cells #[.int .i64 A, .int .i64 H] 39)).cell? ⟨w.heap.size + 1, 0, none⟩ = some (.int .i64 A) := by go_simp
  have c42 : ((w.alloc (.cells #[.pointer (some ⟨r, 0, none⟩)] 42)).alloc (.cells #[.int .i64 A, .int .i64 H] 39)).cell? ⟨w.heap.size + 1, 1, none⟩ = some (.int .i64 H) := by go_simp
  replace c3 := cell_later hb1 c3
  replace c41 := cell_later hb1 c41
  replace c42 := cell_later hb1 c42
  have hb01 := bl_trans hb00 hb1
  have hb02 := bl_trans hb01 (bl_alloc (bl_refl w1) (.cells #[.int .i64 p, .int .i64 q] 71))
  have hb11 := bl_alloc (bl_refl w1) (.cells #[.int .i64 p, .int .i64 q] 71)
  have c81 : (w1.alloc (.cells #[.int .i64 p, .int .i64 q] 71)).cell? ⟨w1.heap.size, 0, none⟩ = some (.int .i64 p) := by go_simp
  have c82 : (w1.alloc (.cells #[.int .i64 p, .int .i64 q] 71)).cell? ⟨w1.heap.size, 1, none⟩ = some (.int .i64 q) := by go_simp
  replace c3 := cell_later hb11 c3
  replace c41 := cell_later hb11 c41
  replace c42 := cell_later hb11 c42
  have HB02 := hide hb02
  clear hb00 hb01 hb02 hb1 hb11
  go_wp2
  generalize (w1.alloc (.cells #[.int .i64 p, .int .i64 q] 71)) = w2 at *
  have n1 := World.block_lt_of_cell? _ _ c3
  have n2 := World.block_lt_of_cell? _ _ c81
  refine wp_region_later (by kernel_rfl) (by kernel_rfl) ?_
  repeat (go_big_quiet_step (first
    | (go_at_call 39; exact later_call_same (HLEN.out _ (bl_trans HB02.out (Later.below _))))
    | (go_at_call 38; exact later_call (HMAY.out _))
    | exact rfl))
  refine wpQuiet_nil ?_
  rintro w9 ⟨⟨_, hb9⟩, rfl⟩
  have C3 := hide (cell_later hb9 c3)
  have C41 := hide (cell_later hb9 c41)
  have C42 := hide (cell_later hb9 c42)
  have C81 := hide (cell_later hb9 c81)
  have C82 := hide (cell_later hb9 c82)
  have HB9 := hide (bl_trans HB02.out hb9)
  have HL := hide (HLN.out.bl HB9.out)
  have HIT1 := hide (fun W (hb : Below w9.heap.size w9 W) => HI1.out W (bl_trans HB9.out hb))
  have HIT2 := hide (fun W (hb : Below w9.heap.size w9 W) => (show Calls Tryd.prog 44 #[.int .i64 ((idx : Int) + 1)] W fun e w' => e = .returned (.string (itoaS (idx + 1))) ∧ Below W.heap.size W w' from by
    have := HI2.out W (bl_trans HB9.out hb)
    rwa [show (((idx + 1 : Nat)) : Int) = (idx : Int) + 1 by omega] at this))
  have HAT := hide (fun W (hb : Below w9.heap.size w9 W) => (show Calls Tryd.prog 24 #[.agg #[.pointer (some ⟨r, 0, none⟩)], .int .i64 H] W fun e w' => e = .returned (.tuple #[.int .i64 idx, .int .i64 0]) ∧ Below W.heap.size W w' from by
    have := at_l (HL.out.bl hb) hs (H : Int)
    rwa [h1, hm] at this))
  have HST := hide (fun W (hb : Below w9.heap.size w9 W) => (show Calls Tryd.prog 25 #[.agg #[.pointer (some ⟨r, 0, none⟩)], .int .i64 idx] W fun e w' => e = .returned (.tuple #[.int .i64 S, .int .i64 0]) ∧ Below W.heap.size W w' from by
    have := start_l (HL.out.bl hb) hs (idx : Int)
    rwa [h2, hlc] at this))
  have HEN := hide (fun W (hb : Below w9.heap.size w9 W) => (show Calls Tryd.prog 26 #[.agg #[.pointer (some ⟨r, 0, none⟩)], .int .i64 idx] W fun e w' => e = .returned (.tuple #[.int .i64 E, .int .i64 0]) ∧ Below W.heap.size W w' from by
    have := end_l (HL.out.bl hb) hs (idx : Int)
    rwa [h3, hlc] at this))
  have HSLA := hide (fun W (hb : Below w9.heap.size w9 W) => ln_slc (HL.out.bl hb) hs p q (by omega) hqx)
  have HSLB := hide (fun W (hb : Below w9.heap.size w9 W) => ln_slc (HL.out.bl hb) hs S E (by omega) hEx)
  rw [hline] at HSLB
  have HWD := hide (fun W => wordAt_any line d (by omega) (by omega) wd hwd W)
  have HGET := hide (fun W (hb : Below w9.heap.size w9 W) => get_any _ env ⟨#[84, 77, 95, 70, 73, 76, 69, 80, 65, 84, 72]⟩ pa b W (rwat_below HE.out (bl_trans HB9.out hb)) hel hpa hbb)
  have HSRC9 := hide (fun W (hb : Below w9.heap.size w9 W) => src_below HSRC.out (bl_trans HB9.out hb))
  have HCUT := hide (fun W => cut_any pa hpz (cutD pa) (cutF pa) rfl rfl W)
  have hcz : (cutF pa).size ≤ 1000000 := by
    unfold cutF
    split
    · exact hpz
    · rw [ByteArray.size_extract]; omega
  have HBAS := hide (fun W => base_any (cutF pa) hcz (basF (cutF pa)) rfl W)
  have HA := hide (acc_start w9)
  have q1 : IntKind.i64.wrap ((H : Int) - (S : Int)) = (d : Int) := by rw [IntKind.wrap_i64]; omega
  have q2 : IntKind.i64.wrap ((idx : Int) + 1) = (idx : Int) + 1 := by rw [IntKind.wrap_i64]; omega
  have HQ := hide (show IntKind.i64.wrap ((q : Int) - (p : Int)) = ((q - p : Nat) : Int) by rw [IntKind.wrap_i64]; omega)
  have HLE := hide (fun W => splen_any (p : Int) q ((q - p : Nat) : Int) HQ.out W)
  have gq : decide ((0 : Int) < ((q - p : Nat) : Int)) = false := decide_eq_false (by omega)
  have gq' : decide (0 < q - p) = false := decide_eq_false (by omega)
  have gwd : wd.toList.isEmpty = false := hwe'
  subst hbt'
  clear hb9 c3 c41 c42 c81 c82 n1 n2 hm hlc h1 h2 h3 hwd hpa hbb hline hlz HI1 HI2 HSP HMAY HLEN HLN HSRC HQ hcz he
  have c3 := cell_later (acc_b HA.out) C3.out
  have c41 := cell_later (acc_b HA.out) C41.out
  have c42 := cell_later (acc_b HA.out) C42.out
  have c81 := cell_later (acc_b HA.out) C81.out
  have c82 := cell_later (acc_b HA.out) C82.out
  go_wp2_with fail
  (with_reducible refine (HLE.out _).mono ?_)
  rintro e w3 ⟨rfl, hbn⟩
  have HA := hide (HA.out.bl hbn)
  clear hbn HLE
  clear c3 c41 c42 c81 c82
  have c3 := cell_later (acc_b HA.out) C3.out
  have c41 := cell_later (acc_b HA.out) C41.out
  have c42 := cell_later (acc_b HA.out) C42.out
  have c81 := cell_later (acc_b HA.out) C81.out
  have c82 := cell_later (acc_b HA.out) C82.out
  go_wp2_with fail
  (with_reducible refine (HAT.out _ (acc_b HA.out)).mono ?_)
  rintro e w6 ⟨rfl, hbn⟩
  have HA := hide (HA.out.bl hbn)
  clear hbn
  clear c3 c41 c42 c81 c82
  have c3 := cell_later (acc_b HA.out) C3.out
  have c41 := cell_later (acc_b HA.out) C41.out
  have c42 := cell_later (acc_b HA.out) C42.out
  have c81 := cell_later (acc_b HA.out) C81.out
  have c82 := cell_later (acc_b HA.out) C82.out
  go_wp2_with fail
  (with_reducible refine (HST.out _ (acc_b HA.out)).mono ?_)
  rintro e w7 ⟨rfl, hbn⟩
  have HA := hide (HA.out.bl hbn)
  clear hbn
  clear c3 c41 c42 c81 c82
  have c3 := cell_later (acc_b HA.out) C3.out
  have c41 := cell_later (acc_b HA.out) C41.out
  have c42 := cell_later (acc_b HA.out) C42.out
  have c81 := cell_later (acc_b HA.out) C81.out
  have c82 := cell_later (acc_b HA.out) C82.out
  go_wp2_with fail
  (with_reducible refine (HEN.out _ (acc_b HA.out)).mono ?_)
  rintro e w8 ⟨rfl, hbn⟩
  have HA := hide (HA.out.bl hbn)
  clear hbn
  clear c3 c41 c42 c81 c82
  have c3 := cell_later (acc_b HA.out) C3.out
  have c41 := cell_later (acc_b HA.out) C41.out
  have c42 := cell_later (acc_b HA.out) C42.out
  have c81 := cell_later (acc_b HA.out) C81.out
  have c82 := cell_later (acc_b HA.out) C82.out
  go_wp2_with fail
  (with_reducible refine (HSLB.out _ (acc_b HA.out)).mono ?_)
  rintro e w19 ⟨rfl, hbn⟩
  have HA := hide (HA.out.bl hbn)
  clear hbn
  clear c3 c41 c42 c81 c82
  go_wp2_with fail
  (with_reducible refine (add_any HA.out (by simp) ⟨#[84, 77, 95, 67, 85, 82, 82, 69, 78, 84, 95, 76, 73, 78, 69]⟩ line).mono ?_)
  rintro e w20 ⟨rfl, ha⟩
  have HA := hide ha
  clear ha
  have c3 := cell_later (acc_b HA.out) C3.out
  have c41 := cell_later (acc_b HA.out) C41.out
  have c42 := cell_later (acc_b HA.out) C42.out
  have c81 := cell_later (acc_b HA.out) C81.out
  have c82 := cell_later (acc_b HA.out) C82.out
  go_wp2_with fail
  (with_reducible refine (HWD.out _).mono ?_)
  rintro e w21 ⟨rfl, hwn⟩
  subst hwn
  clear c3 c41 c42 c81 c82
  go_wp2_with fail
  (with_reducible refine (add_any HA.out (by simp) ⟨#[84, 77, 95, 67, 85, 82, 82, 69, 78, 84, 95, 87, 79, 82, 68]⟩ wd).mono ?_)
  rintro e w22 ⟨rfl, ha⟩
  have HA := hide ha
  clear ha
  go_wp2_with fail
  (with_reducible refine (HIT1.out _ (acc_b HA.out)).mono ?_)
  rintro e w23 ⟨rfl, hbn⟩
  have HA := hide (HA.out.bl hbn)
  clear hbn
  go_wp2_with fail
  (with_reducible refine (add_any HA.out (by simp) ⟨#[84, 77, 95, 76, 73, 78, 69, 95, 73, 78, 68, 69, 88]⟩ (itoaS idx)).mono ?_)
  rintro e w24 ⟨rfl, ha⟩
  have HA := hide ha
  clear ha
  go_wp2_with fail
  (with_reducible refine (HIT2.out _ (acc_b HA.out)).mono ?_)
  rintro e w25 ⟨rfl, hbn⟩
  have HA := hide (HA.out.bl hbn)
  clear hbn
  go_wp2_with fail
  (with_reducible refine (add_any HA.out (by simp) ⟨#[84, 77, 95, 76, 73, 78, 69, 95, 78, 85, 77, 66, 69, 82]⟩ (itoaS (idx + 1))).mono ?_)
  rintro e w26 ⟨rfl, ha⟩
  have HA := hide ha
  clear ha
  go_wp2_with fail
  (with_reducible refine (HGET.out _ (acc_b HA.out)).mono ?_)
  rintro e w27 ⟨rfl, hbn⟩
  have HA := hide (HA.out.bl hbn)
  clear hbn
  go_wp2_with fail
  (with_reducible refine (HCUT.out _).mono ?_)
  rintro e w28 ⟨rfl, hbn⟩
  have HA := hide (HA.out.bl hbn)
  clear hbn
  go_wp2_with fail
  (with_reducible refine (add_any HA.out (by simp) ⟨#[84, 77, 95, 70, 73, 76, 69, 78, 65, 77, 69]⟩ (cutF pa)).mono ?_)
  rintro e w29 ⟨rfl, ha⟩
  have HA := hide ha
  clear ha
  go_wp2_with fail
  (with_reducible refine (HBAS.out _).mono ?_)
  rintro e w30 ⟨rfl, hwn⟩
  subst hwn
  go_wp2_with fail
  (with_reducible refine (add_any HA.out (by simp) ⟨#[84, 77, 95, 70, 73, 76, 69, 78, 65, 77, 69, 95, 66, 65, 83, 69]⟩ (basF (cutF pa))).mono ?_)
  rintro e w31 ⟨rfl, ha⟩
  have HA := hide ha
  clear ha
  go_wp2_with fail
  (with_reducible refine (add_any HA.out (by simp) ⟨#[84, 77, 95, 68, 73, 82, 69, 67, 84, 79, 82, 89]⟩ (cutD pa)).mono ?_)
  rintro e w32 ⟨rfl, ha⟩
  have HA := hide ha
  clear ha
  rw [← HR.out] at HA
  obtain ⟨R, hR⟩ : ∃ R, plAll x p q line wd idx true pa = R := ⟨_, rfl⟩
  rw [hR] at HA ⊢
  have hRl : R.length ≤ 1000 := by rw [← hR, HR.out]; simp
  obtain ⟨ha1, ha2, vR, ha3, ha4⟩ := HA.out
  obtain ⟨aR, cR, rfl⟩ := own_slice ha4
  have HA4 := hide ha4
  have HS9 := hide (HSRC9.out _ ha1)
  have hone := flatR_one env
  have ha5 := World.block_lt_of_cell? _ _ ha3
  have ha6 : w9.heap.size < _ := ha5
  have ag := fun h => (World.ownsRow.lt HA4.out w9.heap.size h).1
  have HBE := hide (bl_trans HB9.out ha1)
  have HRR := hide hR
  clear ha1 ha2 ha4 hR HR HA HSRC9 ha5
  go_wp2_with (at_builtin; (refine wpList_src _ rfl _ _ 22 rfl (w9.heap.size + 1) 46 i0 (.agg #[.string ⟨#[]⟩, .string ⟨#[]⟩]) 2 32 Tryd.underlying22 hi0 hz0' hz1 hz2 rfl (by decide) (.slice aR R.length cR) R.length (flatR R) rfl HA4.out vA env.length vc (flatR env) rfl HS9.out hone (by omega) (by decide) (by omega) ?_); intro v' w4 hv4 hg4; have HV4 := hide hv4; have HG4 := hide hg4; clear hv4 hg4)
  go_ret2
  have hv := HV4.out
  rw [← flatR_app, ← List.length_append, ← HRR.out] at hv
  refine ⟨v', rfl, bl_grown HBE.out HG4.out (fun k hk => ?_), own_base hv ?_⟩
  · have := (World.ownsRow.lt HA4.out k hk).1
    have := HB9.out.size
    omega
  · have := HB9.out.size
    omega
set_option maxHeartbeats 16000000 in
theorem place_snn {w : World} {r : Nat} {x : ByteArray} (h : LnAt w r x) (hs : x.size ≤ 100000) (A H p q idx S E d : Nat) (v0 : Value) (env : List Rw) (he : RwAt w v0 env) (hel : env.length ≤ 1000)
    (hp : min (A : Int) H = p) (hq : max (A : Int) H = q) (hqx : q ≤ x.size) (h1 : atV x.data.toList H = idx) (h2 : lnSv x.data.toList idx = S) (h3 : lnEv x.data.toList idx = E) (hd : S + d = H) (hHE : H ≤ E) (hEx : E ≤ x.size) (hidx : idx ≤ 100000)
    (line wd pa : ByteArray) (b : Bool) (hline : x.extract S E = line) (hwd : wrdF line d = wd) (hpa : getV ⟨#[84, 77, 95, 70, 73, 76, 69, 80, 65, 84, 72]⟩ env = pa) (hbb : getB ⟨#[84, 77, 95, 70, 73, 76, 69, 80, 65, 84, 72]⟩ env = b) (hpz : pa.size ≤ 1000000) (hi1 : ItOK w idx) (hi2 : ItOK w (idx + 1)) (hsel : p < q) (hwe' : wd.toList.isEmpty = true) (hbt' : b = false) (hlc0 : lnC x.data.toList idx = 0) :
    Calls Tryd.prog 22 #[.agg #[.pointer (some ⟨r, 0, none⟩)], .agg #[.int .i64 A, .int .i64 H], v0] w (VPost w (plAll x p q line wd idx b pa ++ env)) := by
  have hwe : (wd.toList.isEmpty = true) := by simp [hwe']
  have hbt : ¬ (b = true) := by simp [hbt']
  obtain ⟨i0, hi0, hz0', hz1, hz2⟩ := info_parts info_rw
  obtain ⟨vA, vc, rfl, hsrc⟩ := rw_src he
  have hAH : (p : Int) ≤ q := by omega
  have hlz : line.size = E - S := by rw [← hline, ByteArray.size_extract]; omega
  have hm : mayR 0 (H : Int) x.size = 0 := by unfold mayR; rw [if_neg (by omega)]
  have hlc : lnC x.data.toList idx = 0 := hlc0
  have hH1 : (H : Int) ≤ x.size := by omega
  have HSP := hide (fun W => spanV (A : Int) H p q hp hq W)
  have HMAY := hide (fun W => (show Calls Tryd.prog 38 #[.agg #[.int .i64 p, .int .i64 q], .int .i64 x.size] W fun e w' => e = .returned (.bool true) ∧ Below W.heap.size W w' from by
    have := may_any (p, q) x.size W
    rwa [show mayB ((p : Int), (q : Int)) x.size = true from decide_eq_true (by omega)] at this))
  have HLEN := hide (fun W (hb : Below w.heap.size w W) => ln_len (h.bl hb))
  have HLN := hide h
  have HSRC := hide hsrc
  have HE := hide he
  have HI1 := hide hi1
  have HI2 := hide hi2
  have HR : Hid (plAll x p q line wd idx b pa = [] ++ [(⟨#[84, 77, 95, 83, 69, 76, 69, 67, 84, 69, 68, 95, 84, 69, 88, 84]⟩, x.extract p q)] ++ [(⟨#[84, 77, 95, 67, 85, 82, 82, 69, 78, 84, 95, 76, 73, 78, 69]⟩, line)] ++ [(⟨#[84, 77, 95, 76, 73, 78, 69, 95, 73, 78, 68, 69, 88]⟩, itoaS idx)] ++ [(⟨#[84, 77, 95, 76, 73, 78, 69, 95, 78, 85, 77, 66, 69, 82]⟩, itoaS (idx + 1))]) := hide (by unfold plAll plSel plWord plPath; rw [if_pos hsel]; rw [if_pos hwe]; rw [if_neg hbt]; simp)
  clear hi1 hi2 hsrc hp hq
  go_enter Tryd.func22, Tryd.ntmps22
  go_wp2_with fail
  (with_reducible refine (HSP.out _).mono ?_)
  rintro e w1 ⟨rfl, hb1⟩
  have hb00 := bl_alloc (bl_alloc (bl_refl w) (.cells #[.pointer (some ⟨r, 0, none⟩)] 42)) (.cells #[.int .i64 A, .int .i64 H] 39)
  have c3 : ((w.alloc (.cells #[.pointer (some ⟨r, 0, none⟩)] 42)).alloc (.cells #[.int .i64 A, .int .i64 H] 39)).cell? ⟨w.heap.size, 0, none⟩ = some (.pointer (some ⟨r, 0, none⟩)) := by go_simp
  have c41 : ((w.alloc (.cells #[.pointer (some ⟨r, 0, none⟩)] 42)).alloc (.cells #[.int .i64 A, .int .i64 H] 39)).cell? ⟨w.heap.size + 1, 0, none⟩ = some (.int .i64 A) := by go_simp
  have c42 : ((w.alloc (.cells #[.pointer (some ⟨r, 0, none⟩)] 42)).alloc (.cells #[.int .i64 A, .int .i64 H] 39)).cell? ⟨w.heap.size + 1, 1, none⟩ = some (.int .i64 H) := by go_simp
  replace c3 := cell_later hb1 c3
  replace c41 := cell_later hb1 c41
  replace c42 := cell_later hb1 c42
  have hb01 := bl_trans hb00 hb1
  have hb02 := bl_trans hb01 (bl_alloc (bl_refl w1) (.cells #[.int .i64 p, .int .i64 q] 71))
  have hb11 := bl_alloc (bl_refl w1) (.cells #[.int .i64 p, .int .i64 q] 71)
  have c81 : (w1.alloc (.cells #[.int .i64 p, .int .i64 q] 71)).cell? ⟨w1.heap.size, 0, none⟩ = some (.int .i64 p) := by go_simp
  have c82 : (w1.alloc (.cells #[.int .i64 p, .int .i64 q] 71)).cell? ⟨w1.heap.size, 1, none⟩ = some (.int .i64 q) := by go_simp
  replace c3 := cell_later hb11 c3
  replace c41 := cell_later hb11 c41
  replace c42 := cell_later hb11 c42
  have HB02 := hide hb02
  clear hb00 hb01 hb02 hb1 hb11
  go_wp2
  generalize (w1.alloc (.cells #[.int .i64 p, .int .i64 q] 71)) = w2 at *
  have n1 := World.block_lt_of_cell? _ _ c3
  have n2 := World.block_lt_of_cell? _ _ c81
  refine wp_region_later (by kernel_rfl) (by kernel_rfl) ?_
  repeat (go_big_quiet_step (first
    | (go_at_call 39; exact later_call_same (HLEN.out _ (bl_trans HB02.out (Later.below _))))
    | (go_at_call 38; exact later_call (HMAY.out _))
    | exact rfl))
  refine wpQuiet_nil ?_
  rintro w9 ⟨⟨_, hb9⟩, rfl⟩
  have C3 := hide (cell_later hb9 c3)
  have C41 := hide (cell_later hb9 c41)
  have C42 := hide (cell_later hb9 c42)
  have C81 := hide (cell_later hb9 c81)
  have C82 := hide (cell_later hb9 c82)
  have HB9 := hide (bl_trans HB02.out hb9)
  have HL := hide (HLN.out.bl HB9.out)
  have HIT1 := hide (fun W (hb : Below w9.heap.size w9 W) => HI1.out W (bl_trans HB9.out hb))
  have HIT2 := hide (fun W (hb : Below w9.heap.size w9 W) => (show Calls Tryd.prog 44 #[.int .i64 ((idx : Int) + 1)] W fun e w' => e = .returned (.string (itoaS (idx + 1))) ∧ Below W.heap.size W w' from by
    have := HI2.out W (bl_trans HB9.out hb)
    rwa [show (((idx + 1 : Nat)) : Int) = (idx : Int) + 1 by omega] at this))
  have HAT := hide (fun W (hb : Below w9.heap.size w9 W) => (show Calls Tryd.prog 24 #[.agg #[.pointer (some ⟨r, 0, none⟩)], .int .i64 H] W fun e w' => e = .returned (.tuple #[.int .i64 idx, .int .i64 0]) ∧ Below W.heap.size W w' from by
    have := at_l (HL.out.bl hb) hs (H : Int)
    rwa [h1, hm] at this))
  have HST := hide (fun W (hb : Below w9.heap.size w9 W) => (show Calls Tryd.prog 25 #[.agg #[.pointer (some ⟨r, 0, none⟩)], .int .i64 idx] W fun e w' => e = .returned (.tuple #[.int .i64 S, .int .i64 0]) ∧ Below W.heap.size W w' from by
    have := start_l (HL.out.bl hb) hs (idx : Int)
    rwa [h2, hlc] at this))
  have HEN := hide (fun W (hb : Below w9.heap.size w9 W) => (show Calls Tryd.prog 26 #[.agg #[.pointer (some ⟨r, 0, none⟩)], .int .i64 idx] W fun e w' => e = .returned (.tuple #[.int .i64 E, .int .i64 0]) ∧ Below W.heap.size W w' from by
    have := end_l (HL.out.bl hb) hs (idx : Int)
    rwa [h3, hlc] at this))
  have HSLA := hide (fun W (hb : Below w9.heap.size w9 W) => ln_slc (HL.out.bl hb) hs p q (by omega) hqx)
  have HSLB := hide (fun W (hb : Below w9.heap.size w9 W) => ln_slc (HL.out.bl hb) hs S E (by omega) hEx)
  rw [hline] at HSLB
  have HWD := hide (fun W => wordAt_any line d (by omega) (by omega) wd hwd W)
  have HGET := hide (fun W (hb : Below w9.heap.size w9 W) => get_any _ env ⟨#[84, 77, 95, 70, 73, 76, 69, 80, 65, 84, 72]⟩ pa b W (rwat_below HE.out (bl_trans HB9.out hb)) hel hpa hbb)
  have HSRC9 := hide (fun W (hb : Below w9.heap.size w9 W) => src_below HSRC.out (bl_trans HB9.out hb))
  have HCUT := hide (fun W => cut_any pa hpz (cutD pa) (cutF pa) rfl rfl W)
  have hcz : (cutF pa).size ≤ 1000000 := by
    unfold cutF
    split
    · exact hpz
    · rw [ByteArray.size_extract]; omega
  have HBAS := hide (fun W => base_any (cutF pa) hcz (basF (cutF pa)) rfl W)
  have HA := hide (acc_start w9)
  have q1 : IntKind.i64.wrap ((H : Int) - (S : Int)) = (d : Int) := by rw [IntKind.wrap_i64]; omega
  have q2 : IntKind.i64.wrap ((idx : Int) + 1) = (idx : Int) + 1 := by rw [IntKind.wrap_i64]; omega
  have HQ := hide (show IntKind.i64.wrap ((q : Int) - (p : Int)) = ((q - p : Nat) : Int) by rw [IntKind.wrap_i64]; omega)
  have HLE := hide (fun W => splen_any (p : Int) q ((q - p : Nat) : Int) HQ.out W)
  have gq : decide ((0 : Int) < ((q - p : Nat) : Int)) = true := decide_eq_true (by omega)
  have gq' : decide (0 < q - p) = true := decide_eq_true (by omega)
  have gwd : wd.toList.isEmpty = true := hwe'
  subst hbt'
  clear hb9 c3 c41 c42 c81 c82 n1 n2 hm hlc h1 h2 h3 hwd hpa hbb hline hlz HI1 HI2 HSP HMAY HLEN HLN HSRC HQ hcz he
  have c3 := cell_later (acc_b HA.out) C3.out
  have c41 := cell_later (acc_b HA.out) C41.out
  have c42 := cell_later (acc_b HA.out) C42.out
  have c81 := cell_later (acc_b HA.out) C81.out
  have c82 := cell_later (acc_b HA.out) C82.out
  go_wp2_with fail
  (with_reducible refine (HLE.out _).mono ?_)
  rintro e w3 ⟨rfl, hbn⟩
  have HA := hide (HA.out.bl hbn)
  clear hbn HLE
  clear c3 c41 c42 c81 c82
  have c3 := cell_later (acc_b HA.out) C3.out
  have c41 := cell_later (acc_b HA.out) C41.out
  have c42 := cell_later (acc_b HA.out) C42.out
  have c81 := cell_later (acc_b HA.out) C81.out
  have c82 := cell_later (acc_b HA.out) C82.out
  go_wp2_with fail
  (with_reducible refine (HSLA.out _ (acc_b HA.out)).mono ?_)
  rintro e w4 ⟨rfl, hbn⟩
  have HA := hide (HA.out.bl hbn)
  clear hbn
  clear c3 c41 c42 c81 c82
  go_wp2_with fail
  (with_reducible refine (add_any HA.out (by simp) ⟨#[84, 77, 95, 83, 69, 76, 69, 67, 84, 69, 68, 95, 84, 69, 88, 84]⟩ (x.extract p q)).mono ?_)
  rintro e w5 ⟨rfl, ha⟩
  have HA := hide ha
  clear ha
  have c3 := cell_later (acc_b HA.out) C3.out
  have c41 := cell_later (acc_b HA.out) C41.out
  have c42 := cell_later (acc_b HA.out) C42.out
  have c81 := cell_later (acc_b HA.out) C81.out
  have c82 := cell_later (acc_b HA.out) C82.out
  go_wp2_with fail
  (with_reducible refine (HAT.out _ (acc_b HA.out)).mono ?_)
  rintro e w6 ⟨rfl, hbn⟩
  have HA := hide (HA.out.bl hbn)
  clear hbn
  clear c3 c41 c42 c81 c82
  have c3 := cell_later (acc_b HA.out) C3.out
  have c41 := cell_later (acc_b HA.out) C41.out
  have c42 := cell_later (acc_b HA.out) C42.out
  have c81 := cell_later (acc_b HA.out) C81.out
  have c82 := cell_later (acc_b HA.out) C82.out
  go_wp2_with fail
  (with_reducible refine (HST.out _ (acc_b HA.out)).mono ?_)
  rintro e w7 ⟨rfl, hbn⟩
  have HA := hide (HA.out.bl hbn)
  clear hbn
  clear c3 c41 c42 c81 c82
  have c3 := cell_later (acc_b HA.out) C3.out
  have c41 := cell_later (acc_b HA.out) C41.out
  have c42 := cell_later (acc_b HA.out) C42.out
  have c81 := cell_later (acc_b HA.out) C81.out
  have c82 := cell_later (acc_b HA.out) C82.out
  go_wp2_with fail
  (with_reducible refine (HEN.out _ (acc_b HA.out)).mono ?_)
  rintro e w8 ⟨rfl, hbn⟩
  have HA := hide (HA.out.bl hbn)
  clear hbn
  clear c3 c41 c42 c81 c82
  have c3 := cell_later (acc_b HA.out) C3.out
  have c41 := cell_later (acc_b HA.out) C41.out
  have c42 := cell_later (acc_b HA.out) C42.out
  have c81 := cell_later (acc_b HA.out) C81.out
  have c82 := cell_later (acc_b HA.out) C82.out
  go_wp2_with fail
  (with_reducible refine (HSLB.out _ (acc_b HA.out)).mono ?_)
  rintro e w19 ⟨rfl, hbn⟩
  have HA := hide (HA.out.bl hbn)
  clear hbn
  clear c3 c41 c42 c81 c82
  go_wp2_with fail
  (with_reducible refine (add_any HA.out (by simp) ⟨#[84, 77, 95, 67, 85, 82, 82, 69, 78, 84, 95, 76, 73, 78, 69]⟩ line).mono ?_)
  rintro e w20 ⟨rfl, ha⟩
  have HA := hide ha
  clear ha
  have c3 := cell_later (acc_b HA.out) C3.out
  have c41 := cell_later (acc_b HA.out) C41.out
  have c42 := cell_later (acc_b HA.out) C42.out
  have c81 := cell_later (acc_b HA.out) C81.out
  have c82 := cell_later (acc_b HA.out) C82.out
  go_wp2_with fail
  (with_reducible refine (HWD.out _).mono ?_)
  rintro e w21 ⟨rfl, hwn⟩
  subst hwn
  clear c3 c41 c42 c81 c82
  go_wp2_with fail
  (with_reducible refine (HIT1.out _ (acc_b HA.out)).mono ?_)
  rintro e w23 ⟨rfl, hbn⟩
  have HA := hide (HA.out.bl hbn)
  clear hbn
  go_wp2_with fail
  (with_reducible refine (add_any HA.out (by simp) ⟨#[84, 77, 95, 76, 73, 78, 69, 95, 73, 78, 68, 69, 88]⟩ (itoaS idx)).mono ?_)
  rintro e w24 ⟨rfl, ha⟩
  have HA := hide ha
  clear ha
  go_wp2_with fail
  (with_reducible refine (HIT2.out _ (acc_b HA.out)).mono ?_)
  rintro e w25 ⟨rfl, hbn⟩
  have HA := hide (HA.out.bl hbn)
  clear hbn
  go_wp2_with fail
  (with_reducible refine (add_any HA.out (by simp) ⟨#[84, 77, 95, 76, 73, 78, 69, 95, 78, 85, 77, 66, 69, 82]⟩ (itoaS (idx + 1))).mono ?_)
  rintro e w26 ⟨rfl, ha⟩
  have HA := hide ha
  clear ha
  go_wp2_with fail
  (with_reducible refine (HGET.out _ (acc_b HA.out)).mono ?_)
  rintro e w27 ⟨rfl, hbn⟩
  have HA := hide (HA.out.bl hbn)
  clear hbn
  rw [← HR.out] at HA
  obtain ⟨R, hR⟩ : ∃ R, plAll x p q line wd idx false pa = R := ⟨_, rfl⟩
  rw [hR] at HA ⊢
  have hRl : R.length ≤ 1000 := by rw [← hR, HR.out]; simp
  obtain ⟨ha1, ha2, vR, ha3, ha4⟩ := HA.out
  obtain ⟨aR, cR, rfl⟩ := own_slice ha4
  have HA4 := hide ha4
  have HS9 := hide (HSRC9.out _ ha1)
  have hone := flatR_one env
  have ha5 := World.block_lt_of_cell? _ _ ha3
  have ha6 : w9.heap.size < _ := ha5
  have ag := fun h => (World.ownsRow.lt HA4.out w9.heap.size h).1
  have HBE := hide (bl_trans HB9.out ha1)
  have HRR := hide hR
  clear ha1 ha2 ha4 hR HR HA HSRC9 ha5
  go_wp2_with (at_builtin; (refine wpList_src _ rfl _ _ 22 rfl (w9.heap.size + 1) 46 i0 (.agg #[.string ⟨#[]⟩, .string ⟨#[]⟩]) 2 32 Tryd.underlying22 hi0 hz0' hz1 hz2 rfl (by decide) (.slice aR R.length cR) R.length (flatR R) rfl HA4.out vA env.length vc (flatR env) rfl HS9.out hone (by omega) (by decide) (by omega) ?_); intro v' w4 hv4 hg4; have HV4 := hide hv4; have HG4 := hide hg4; clear hv4 hg4)
  go_ret2
  have hv := HV4.out
  rw [← flatR_app, ← List.length_append, ← HRR.out] at hv
  refine ⟨v', rfl, bl_grown HBE.out HG4.out (fun k hk => ?_), own_base hv ?_⟩
  · have := (World.ownsRow.lt HA4.out k hk).1
    have := HB9.out.size
    omega
  · have := HB9.out.size
    omega
set_option maxHeartbeats 16000000 in
theorem place_snp {w : World} {r : Nat} {x : ByteArray} (h : LnAt w r x) (hs : x.size ≤ 100000) (A H p q idx S E d : Nat) (v0 : Value) (env : List Rw) (he : RwAt w v0 env) (hel : env.length ≤ 1000)
    (hp : min (A : Int) H = p) (hq : max (A : Int) H = q) (hqx : q ≤ x.size) (h1 : atV x.data.toList H = idx) (h2 : lnSv x.data.toList idx = S) (h3 : lnEv x.data.toList idx = E) (hd : S + d = H) (hHE : H ≤ E) (hEx : E ≤ x.size) (hidx : idx ≤ 100000)
    (line wd pa : ByteArray) (b : Bool) (hline : x.extract S E = line) (hwd : wrdF line d = wd) (hpa : getV ⟨#[84, 77, 95, 70, 73, 76, 69, 80, 65, 84, 72]⟩ env = pa) (hbb : getB ⟨#[84, 77, 95, 70, 73, 76, 69, 80, 65, 84, 72]⟩ env = b) (hpz : pa.size ≤ 1000000) (hi1 : ItOK w idx) (hi2 : ItOK w (idx + 1)) (hsel : p < q) (hwe' : wd.toList.isEmpty = true) (hbt' : b = true) (hlc0 : lnC x.data.toList idx = 0) :
    Calls Tryd.prog 22 #[.agg #[.pointer (some ⟨r, 0, none⟩)], .agg #[.int .i64 A, .int .i64 H], v0] w (VPost w (plAll x p q line wd idx b pa ++ env)) := by
  have hwe : (wd.toList.isEmpty = true) := by simp [hwe']
  have hbt : (b = true) := by simp [hbt']
  obtain ⟨i0, hi0, hz0', hz1, hz2⟩ := info_parts info_rw
  obtain ⟨vA, vc, rfl, hsrc⟩ := rw_src he
  have hAH : (p : Int) ≤ q := by omega
  have hlz : line.size = E - S := by rw [← hline, ByteArray.size_extract]; omega
  have hm : mayR 0 (H : Int) x.size = 0 := by unfold mayR; rw [if_neg (by omega)]
  have hlc : lnC x.data.toList idx = 0 := hlc0
  have hH1 : (H : Int) ≤ x.size := by omega
  have HSP := hide (fun W => spanV (A : Int) H p q hp hq W)
  have HMAY := hide (fun W => (show Calls Tryd.prog 38 #[.agg #[.int .i64 p, .int .i64 q], .int .i64 x.size] W fun e w' => e = .returned (.bool true) ∧ Below W.heap.size W w' from by
    have := may_any (p, q) x.size W
    rwa [show mayB ((p : Int), (q : Int)) x.size = true from decide_eq_true (by omega)] at this))
  have HLEN := hide (fun W (hb : Below w.heap.size w W) => ln_len (h.bl hb))
  have HLN := hide h
  have HSRC := hide hsrc
  have HE := hide he
  have HI1 := hide hi1
  have HI2 := hide hi2
  have HR : Hid (plAll x p q line wd idx b pa = [] ++ [(⟨#[84, 77, 95, 83, 69, 76, 69, 67, 84, 69, 68, 95, 84, 69, 88, 84]⟩, x.extract p q)] ++ [(⟨#[84, 77, 95, 67, 85, 82, 82, 69, 78, 84, 95, 76, 73, 78, 69]⟩, line)] ++ [(⟨#[84, 77, 95, 76, 73, 78, 69, 95, 73, 78, 68, 69, 88]⟩, itoaS idx)] ++ [(⟨#[84, 77, 95, 76, 73, 78, 69, 95, 78, 85, 77, 66, 69, 82]⟩, itoaS (idx + 1))] ++ [(⟨#[84, 77, 95, 70, 73, 76, 69, 78, 65, 77, 69]⟩, cutF pa)] ++ [(⟨#[84, 77, 95, 70, 73, 76, 69, 78, 65, 77, 69, 95, 66, 65, 83, 69]⟩, basF (cutF pa))] ++ [(⟨#[84, 77, 95, 68, 73, 82, 69, 67, 84, 79, 82, 89]⟩, cutD pa)]) := hide (by unfold plAll plSel plWord plPath; rw [if_pos hsel]; rw [if_pos hwe]; rw [if_pos hbt]; simp)
  clear hi1 hi2 hsrc hp hq
  go_enter Tryd.func22, Tryd.ntmps22
  go_wp2_with fail
  (with_reducible refine (HSP.out _).mono ?_)
  rintro e w1 ⟨rfl, hb1⟩
  have hb00 := bl_alloc (bl_alloc (bl_refl w) (.cells #[.pointer (some ⟨r, 0, none⟩)] 42)) (.cells #[.int .i64 A, .int .i64 H] 39)
  have c3 : ((w.alloc (.cells #[.pointer (some ⟨r, 0, none⟩)] 42)).alloc (.cells #[.int .i64 A, .int .i64 H] 39)).cell? ⟨w.heap.size, 0, none⟩ = some (.pointer (some ⟨r, 0, none⟩)) := by go_simp
  have c41 : ((w.alloc (.cells #[.pointer (some ⟨r, 0, none⟩)] 42)).alloc (.cells #[.int .i64 A, .int .i64 H] 39)).cell? ⟨w.heap.size + 1, 0, none⟩ = some (.int .i64 A) := by go_simp
  have c42 : ((w.alloc (.cells #[.pointer (some ⟨r, 0, none⟩)] 42)).alloc (.cells #[.int .i64 A, .int .i64 H] 39)).cell? ⟨w.heap.size + 1, 1, none⟩ = some (.int .i64 H) := by go_simp
  replace c3 := cell_later hb1 c3
  replace c41 := cell_later hb1 c41
  replace c42 := cell_later hb1 c42
  have hb01 := bl_trans hb00 hb1
  have hb02 := bl_trans hb01 (bl_alloc (bl_refl w1) (.cells #[.int .i64 p, .int .i64 q] 71))
  have hb11 := bl_alloc (bl_refl w1) (.cells #[.int .i64 p, .int .i64 q] 71)
  have c81 : (w1.alloc (.cells #[.int .i64 p, .int .i64 q] 71)).cell? ⟨w1.heap.size, 0, none⟩ = some (.int .i64 p) := by go_simp
  have c82 : (w1.alloc (.cells #[.int .i64 p, .int .i64 q] 71)).cell? ⟨w1.heap.size, 1, none⟩ = some (.int .i64 q) := by go_simp
  replace c3 := cell_later hb11 c3
  replace c41 := cell_later hb11 c41
  replace c42 := cell_later hb11 c42
  have HB02 := hide hb02
  clear hb00 hb01 hb02 hb1 hb11
  go_wp2
  generalize (w1.alloc (.cells #[.int .i64 p, .int .i64 q] 71)) = w2 at *
  have n1 := World.block_lt_of_cell? _ _ c3
  have n2 := World.block_lt_of_cell? _ _ c81
  refine wp_region_later (by kernel_rfl) (by kernel_rfl) ?_
  repeat (go_big_quiet_step (first
    | (go_at_call 39; exact later_call_same (HLEN.out _ (bl_trans HB02.out (Later.below _))))
    | (go_at_call 38; exact later_call (HMAY.out _))
    | exact rfl))
  refine wpQuiet_nil ?_
  rintro w9 ⟨⟨_, hb9⟩, rfl⟩
  have C3 := hide (cell_later hb9 c3)
  have C41 := hide (cell_later hb9 c41)
  have C42 := hide (cell_later hb9 c42)
  have C81 := hide (cell_later hb9 c81)
  have C82 := hide (cell_later hb9 c82)
  have HB9 := hide (bl_trans HB02.out hb9)
  have HL := hide (HLN.out.bl HB9.out)
  have HIT1 := hide (fun W (hb : Below w9.heap.size w9 W) => HI1.out W (bl_trans HB9.out hb))
  have HIT2 := hide (fun W (hb : Below w9.heap.size w9 W) => (show Calls Tryd.prog 44 #[.int .i64 ((idx : Int) + 1)] W fun e w' => e = .returned (.string (itoaS (idx + 1))) ∧ Below W.heap.size W w' from by
    have := HI2.out W (bl_trans HB9.out hb)
    rwa [show (((idx + 1 : Nat)) : Int) = (idx : Int) + 1 by omega] at this))
  have HAT := hide (fun W (hb : Below w9.heap.size w9 W) => (show Calls Tryd.prog 24 #[.agg #[.pointer (some ⟨r, 0, none⟩)], .int .i64 H] W fun e w' => e = .returned (.tuple #[.int .i64 idx, .int .i64 0]) ∧ Below W.heap.size W w' from by
    have := at_l (HL.out.bl hb) hs (H : Int)
    rwa [h1, hm] at this))
  have HST := hide (fun W (hb : Below w9.heap.size w9 W) => (show Calls Tryd.prog 25 #[.agg #[.pointer (some ⟨r, 0, none⟩)], .int .i64 idx] W fun e w' => e = .returned (.tuple #[.int .i64 S, .int .i64 0]) ∧ Below W.heap.size W w' from by
    have := start_l (HL.out.bl hb) hs (idx : Int)
    rwa [h2, hlc] at this))
  have HEN := hide (fun W (hb : Below w9.heap.size w9 W) => (show Calls Tryd.prog 26 #[.agg #[.pointer (some ⟨r, 0, none⟩)], .int .i64 idx] W fun e w' => e = .returned (.tuple #[.int .i64 E, .int .i64 0]) ∧ Below W.heap.size W w' from by
    have := end_l (HL.out.bl hb) hs (idx : Int)
    rwa [h3, hlc] at this))
  have HSLA := hide (fun W (hb : Below w9.heap.size w9 W) => ln_slc (HL.out.bl hb) hs p q (by omega) hqx)
  have HSLB := hide (fun W (hb : Below w9.heap.size w9 W) => ln_slc (HL.out.bl hb) hs S E (by omega) hEx)
  rw [hline] at HSLB
  have HWD := hide (fun W => wordAt_any line d (by omega) (by omega) wd hwd W)
  have HGET := hide (fun W (hb : Below w9.heap.size w9 W) => get_any _ env ⟨#[84, 77, 95, 70, 73, 76, 69, 80, 65, 84, 72]⟩ pa b W (rwat_below HE.out (bl_trans HB9.out hb)) hel hpa hbb)
  have HSRC9 := hide (fun W (hb : Below w9.heap.size w9 W) => src_below HSRC.out (bl_trans HB9.out hb))
  have HCUT := hide (fun W => cut_any pa hpz (cutD pa) (cutF pa) rfl rfl W)
  have hcz : (cutF pa).size ≤ 1000000 := by
    unfold cutF
    split
    · exact hpz
    · rw [ByteArray.size_extract]; omega
  have HBAS := hide (fun W => base_any (cutF pa) hcz (basF (cutF pa)) rfl W)
  have HA := hide (acc_start w9)
  have q1 : IntKind.i64.wrap ((H : Int) - (S : Int)) = (d : Int) := by rw [IntKind.wrap_i64]; omega
  have q2 : IntKind.i64.wrap ((idx : Int) + 1) = (idx : Int) + 1 := by rw [IntKind.wrap_i64]; omega
  have HQ := hide (show IntKind.i64.wrap ((q : Int) - (p : Int)) = ((q - p : Nat) : Int) by rw [IntKind.wrap_i64]; omega)
  have HLE := hide (fun W => splen_any (p : Int) q ((q - p : Nat) : Int) HQ.out W)
  have gq : decide ((0 : Int) < ((q - p : Nat) : Int)) = true := decide_eq_true (by omega)
  have gq' : decide (0 < q - p) = true := decide_eq_true (by omega)
  have gwd : wd.toList.isEmpty = true := hwe'
  subst hbt'
  clear hb9 c3 c41 c42 c81 c82 n1 n2 hm hlc h1 h2 h3 hwd hpa hbb hline hlz HI1 HI2 HSP HMAY HLEN HLN HSRC HQ hcz he
  have c3 := cell_later (acc_b HA.out) C3.out
  have c41 := cell_later (acc_b HA.out) C41.out
  have c42 := cell_later (acc_b HA.out) C42.out
  have c81 := cell_later (acc_b HA.out) C81.out
  have c82 := cell_later (acc_b HA.out) C82.out
  go_wp2_with fail
  (with_reducible refine (HLE.out _).mono ?_)
  rintro e w3 ⟨rfl, hbn⟩
  have HA := hide (HA.out.bl hbn)
  clear hbn HLE
  clear c3 c41 c42 c81 c82
  have c3 := cell_later (acc_b HA.out) C3.out
  have c41 := cell_later (acc_b HA.out) C41.out
  have c42 := cell_later (acc_b HA.out) C42.out
  have c81 := cell_later (acc_b HA.out) C81.out
  have c82 := cell_later (acc_b HA.out) C82.out
  go_wp2_with fail
  (with_reducible refine (HSLA.out _ (acc_b HA.out)).mono ?_)
  rintro e w4 ⟨rfl, hbn⟩
  have HA := hide (HA.out.bl hbn)
  clear hbn
  clear c3 c41 c42 c81 c82
  go_wp2_with fail
  (with_reducible refine (add_any HA.out (by simp) ⟨#[84, 77, 95, 83, 69, 76, 69, 67, 84, 69, 68, 95, 84, 69, 88, 84]⟩ (x.extract p q)).mono ?_)
  rintro e w5 ⟨rfl, ha⟩
  have HA := hide ha
  clear ha
  have c3 := cell_later (acc_b HA.out) C3.out
  have c41 := cell_later (acc_b HA.out) C41.out
  have c42 := cell_later (acc_b HA.out) C42.out
  have c81 := cell_later (acc_b HA.out) C81.out
  have c82 := cell_later (acc_b HA.out) C82.out
  go_wp2_with fail
  (with_reducible refine (HAT.out _ (acc_b HA.out)).mono ?_)
  rintro e w6 ⟨rfl, hbn⟩
  have HA := hide (HA.out.bl hbn)
  clear hbn
  clear c3 c41 c42 c81 c82
  have c3 := cell_later (acc_b HA.out) C3.out
  have c41 := cell_later (acc_b HA.out) C41.out
  have c42 := cell_later (acc_b HA.out) C42.out
  have c81 := cell_later (acc_b HA.out) C81.out
  have c82 := cell_later (acc_b HA.out) C82.out
  go_wp2_with fail
  (with_reducible refine (HST.out _ (acc_b HA.out)).mono ?_)
  rintro e w7 ⟨rfl, hbn⟩
  have HA := hide (HA.out.bl hbn)
  clear hbn
  clear c3 c41 c42 c81 c82
  have c3 := cell_later (acc_b HA.out) C3.out
  have c41 := cell_later (acc_b HA.out) C41.out
  have c42 := cell_later (acc_b HA.out) C42.out
  have c81 := cell_later (acc_b HA.out) C81.out
  have c82 := cell_later (acc_b HA.out) C82.out
  go_wp2_with fail
  (with_reducible refine (HEN.out _ (acc_b HA.out)).mono ?_)
  rintro e w8 ⟨rfl, hbn⟩
  have HA := hide (HA.out.bl hbn)
  clear hbn
  clear c3 c41 c42 c81 c82
  have c3 := cell_later (acc_b HA.out) C3.out
  have c41 := cell_later (acc_b HA.out) C41.out
  have c42 := cell_later (acc_b HA.out) C42.out
  have c81 := cell_later (acc_b HA.out) C81.out
  have c82 := cell_later (acc_b HA.out) C82.out
  go_wp2_with fail
  (with_reducible refine (HSLB.out _ (acc_b HA.out)).mono ?_)
  rintro e w19 ⟨rfl, hbn⟩
  have HA := hide (HA.out.bl hbn)
  clear hbn
  clear c3 c41 c42 c81 c82
  go_wp2_with fail
  (with_reducible refine (add_any HA.out (by simp) ⟨#[84, 77, 95, 67, 85, 82, 82, 69, 78, 84, 95, 76, 73, 78, 69]⟩ line).mono ?_)
  rintro e w20 ⟨rfl, ha⟩
  have HA := hide ha
  clear ha
  have c3 := cell_later (acc_b HA.out) C3.out
  have c41 := cell_later (acc_b HA.out) C41.out
  have c42 := cell_later (acc_b HA.out) C42.out
  have c81 := cell_later (acc_b HA.out) C81.out
  have c82 := cell_later (acc_b HA.out) C82.out
  go_wp2_with fail
  (with_reducible refine (HWD.out _).mono ?_)
  rintro e w21 ⟨rfl, hwn⟩
  subst hwn
  clear c3 c41 c42 c81 c82
  go_wp2_with fail
  (with_reducible refine (HIT1.out _ (acc_b HA.out)).mono ?_)
  rintro e w23 ⟨rfl, hbn⟩
  have HA := hide (HA.out.bl hbn)
  clear hbn
  go_wp2_with fail
  (with_reducible refine (add_any HA.out (by simp) ⟨#[84, 77, 95, 76, 73, 78, 69, 95, 73, 78, 68, 69, 88]⟩ (itoaS idx)).mono ?_)
  rintro e w24 ⟨rfl, ha⟩
  have HA := hide ha
  clear ha
  go_wp2_with fail
  (with_reducible refine (HIT2.out _ (acc_b HA.out)).mono ?_)
  rintro e w25 ⟨rfl, hbn⟩
  have HA := hide (HA.out.bl hbn)
  clear hbn
  go_wp2_with fail
  (with_reducible refine (add_any HA.out (by simp) ⟨#[84, 77, 95, 76, 73, 78, 69, 95, 78, 85, 77, 66, 69, 82]⟩ (itoaS (idx + 1))).mono ?_)
  rintro e w26 ⟨rfl, ha⟩
  have HA := hide ha
  clear ha
  go_wp2_with fail
  (with_reducible refine (HGET.out _ (acc_b HA.out)).mono ?_)
  rintro e w27 ⟨rfl, hbn⟩
  have HA := hide (HA.out.bl hbn)
  clear hbn
  go_wp2_with fail
  (with_reducible refine (HCUT.out _).mono ?_)
  rintro e w28 ⟨rfl, hbn⟩
  have HA := hide (HA.out.bl hbn)
  clear hbn
  go_wp2_with fail
  (with_reducible refine (add_any HA.out (by simp) ⟨#[84, 77, 95, 70, 73, 76, 69, 78, 65, 77, 69]⟩ (cutF pa)).mono ?_)
  rintro e w29 ⟨rfl, ha⟩
  have HA := hide ha
  clear ha
  go_wp2_with fail
  (with_reducible refine (HBAS.out _).mono ?_)
  rintro e w30 ⟨rfl, hwn⟩
  subst hwn
  go_wp2_with fail
  (with_reducible refine (add_any HA.out (by simp) ⟨#[84, 77, 95, 70, 73, 76, 69, 78, 65, 77, 69, 95, 66, 65, 83, 69]⟩ (basF (cutF pa))).mono ?_)
  rintro e w31 ⟨rfl, ha⟩
  have HA := hide ha
  clear ha
  go_wp2_with fail
  (with_reducible refine (add_any HA.out (by simp) ⟨#[84, 77, 95, 68, 73, 82, 69, 67, 84, 79, 82, 89]⟩ (cutD pa)).mono ?_)
  rintro e w32 ⟨rfl, ha⟩
  have HA := hide ha
  clear ha
  rw [← HR.out] at HA
  obtain ⟨R, hR⟩ : ∃ R, plAll x p q line wd idx true pa = R := ⟨_, rfl⟩
  rw [hR] at HA ⊢
  have hRl : R.length ≤ 1000 := by rw [← hR, HR.out]; simp
  obtain ⟨ha1, ha2, vR, ha3, ha4⟩ := HA.out
  obtain ⟨aR, cR, rfl⟩ := own_slice ha4
  have HA4 := hide ha4
  have HS9 := hide (HSRC9.out _ ha1)
  have hone := flatR_one env
  have ha5 := World.block_lt_of_cell? _ _ ha3
  have ha6 : w9.heap.size < _ := ha5
  have ag := fun h => (World.ownsRow.lt HA4.out w9.heap.size h).1
  have HBE := hide (bl_trans HB9.out ha1)
  have HRR := hide hR
  clear ha1 ha2 ha4 hR HR HA HSRC9 ha5
  go_wp2_with (at_builtin; (refine wpList_src _ rfl _ _ 22 rfl (w9.heap.size + 1) 46 i0 (.agg #[.string ⟨#[]⟩, .string ⟨#[]⟩]) 2 32 Tryd.underlying22 hi0 hz0' hz1 hz2 rfl (by decide) (.slice aR R.length cR) R.length (flatR R) rfl HA4.out vA env.length vc (flatR env) rfl HS9.out hone (by omega) (by decide) (by omega) ?_); intro v' w4 hv4 hg4; have HV4 := hide hv4; have HG4 := hide hg4; clear hv4 hg4)
  go_ret2
  have hv := HV4.out
  rw [← flatR_app, ← List.length_append, ← HRR.out] at hv
  refine ⟨v', rfl, bl_grown HBE.out HG4.out (fun k hk => ?_), own_base hv ?_⟩
  · have := (World.ownsRow.lt HA4.out k hk).1
    have := HB9.out.size
    omega
  · have := HB9.out.size
    omega
set_option maxHeartbeats 16000000 in
theorem place_swn {w : World} {r : Nat} {x : ByteArray} (h : LnAt w r x) (hs : x.size ≤ 100000) (A H p q idx S E d : Nat) (v0 : Value) (env : List Rw) (he : RwAt w v0 env) (hel : env.length ≤ 1000)
    (hp : min (A : Int) H = p) (hq : max (A : Int) H = q) (hqx : q ≤ x.size) (h1 : atV x.data.toList H = idx) (h2 : lnSv x.data.toList idx = S) (h3 : lnEv x.data.toList idx = E) (hd : S + d = H) (hHE : H ≤ E) (hEx : E ≤ x.size) (hidx : idx ≤ 100000)
    (line wd pa : ByteArray) (b : Bool) (hline : x.extract S E = line) (hwd : wrdF line d = wd) (hpa : getV ⟨#[84, 77, 95, 70, 73, 76, 69, 80, 65, 84, 72]⟩ env = pa) (hbb : getB ⟨#[84, 77, 95, 70, 73, 76, 69, 80, 65, 84, 72]⟩ env = b) (hpz : pa.size ≤ 1000000) (hi1 : ItOK w idx) (hi2 : ItOK w (idx + 1)) (hsel : p < q) (hwe' : wd.toList.isEmpty = false) (hbt' : b = false) (hlc0 : lnC x.data.toList idx = 0) :
    Calls Tryd.prog 22 #[.agg #[.pointer (some ⟨r, 0, none⟩)], .agg #[.int .i64 A, .int .i64 H], v0] w (VPost w (plAll x p q line wd idx b pa ++ env)) := by
  have hwe : ¬ (wd.toList.isEmpty = true) := by simp [hwe']
  have hbt : ¬ (b = true) := by simp [hbt']
  obtain ⟨i0, hi0, hz0', hz1, hz2⟩ := info_parts info_rw
  obtain ⟨vA, vc, rfl, hsrc⟩ := rw_src he
  have hAH : (p : Int) ≤ q := by omega
  have hlz : line.size = E - S := by rw [← hline, ByteArray.size_extract]; omega
  have hm : mayR 0 (H : Int) x.size = 0 := by unfold mayR; rw [if_neg (by omega)]
  have hlc : lnC x.data.toList idx = 0 := hlc0
  have hH1 : (H : Int) ≤ x.size := by omega
  have HSP := hide (fun W => spanV (A : Int) H p q hp hq W)
  have HMAY := hide (fun W => (show Calls Tryd.prog 38 #[.agg #[.int .i64 p, .int .i64 q], .int .i64 x.size] W fun e w' => e = .returned (.bool true) ∧ Below W.heap.size W w' from by
    have := may_any (p, q) x.size W
    rwa [show mayB ((p : Int), (q : Int)) x.size = true from decide_eq_true (by omega)] at this))
  have HLEN := hide (fun W (hb : Below w.heap.size w W) => ln_len (h.bl hb))
  have HLN := hide h
  have HSRC := hide hsrc
  have HE := hide he
  have HI1 := hide hi1
  have HI2 := hide hi2
  have HR : Hid (plAll x p q line wd idx b pa = [] ++ [(⟨#[84, 77, 95, 83, 69, 76, 69, 67, 84, 69, 68, 95, 84, 69, 88, 84]⟩, x.extract p q)] ++ [(⟨#[84, 77, 95, 67, 85, 82, 82, 69, 78, 84, 95, 76, 73, 78, 69]⟩, line)] ++ [(⟨#[84, 77, 95, 67, 85, 82, 82, 69, 78, 84, 95, 87, 79, 82, 68]⟩, wd)] ++ [(⟨#[84, 77, 95, 76, 73, 78, 69, 95, 73, 78, 68, 69, 88]⟩, itoaS idx)] ++ [(⟨#[84, 77, 95, 76, 73, 78, 69, 95, 78, 85, 77, 66, 69, 82]⟩, itoaS (idx + 1))]) := hide (by unfold plAll plSel plWord plPath; rw [if_pos hsel]; rw [if_neg hwe]; rw [if_neg hbt]; simp)
  clear hi1 hi2 hsrc hp hq
  go_enter Tryd.func22, Tryd.ntmps22
  go_wp2_with fail
  (with_reducible refine (HSP.out _).mono ?_)
  rintro e w1 ⟨rfl, hb1⟩
  have hb00 := bl_alloc (bl_alloc (bl_refl w) (.cells #[.pointer (some ⟨r, 0, none⟩)] 42)) (.cells #[.int .i64 A, .int .i64 H] 39)
  have c3 : ((w.alloc (.cells #[.pointer (some ⟨r, 0, none⟩)] 42)).alloc (.cells #[.int .i64 A, .int .i64 H] 39)).cell? ⟨w.heap.size, 0, none⟩ = some (.pointer (some ⟨r, 0, none⟩)) := by go_simp
  have c41 : ((w.alloc (.cells #[.pointer (some ⟨r, 0, none⟩)] 42)).alloc (.cells #[.int .i64 A, .int .i64 H] 39)).cell? ⟨w.heap.size + 1, 0, none⟩ = some (.int .i64 A) := by go_simp
  have c42 : ((w.alloc (.cells #[.pointer (some ⟨r, 0, none⟩)] 42)).alloc (.cells #[.int .i64 A, .int .i64 H] 39)).cell? ⟨w.heap.size + 1, 1, none⟩ = some (.int .i64 H) := by go_simp
  replace c3 := cell_later hb1 c3
  replace c41 := cell_later hb1 c41
  replace c42 := cell_later hb1 c42
  have hb01 := bl_trans hb00 hb1
  have hb02 := bl_trans hb01 (bl_alloc (bl_refl w1) (.cells #[.int .i64 p, .int .i64 q] 71))
  have hb11 := bl_alloc (bl_refl w1) (.cells #[.int .i64 p, .int .i64 q] 71)
  have c81 : (w1.alloc (.cells #[.int .i64 p, .int .i64 q] 71)).cell? ⟨w1.heap.size, 0, none⟩ = some (.int .i64 p) := by go_simp
  have c82 : (w1.alloc (.cells #[.int .i64 p, .int .i64 q] 71)).cell? ⟨w1.heap.size, 1, none⟩ = some (.int .i64 q) := by go_simp
  replace c3 := cell_later hb11 c3
  replace c41 := cell_later hb11 c41
  replace c42 := cell_later hb11 c42
  have HB02 := hide hb02
  clear hb00 hb01 hb02 hb1 hb11
  go_wp2
  generalize (w1.alloc (.cells #[.int .i64 p, .int .i64 q] 71)) = w2 at *
  have n1 := World.block_lt_of_cell? _ _ c3
  have n2 := World.block_lt_of_cell? _ _ c81
  refine wp_region_later (by kernel_rfl) (by kernel_rfl) ?_
  repeat (go_big_quiet_step (first
    | (go_at_call 39; exact later_call_same (HLEN.out _ (bl_trans HB02.out (Later.below _))))
    | (go_at_call 38; exact later_call (HMAY.out _))
    | exact rfl))
  refine wpQuiet_nil ?_
  rintro w9 ⟨⟨_, hb9⟩, rfl⟩
  have C3 := hide (cell_later hb9 c3)
  have C41 := hide (cell_later hb9 c41)
  have C42 := hide (cell_later hb9 c42)
  have C81 := hide (cell_later hb9 c81)
  have C82 := hide (cell_later hb9 c82)
  have HB9 := hide (bl_trans HB02.out hb9)
  have HL := hide (HLN.out.bl HB9.out)
  have HIT1 := hide (fun W (hb : Below w9.heap.size w9 W) => HI1.out W (bl_trans HB9.out hb))
  have HIT2 := hide (fun W (hb : Below w9.heap.size w9 W) => (show Calls Tryd.prog 44 #[.int .i64 ((idx : Int) + 1)] W fun e w' => e = .returned (.string (itoaS (idx + 1))) ∧ Below W.heap.size W w' from by
    have := HI2.out W (bl_trans HB9.out hb)
    rwa [show (((idx + 1 : Nat)) : Int) = (idx : Int) + 1 by omega] at this))
  have HAT := hide (fun W (hb : Below w9.heap.size w9 W) => (show Calls Tryd.prog 24 #[.agg #[.pointer (some ⟨r, 0, none⟩)], .int .i64 H] W fun e w' => e = .returned (.tuple #[.int .i64 idx, .int .i64 0]) ∧ Below W.heap.size W w' from by
    have := at_l (HL.out.bl hb) hs (H : Int)
    rwa [h1, hm] at this))
  have HST := hide (fun W (hb : Below w9.heap.size w9 W) => (show Calls Tryd.prog 25 #[.agg #[.pointer (some ⟨r, 0, none⟩)], .int .i64 idx] W fun e w' => e = .returned (.tuple #[.int .i64 S, .int .i64 0]) ∧ Below W.heap.size W w' from by
    have := start_l (HL.out.bl hb) hs (idx : Int)
    rwa [h2, hlc] at this))
  have HEN := hide (fun W (hb : Below w9.heap.size w9 W) => (show Calls Tryd.prog 26 #[.agg #[.pointer (some ⟨r, 0, none⟩)], .int .i64 idx] W fun e w' => e = .returned (.tuple #[.int .i64 E, .int .i64 0]) ∧ Below W.heap.size W w' from by
    have := end_l (HL.out.bl hb) hs (idx : Int)
    rwa [h3, hlc] at this))
  have HSLA := hide (fun W (hb : Below w9.heap.size w9 W) => ln_slc (HL.out.bl hb) hs p q (by omega) hqx)
  have HSLB := hide (fun W (hb : Below w9.heap.size w9 W) => ln_slc (HL.out.bl hb) hs S E (by omega) hEx)
  rw [hline] at HSLB
  have HWD := hide (fun W => wordAt_any line d (by omega) (by omega) wd hwd W)
  have HGET := hide (fun W (hb : Below w9.heap.size w9 W) => get_any _ env ⟨#[84, 77, 95, 70, 73, 76, 69, 80, 65, 84, 72]⟩ pa b W (rwat_below HE.out (bl_trans HB9.out hb)) hel hpa hbb)
  have HSRC9 := hide (fun W (hb : Below w9.heap.size w9 W) => src_below HSRC.out (bl_trans HB9.out hb))
  have HCUT := hide (fun W => cut_any pa hpz (cutD pa) (cutF pa) rfl rfl W)
  have hcz : (cutF pa).size ≤ 1000000 := by
    unfold cutF
    split
    · exact hpz
    · rw [ByteArray.size_extract]; omega
  have HBAS := hide (fun W => base_any (cutF pa) hcz (basF (cutF pa)) rfl W)
  have HA := hide (acc_start w9)
  have q1 : IntKind.i64.wrap ((H : Int) - (S : Int)) = (d : Int) := by rw [IntKind.wrap_i64]; omega
  have q2 : IntKind.i64.wrap ((idx : Int) + 1) = (idx : Int) + 1 := by rw [IntKind.wrap_i64]; omega
  have HQ := hide (show IntKind.i64.wrap ((q : Int) - (p : Int)) = ((q - p : Nat) : Int) by rw [IntKind.wrap_i64]; omega)
  have HLE := hide (fun W => splen_any (p : Int) q ((q - p : Nat) : Int) HQ.out W)
  have gq : decide ((0 : Int) < ((q - p : Nat) : Int)) = true := decide_eq_true (by omega)
  have gq' : decide (0 < q - p) = true := decide_eq_true (by omega)
  have gwd : wd.toList.isEmpty = false := hwe'
  subst hbt'
  clear hb9 c3 c41 c42 c81 c82 n1 n2 hm hlc h1 h2 h3 hwd hpa hbb hline hlz HI1 HI2 HSP HMAY HLEN HLN HSRC HQ hcz he
  have c3 := cell_later (acc_b HA.out) C3.out
  have c41 := cell_later (acc_b HA.out) C41.out
  have c42 := cell_later (acc_b HA.out) C42.out
  have c81 := cell_later (acc_b HA.out) C81.out
  have c82 := cell_later (acc_b HA.out) C82.out
  go_wp2_with fail
  (with_reducible refine (HLE.out _).mono ?_)
  rintro e w3 ⟨rfl, hbn⟩
  have HA := hide (HA.out.bl hbn)
  clear hbn HLE
  clear c3 c41 c42 c81 c82
  have c3 := cell_later (acc_b HA.out) C3.out
  have c41 := cell_later (acc_b HA.out) C41.out
  have c42 := cell_later (acc_b HA.out) C42.out
  have c81 := cell_later (acc_b HA.out) C81.out
  have c82 := cell_later (acc_b HA.out) C82.out
  go_wp2_with fail
  (with_reducible refine (HSLA.out _ (acc_b HA.out)).mono ?_)
  rintro e w4 ⟨rfl, hbn⟩
  have HA := hide (HA.out.bl hbn)
  clear hbn
  clear c3 c41 c42 c81 c82
  go_wp2_with fail
  (with_reducible refine (add_any HA.out (by simp) ⟨#[84, 77, 95, 83, 69, 76, 69, 67, 84, 69, 68, 95, 84, 69, 88, 84]⟩ (x.extract p q)).mono ?_)
  rintro e w5 ⟨rfl, ha⟩
  have HA := hide ha
  clear ha
  have c3 := cell_later (acc_b HA.out) C3.out
  have c41 := cell_later (acc_b HA.out) C41.out
  have c42 := cell_later (acc_b HA.out) C42.out
  have c81 := cell_later (acc_b HA.out) C81.out
  have c82 := cell_later (acc_b HA.out) C82.out
  go_wp2_with fail
  (with_reducible refine (HAT.out _ (acc_b HA.out)).mono ?_)
  rintro e w6 ⟨rfl, hbn⟩
  have HA := hide (HA.out.bl hbn)
  clear hbn
  clear c3 c41 c42 c81 c82
  have c3 := cell_later (acc_b HA.out) C3.out
  have c41 := cell_later (acc_b HA.out) C41.out
  have c42 := cell_later (acc_b HA.out) C42.out
  have c81 := cell_later (acc_b HA.out) C81.out
  have c82 := cell_later (acc_b HA.out) C82.out
  go_wp2_with fail
  (with_reducible refine (HST.out _ (acc_b HA.out)).mono ?_)
  rintro e w7 ⟨rfl, hbn⟩
  have HA := hide (HA.out.bl hbn)
  clear hbn
  clear c3 c41 c42 c81 c82
  have c3 := cell_later (acc_b HA.out) C3.out
  have c41 := cell_later (acc_b HA.out) C41.out
  have c42 := cell_later (acc_b HA.out) C42.out
  have c81 := cell_later (acc_b HA.out) C81.out
  have c82 := cell_later (acc_b HA.out) C82.out
  go_wp2_with fail
  (with_reducible refine (HEN.out _ (acc_b HA.out)).mono ?_)
  rintro e w8 ⟨rfl, hbn⟩
  have HA := hide (HA.out.bl hbn)
  clear hbn
  clear c3 c41 c42 c81 c82
  have c3 := cell_later (acc_b HA.out) C3.out
  have c41 := cell_later (acc_b HA.out) C41.out
  have c42 := cell_later (acc_b HA.out) C42.out
  have c81 := cell_later (acc_b HA.out) C81.out
  have c82 := cell_later (acc_b HA.out) C82.out
  go_wp2_with fail
  (with_reducible refine (HSLB.out _ (acc_b HA.out)).mono ?_)
  rintro e w19 ⟨rfl, hbn⟩
  have HA := hide (HA.out.bl hbn)
  clear hbn
  clear c3 c41 c42 c81 c82
  go_wp2_with fail
  (with_reducible refine (add_any HA.out (by simp) ⟨#[84, 77, 95, 67, 85, 82, 82, 69, 78, 84, 95, 76, 73, 78, 69]⟩ line).mono ?_)
  rintro e w20 ⟨rfl, ha⟩
  have HA := hide ha
  clear ha
  have c3 := cell_later (acc_b HA.out) C3.out
  have c41 := cell_later (acc_b HA.out) C41.out
  have c42 := cell_later (acc_b HA.out) C42.out
  have c81 := cell_later (acc_b HA.out) C81.out
  have c82 := cell_later (acc_b HA.out) C82.out
  go_wp2_with fail
  (with_reducible refine (HWD.out _).mono ?_)
  rintro e w21 ⟨rfl, hwn⟩
  subst hwn
  clear c3 c41 c42 c81 c82
  go_wp2_with fail
  (with_reducible refine (add_any HA.out (by simp) ⟨#[84, 77, 95, 67, 85, 82, 82, 69, 78, 84, 95, 87, 79, 82, 68]⟩ wd).mono ?_)
  rintro e w22 ⟨rfl, ha⟩
  have HA := hide ha
  clear ha
  go_wp2_with fail
  (with_reducible refine (HIT1.out _ (acc_b HA.out)).mono ?_)
  rintro e w23 ⟨rfl, hbn⟩
  have HA := hide (HA.out.bl hbn)
  clear hbn
  go_wp2_with fail
  (with_reducible refine (add_any HA.out (by simp) ⟨#[84, 77, 95, 76, 73, 78, 69, 95, 73, 78, 68, 69, 88]⟩ (itoaS idx)).mono ?_)
  rintro e w24 ⟨rfl, ha⟩
  have HA := hide ha
  clear ha
  go_wp2_with fail
  (with_reducible refine (HIT2.out _ (acc_b HA.out)).mono ?_)
  rintro e w25 ⟨rfl, hbn⟩
  have HA := hide (HA.out.bl hbn)
  clear hbn
  go_wp2_with fail
  (with_reducible refine (add_any HA.out (by simp) ⟨#[84, 77, 95, 76, 73, 78, 69, 95, 78, 85, 77, 66, 69, 82]⟩ (itoaS (idx + 1))).mono ?_)
  rintro e w26 ⟨rfl, ha⟩
  have HA := hide ha
  clear ha
  go_wp2_with fail
  (with_reducible refine (HGET.out _ (acc_b HA.out)).mono ?_)
  rintro e w27 ⟨rfl, hbn⟩
  have HA := hide (HA.out.bl hbn)
  clear hbn
  rw [← HR.out] at HA
  obtain ⟨R, hR⟩ : ∃ R, plAll x p q line wd idx false pa = R := ⟨_, rfl⟩
  rw [hR] at HA ⊢
  have hRl : R.length ≤ 1000 := by rw [← hR, HR.out]; simp
  obtain ⟨ha1, ha2, vR, ha3, ha4⟩ := HA.out
  obtain ⟨aR, cR, rfl⟩ := own_slice ha4
  have HA4 := hide ha4
  have HS9 := hide (HSRC9.out _ ha1)
  have hone := flatR_one env
  have ha5 := World.block_lt_of_cell? _ _ ha3
  have ha6 : w9.heap.size < _ := ha5
  have ag := fun h => (World.ownsRow.lt HA4.out w9.heap.size h).1
  have HBE := hide (bl_trans HB9.out ha1)
  have HRR := hide hR
  clear ha1 ha2 ha4 hR HR HA HSRC9 ha5
  go_wp2_with (at_builtin; (refine wpList_src _ rfl _ _ 22 rfl (w9.heap.size + 1) 46 i0 (.agg #[.string ⟨#[]⟩, .string ⟨#[]⟩]) 2 32 Tryd.underlying22 hi0 hz0' hz1 hz2 rfl (by decide) (.slice aR R.length cR) R.length (flatR R) rfl HA4.out vA env.length vc (flatR env) rfl HS9.out hone (by omega) (by decide) (by omega) ?_); intro v' w4 hv4 hg4; have HV4 := hide hv4; have HG4 := hide hg4; clear hv4 hg4)
  go_ret2
  have hv := HV4.out
  rw [← flatR_app, ← List.length_append, ← HRR.out] at hv
  refine ⟨v', rfl, bl_grown HBE.out HG4.out (fun k hk => ?_), own_base hv ?_⟩
  · have := (World.ownsRow.lt HA4.out k hk).1
    have := HB9.out.size
    omega
  · have := HB9.out.size
    omega
set_option maxHeartbeats 16000000 in
theorem place_swp {w : World} {r : Nat} {x : ByteArray} (h : LnAt w r x) (hs : x.size ≤ 100000) (A H p q idx S E d : Nat) (v0 : Value) (env : List Rw) (he : RwAt w v0 env) (hel : env.length ≤ 1000)
    (hp : min (A : Int) H = p) (hq : max (A : Int) H = q) (hqx : q ≤ x.size) (h1 : atV x.data.toList H = idx) (h2 : lnSv x.data.toList idx = S) (h3 : lnEv x.data.toList idx = E) (hd : S + d = H) (hHE : H ≤ E) (hEx : E ≤ x.size) (hidx : idx ≤ 100000)
    (line wd pa : ByteArray) (b : Bool) (hline : x.extract S E = line) (hwd : wrdF line d = wd) (hpa : getV ⟨#[84, 77, 95, 70, 73, 76, 69, 80, 65, 84, 72]⟩ env = pa) (hbb : getB ⟨#[84, 77, 95, 70, 73, 76, 69, 80, 65, 84, 72]⟩ env = b) (hpz : pa.size ≤ 1000000) (hi1 : ItOK w idx) (hi2 : ItOK w (idx + 1)) (hsel : p < q) (hwe' : wd.toList.isEmpty = false) (hbt' : b = true) (hlc0 : lnC x.data.toList idx = 0) :
    Calls Tryd.prog 22 #[.agg #[.pointer (some ⟨r, 0, none⟩)], .agg #[.int .i64 A, .int .i64 H], v0] w (VPost w (plAll x p q line wd idx b pa ++ env)) := by
  have hwe : ¬ (wd.toList.isEmpty = true) := by simp [hwe']
  have hbt : (b = true) := by simp [hbt']
  obtain ⟨i0, hi0, hz0', hz1, hz2⟩ := info_parts info_rw
  obtain ⟨vA, vc, rfl, hsrc⟩ := rw_src he
  have hAH : (p : Int) ≤ q := by omega
  have hlz : line.size = E - S := by rw [← hline, ByteArray.size_extract]; omega
  have hm : mayR 0 (H : Int) x.size = 0 := by unfold mayR; rw [if_neg (by omega)]
  have hlc : lnC x.data.toList idx = 0 := hlc0
  have hH1 : (H : Int) ≤ x.size := by omega
  have HSP := hide (fun W => spanV (A : Int) H p q hp hq W)
  have HMAY := hide (fun W => (show Calls Tryd.prog 38 #[.agg #[.int .i64 p, .int .i64 q], .int .i64 x.size] W fun e w' => e = .returned (.bool true) ∧ Below W.heap.size W w' from by
    have := may_any (p, q) x.size W
    rwa [show mayB ((p : Int), (q : Int)) x.size = true from decide_eq_true (by omega)] at this))
  have HLEN := hide (fun W (hb : Below w.heap.size w W) => ln_len (h.bl hb))
  have HLN := hide h
  have HSRC := hide hsrc
  have HE := hide he
  have HI1 := hide hi1
  have HI2 := hide hi2
  have HR : Hid (plAll x p q line wd idx b pa = [] ++ [(⟨#[84, 77, 95, 83, 69, 76, 69, 67, 84, 69, 68, 95, 84, 69, 88, 84]⟩, x.extract p q)] ++ [(⟨#[84, 77, 95, 67, 85, 82, 82, 69, 78, 84, 95, 76, 73, 78, 69]⟩, line)] ++ [(⟨#[84, 77, 95, 67, 85, 82, 82, 69, 78, 84, 95, 87, 79, 82, 68]⟩, wd)] ++ [(⟨#[84, 77, 95, 76, 73, 78, 69, 95, 73, 78, 68, 69, 88]⟩, itoaS idx)] ++ [(⟨#[84, 77, 95, 76, 73, 78, 69, 95, 78, 85, 77, 66, 69, 82]⟩, itoaS (idx + 1))] ++ [(⟨#[84, 77, 95, 70, 73, 76, 69, 78, 65, 77, 69]⟩, cutF pa)] ++ [(⟨#[84, 77, 95, 70, 73, 76, 69, 78, 65, 77, 69, 95, 66, 65, 83, 69]⟩, basF (cutF pa))] ++ [(⟨#[84, 77, 95, 68, 73, 82, 69, 67, 84, 79, 82, 89]⟩, cutD pa)]) := hide (by unfold plAll plSel plWord plPath; rw [if_pos hsel]; rw [if_neg hwe]; rw [if_pos hbt]; simp)
  clear hi1 hi2 hsrc hp hq
  go_enter Tryd.func22, Tryd.ntmps22
  go_wp2_with fail
  (with_reducible refine (HSP.out _).mono ?_)
  rintro e w1 ⟨rfl, hb1⟩
  have hb00 := bl_alloc (bl_alloc (bl_refl w) (.cells #[.pointer (some ⟨r, 0, none⟩)] 42)) (.cells #[.int .i64 A, .int .i64 H] 39)
  have c3 : ((w.alloc (.cells #[.pointer (some ⟨r, 0, none⟩)] 42)).alloc (.cells #[.int .i64 A, .int .i64 H] 39)).cell? ⟨w.heap.size, 0, none⟩ = some (.pointer (some ⟨r, 0, none⟩)) := by go_simp
  have c41 : ((w.alloc (.cells #[.pointer (some ⟨r, 0, none⟩)] 42)).alloc (.cells #[.int .i64 A, .int .i64 H] 39)).cell? ⟨w.heap.size + 1, 0, none⟩ = some (.int .i64 A) := by go_simp
  have c42 : ((w.alloc (.cells #[.pointer (some ⟨r, 0, none⟩)] 42)).alloc (.cells #[.int .i64 A, .int .i64 H] 39)).cell? ⟨w.heap.size + 1, 1, none⟩ = some (.int .i64 H) := by go_simp
  replace c3 := cell_later hb1 c3
  replace c41 := cell_later hb1 c41
  replace c42 := cell_later hb1 c42
  have hb01 := bl_trans hb00 hb1
  have hb02 := bl_trans hb01 (bl_alloc (bl_refl w1) (.cells #[.int .i64 p, .int .i64 q] 71))
  have hb11 := bl_alloc (bl_refl w1) (.cells #[.int .i64 p, .int .i64 q] 71)
  have c81 : (w1.alloc (.cells #[.int .i64 p, .int .i64 q] 71)).cell? ⟨w1.heap.size, 0, none⟩ = some (.int .i64 p) := by go_simp
  have c82 : (w1.alloc (.cells #[.int .i64 p, .int .i64 q] 71)).cell? ⟨w1.heap.size, 1, none⟩ = some (.int .i64 q) := by go_simp
  replace c3 := cell_later hb11 c3
  replace c41 := cell_later hb11 c41
  replace c42 := cell_later hb11 c42
  have HB02 := hide hb02
  clear hb00 hb01 hb02 hb1 hb11
  go_wp2
  generalize (w1.alloc (.cells #[.int .i64 p, .int .i64 q] 71)) = w2 at *
  have n1 := World.block_lt_of_cell? _ _ c3
  have n2 := World.block_lt_of_cell? _ _ c81
  refine wp_region_later (by kernel_rfl) (by kernel_rfl) ?_
  repeat (go_big_quiet_step (first
    | (go_at_call 39; exact later_call_same (HLEN.out _ (bl_trans HB02.out (Later.below _))))
    | (go_at_call 38; exact later_call (HMAY.out _))
    | exact rfl))
  refine wpQuiet_nil ?_
  rintro w9 ⟨⟨_, hb9⟩, rfl⟩
  have C3 := hide (cell_later hb9 c3)
  have C41 := hide (cell_later hb9 c41)
  have C42 := hide (cell_later hb9 c42)
  have C81 := hide (cell_later hb9 c81)
  have C82 := hide (cell_later hb9 c82)
  have HB9 := hide (bl_trans HB02.out hb9)
  have HL := hide (HLN.out.bl HB9.out)
  have HIT1 := hide (fun W (hb : Below w9.heap.size w9 W) => HI1.out W (bl_trans HB9.out hb))
  have HIT2 := hide (fun W (hb : Below w9.heap.size w9 W) => (show Calls Tryd.prog 44 #[.int .i64 ((idx : Int) + 1)] W fun e w' => e = .returned (.string (itoaS (idx + 1))) ∧ Below W.heap.size W w' from by
    have := HI2.out W (bl_trans HB9.out hb)
    rwa [show (((idx + 1 : Nat)) : Int) = (idx : Int) + 1 by omega] at this))
  have HAT := hide (fun W (hb : Below w9.heap.size w9 W) => (show Calls Tryd.prog 24 #[.agg #[.pointer (some ⟨r, 0, none⟩)], .int .i64 H] W fun e w' => e = .returned (.tuple #[.int .i64 idx, .int .i64 0]) ∧ Below W.heap.size W w' from by
    have := at_l (HL.out.bl hb) hs (H : Int)
    rwa [h1, hm] at this))
  have HST := hide (fun W (hb : Below w9.heap.size w9 W) => (show Calls Tryd.prog 25 #[.agg #[.pointer (some ⟨r, 0, none⟩)], .int .i64 idx] W fun e w' => e = .returned (.tuple #[.int .i64 S, .int .i64 0]) ∧ Below W.heap.size W w' from by
    have := start_l (HL.out.bl hb) hs (idx : Int)
    rwa [h2, hlc] at this))
  have HEN := hide (fun W (hb : Below w9.heap.size w9 W) => (show Calls Tryd.prog 26 #[.agg #[.pointer (some ⟨r, 0, none⟩)], .int .i64 idx] W fun e w' => e = .returned (.tuple #[.int .i64 E, .int .i64 0]) ∧ Below W.heap.size W w' from by
    have := end_l (HL.out.bl hb) hs (idx : Int)
    rwa [h3, hlc] at this))
  have HSLA := hide (fun W (hb : Below w9.heap.size w9 W) => ln_slc (HL.out.bl hb) hs p q (by omega) hqx)
  have HSLB := hide (fun W (hb : Below w9.heap.size w9 W) => ln_slc (HL.out.bl hb) hs S E (by omega) hEx)
  rw [hline] at HSLB
  have HWD := hide (fun W => wordAt_any line d (by omega) (by omega) wd hwd W)
  have HGET := hide (fun W (hb : Below w9.heap.size w9 W) => get_any _ env ⟨#[84, 77, 95, 70, 73, 76, 69, 80, 65, 84, 72]⟩ pa b W (rwat_below HE.out (bl_trans HB9.out hb)) hel hpa hbb)
  have HSRC9 := hide (fun W (hb : Below w9.heap.size w9 W) => src_below HSRC.out (bl_trans HB9.out hb))
  have HCUT := hide (fun W => cut_any pa hpz (cutD pa) (cutF pa) rfl rfl W)
  have hcz : (cutF pa).size ≤ 1000000 := by
    unfold cutF
    split
    · exact hpz
    · rw [ByteArray.size_extract]; omega
  have HBAS := hide (fun W => base_any (cutF pa) hcz (basF (cutF pa)) rfl W)
  have HA := hide (acc_start w9)
  have q1 : IntKind.i64.wrap ((H : Int) - (S : Int)) = (d : Int) := by rw [IntKind.wrap_i64]; omega
  have q2 : IntKind.i64.wrap ((idx : Int) + 1) = (idx : Int) + 1 := by rw [IntKind.wrap_i64]; omega
  have HQ := hide (show IntKind.i64.wrap ((q : Int) - (p : Int)) = ((q - p : Nat) : Int) by rw [IntKind.wrap_i64]; omega)
  have HLE := hide (fun W => splen_any (p : Int) q ((q - p : Nat) : Int) HQ.out W)
  have gq : decide ((0 : Int) < ((q - p : Nat) : Int)) = true := decide_eq_true (by omega)
  have gq' : decide (0 < q - p) = true := decide_eq_true (by omega)
  have gwd : wd.toList.isEmpty = false := hwe'
  subst hbt'
  clear hb9 c3 c41 c42 c81 c82 n1 n2 hm hlc h1 h2 h3 hwd hpa hbb hline hlz HI1 HI2 HSP HMAY HLEN HLN HSRC HQ hcz he
  have c3 := cell_later (acc_b HA.out) C3.out
  have c41 := cell_later (acc_b HA.out) C41.out
  have c42 := cell_later (acc_b HA.out) C42.out
  have c81 := cell_later (acc_b HA.out) C81.out
  have c82 := cell_later (acc_b HA.out) C82.out
  go_wp2_with fail
  (with_reducible refine (HLE.out _).mono ?_)
  rintro e w3 ⟨rfl, hbn⟩
  have HA := hide (HA.out.bl hbn)
  clear hbn HLE
  clear c3 c41 c42 c81 c82
  have c3 := cell_later (acc_b HA.out) C3.out
  have c41 := cell_later (acc_b HA.out) C41.out
  have c42 := cell_later (acc_b HA.out) C42.out
  have c81 := cell_later (acc_b HA.out) C81.out
  have c82 := cell_later (acc_b HA.out) C82.out
  go_wp2_with fail
  (with_reducible refine (HSLA.out _ (acc_b HA.out)).mono ?_)
  rintro e w4 ⟨rfl, hbn⟩
  have HA := hide (HA.out.bl hbn)
  clear hbn
  clear c3 c41 c42 c81 c82
  go_wp2_with fail
  (with_reducible refine (add_any HA.out (by simp) ⟨#[84, 77, 95, 83, 69, 76, 69, 67, 84, 69, 68, 95, 84, 69, 88, 84]⟩ (x.extract p q)).mono ?_)
  rintro e w5 ⟨rfl, ha⟩
  have HA := hide ha
  clear ha
  have c3 := cell_later (acc_b HA.out) C3.out
  have c41 := cell_later (acc_b HA.out) C41.out
  have c42 := cell_later (acc_b HA.out) C42.out
  have c81 := cell_later (acc_b HA.out) C81.out
  have c82 := cell_later (acc_b HA.out) C82.out
  go_wp2_with fail
  (with_reducible refine (HAT.out _ (acc_b HA.out)).mono ?_)
  rintro e w6 ⟨rfl, hbn⟩
  have HA := hide (HA.out.bl hbn)
  clear hbn
  clear c3 c41 c42 c81 c82
  have c3 := cell_later (acc_b HA.out) C3.out
  have c41 := cell_later (acc_b HA.out) C41.out
  have c42 := cell_later (acc_b HA.out) C42.out
  have c81 := cell_later (acc_b HA.out) C81.out
  have c82 := cell_later (acc_b HA.out) C82.out
  go_wp2_with fail
  (with_reducible refine (HST.out _ (acc_b HA.out)).mono ?_)
  rintro e w7 ⟨rfl, hbn⟩
  have HA := hide (HA.out.bl hbn)
  clear hbn
  clear c3 c41 c42 c81 c82
  have c3 := cell_later (acc_b HA.out) C3.out
  have c41 := cell_later (acc_b HA.out) C41.out
  have c42 := cell_later (acc_b HA.out) C42.out
  have c81 := cell_later (acc_b HA.out) C81.out
  have c82 := cell_later (acc_b HA.out) C82.out
  go_wp2_with fail
  (with_reducible refine (HEN.out _ (acc_b HA.out)).mono ?_)
  rintro e w8 ⟨rfl, hbn⟩
  have HA := hide (HA.out.bl hbn)
  clear hbn
  clear c3 c41 c42 c81 c82
  have c3 := cell_later (acc_b HA.out) C3.out
  have c41 := cell_later (acc_b HA.out) C41.out
  have c42 := cell_later (acc_b HA.out) C42.out
  have c81 := cell_later (acc_b HA.out) C81.out
  have c82 := cell_later (acc_b HA.out) C82.out
  go_wp2_with fail
  (with_reducible refine (HSLB.out _ (acc_b HA.out)).mono ?_)
  rintro e w19 ⟨rfl, hbn⟩
  have HA := hide (HA.out.bl hbn)
  clear hbn
  clear c3 c41 c42 c81 c82
  go_wp2_with fail
  (with_reducible refine (add_any HA.out (by simp) ⟨#[84, 77, 95, 67, 85, 82, 82, 69, 78, 84, 95, 76, 73, 78, 69]⟩ line).mono ?_)
  rintro e w20 ⟨rfl, ha⟩
  have HA := hide ha
  clear ha
  have c3 := cell_later (acc_b HA.out) C3.out
  have c41 := cell_later (acc_b HA.out) C41.out
  have c42 := cell_later (acc_b HA.out) C42.out
  have c81 := cell_later (acc_b HA.out) C81.out
  have c82 := cell_later (acc_b HA.out) C82.out
  go_wp2_with fail
  (with_reducible refine (HWD.out _).mono ?_)
  rintro e w21 ⟨rfl, hwn⟩
  subst hwn
  clear c3 c41 c42 c81 c82
  go_wp2_with fail
  (with_reducible refine (add_any HA.out (by simp) ⟨#[84, 77, 95, 67, 85, 82, 82, 69, 78, 84, 95, 87, 79, 82, 68]⟩ wd).mono ?_)
  rintro e w22 ⟨rfl, ha⟩
  have HA := hide ha
  clear ha
  go_wp2_with fail
  (with_reducible refine (HIT1.out _ (acc_b HA.out)).mono ?_)
  rintro e w23 ⟨rfl, hbn⟩
  have HA := hide (HA.out.bl hbn)
  clear hbn
  go_wp2_with fail
  (with_reducible refine (add_any HA.out (by simp) ⟨#[84, 77, 95, 76, 73, 78, 69, 95, 73, 78, 68, 69, 88]⟩ (itoaS idx)).mono ?_)
  rintro e w24 ⟨rfl, ha⟩
  have HA := hide ha
  clear ha
  go_wp2_with fail
  (with_reducible refine (HIT2.out _ (acc_b HA.out)).mono ?_)
  rintro e w25 ⟨rfl, hbn⟩
  have HA := hide (HA.out.bl hbn)
  clear hbn
  go_wp2_with fail
  (with_reducible refine (add_any HA.out (by simp) ⟨#[84, 77, 95, 76, 73, 78, 69, 95, 78, 85, 77, 66, 69, 82]⟩ (itoaS (idx + 1))).mono ?_)
  rintro e w26 ⟨rfl, ha⟩
  have HA := hide ha
  clear ha
  go_wp2_with fail
  (with_reducible refine (HGET.out _ (acc_b HA.out)).mono ?_)
  rintro e w27 ⟨rfl, hbn⟩
  have HA := hide (HA.out.bl hbn)
  clear hbn
  go_wp2_with fail
  (with_reducible refine (HCUT.out _).mono ?_)
  rintro e w28 ⟨rfl, hbn⟩
  have HA := hide (HA.out.bl hbn)
  clear hbn
  go_wp2_with fail
  (with_reducible refine (add_any HA.out (by simp) ⟨#[84, 77, 95, 70, 73, 76, 69, 78, 65, 77, 69]⟩ (cutF pa)).mono ?_)
  rintro e w29 ⟨rfl, ha⟩
  have HA := hide ha
  clear ha
  go_wp2_with fail
  (with_reducible refine (HBAS.out _).mono ?_)
  rintro e w30 ⟨rfl, hwn⟩
  subst hwn
  go_wp2_with fail
  (with_reducible refine (add_any HA.out (by simp) ⟨#[84, 77, 95, 70, 73, 76, 69, 78, 65, 77, 69, 95, 66, 65, 83, 69]⟩ (basF (cutF pa))).mono ?_)
  rintro e w31 ⟨rfl, ha⟩
  have HA := hide ha
  clear ha
  go_wp2_with fail
  (with_reducible refine (add_any HA.out (by simp) ⟨#[84, 77, 95, 68, 73, 82, 69, 67, 84, 79, 82, 89]⟩ (cutD pa)).mono ?_)
  rintro e w32 ⟨rfl, ha⟩
  have HA := hide ha
  clear ha
  rw [← HR.out] at HA
  obtain ⟨R, hR⟩ : ∃ R, plAll x p q line wd idx true pa = R := ⟨_, rfl⟩
  rw [hR] at HA ⊢
  have hRl : R.length ≤ 1000 := by rw [← hR, HR.out]; simp
  obtain ⟨ha1, ha2, vR, ha3, ha4⟩ := HA.out
  obtain ⟨aR, cR, rfl⟩ := own_slice ha4
  have HA4 := hide ha4
  have HS9 := hide (HSRC9.out _ ha1)
  have hone := flatR_one env
  have ha5 := World.block_lt_of_cell? _ _ ha3
  have ha6 : w9.heap.size < _ := ha5
  have ag := fun h => (World.ownsRow.lt HA4.out w9.heap.size h).1
  have HBE := hide (bl_trans HB9.out ha1)
  have HRR := hide hR
  clear ha1 ha2 ha4 hR HR HA HSRC9 ha5
  go_wp2_with (at_builtin; (refine wpList_src _ rfl _ _ 22 rfl (w9.heap.size + 1) 46 i0 (.agg #[.string ⟨#[]⟩, .string ⟨#[]⟩]) 2 32 Tryd.underlying22 hi0 hz0' hz1 hz2 rfl (by decide) (.slice aR R.length cR) R.length (flatR R) rfl HA4.out vA env.length vc (flatR env) rfl HS9.out hone (by omega) (by decide) (by omega) ?_); intro v' w4 hv4 hg4; have HV4 := hide hv4; have HG4 := hide hg4; clear hv4 hg4)
  go_ret2
  have hv := HV4.out
  rw [← flatR_app, ← List.length_append, ← HRR.out] at hv
  refine ⟨v', rfl, bl_grown HBE.out HG4.out (fun k hk => ?_), own_base hv ?_⟩
  · have := (World.ownsRow.lt HA4.out k hk).1
    have := HB9.out.size
    omega
  · have := HB9.out.size
    omega
set_option maxHeartbeats 16000000 in
theorem place_any {w : World} {r : Nat} {x : ByteArray} (h : LnAt w r x) (hs : x.size ≤ 100000) (A H p q idx S E d : Nat) (v0 : Value) (env : List Rw) (he : RwAt w v0 env) (hel : env.length ≤ 1000)
    (hp : min (A : Int) H = p) (hq : max (A : Int) H = q) (hqx : q ≤ x.size) (h1 : atV x.data.toList H = idx) (h2 : lnSv x.data.toList idx = S) (h3 : lnEv x.data.toList idx = E) (hd : S + d = H) (hHE : H ≤ E) (hEx : E ≤ x.size) (hidx : idx ≤ 100000)
    (line wd pa : ByteArray) (b : Bool) (hline : x.extract S E = line) (hwd : wrdF line d = wd) (hpa : getV ⟨#[84, 77, 95, 70, 73, 76, 69, 80, 65, 84, 72]⟩ env = pa) (hbb : getB ⟨#[84, 77, 95, 70, 73, 76, 69, 80, 65, 84, 72]⟩ env = b) (hpz : pa.size ≤ 1000000) (hi1 : ItOK w idx) (hi2 : ItOK w (idx + 1)) (hlc0 : lnC x.data.toList idx = 0) :
    Calls Tryd.prog 22 #[.agg #[.pointer (some ⟨r, 0, none⟩)], .agg #[.int .i64 A, .int .i64 H], v0] w (VPost w (plAll x p q line wd idx b pa ++ env)) := by
  rcases hw : wd.toList.isEmpty with _ | _ <;> rcases hb : b with _ | _ <;> by_cases hsel : p < q
  · subst hb; exact place_swn h hs A H p q idx S E d v0 env he hel hp hq hqx h1 h2 h3 hd hHE hEx hidx line wd pa _ hline hwd hpa hbb hpz hi1 hi2 hsel hw rfl hlc0
  · subst hb; exact place_nwn h hs A H p q idx S E d v0 env he hel hp hq hqx h1 h2 h3 hd hHE hEx hidx line wd pa _ hline hwd hpa hbb hpz hi1 hi2 hsel hw rfl hlc0
  · subst hb; exact place_swp h hs A H p q idx S E d v0 env he hel hp hq hqx h1 h2 h3 hd hHE hEx hidx line wd pa _ hline hwd hpa hbb hpz hi1 hi2 hsel hw rfl hlc0
  · subst hb; exact place_nwp h hs A H p q idx S E d v0 env he hel hp hq hqx h1 h2 h3 hd hHE hEx hidx line wd pa _ hline hwd hpa hbb hpz hi1 hi2 hsel hw rfl hlc0
  · subst hb; exact place_snn h hs A H p q idx S E d v0 env he hel hp hq hqx h1 h2 h3 hd hHE hEx hidx line wd pa _ hline hwd hpa hbb hpz hi1 hi2 hsel hw rfl hlc0
  · subst hb; exact place_nnn h hs A H p q idx S E d v0 env he hel hp hq hqx h1 h2 h3 hd hHE hEx hidx line wd pa _ hline hwd hpa hbb hpz hi1 hi2 hsel hw rfl hlc0
  · subst hb; exact place_snp h hs A H p q idx S E d v0 env he hel hp hq hqx h1 h2 h3 hd hHE hEx hidx line wd pa _ hline hwd hpa hbb hpz hi1 hi2 hsel hw rfl hlc0
  · subst hb; exact place_nnp h hs A H p q idx S E d v0 env he hel hp hq hqx h1 h2 h3 hd hHE hEx hidx line wd pa _ hline hwd hpa hbb hpz hi1 hi2 hsel hw rfl hlc0
end Go.Proofs.YtmjadcjpgcbalaaDoor
