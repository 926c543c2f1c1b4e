/- n and m in braces are a repeat of n to m, if they are at most MaxRepeat and rise; each form of it, lazy or not. Conditions: none beyond the form's own. -/
import Derived.Test.YtcgphknnnjpbkaaRows
import Derived.Test.YtcgphknnnjpbkaaArgs
import Derived.Test.YtcgphknnnjpbkaaPbE
import Derived.Test.YtcgphknnnjpbkaaLow
namespace Go.Proofs.Ytcgphknnnjpbkaa.readTimes
open Go.Proofs.Ytcgphknnnjpbkaa
open Go.ChangeShapes Go.WideShapes Go.ChangeAt Go.RowKit Go.Deep
open Go.ChangeMaps (open_string shut_string)
set_option linter.unusedVariables false

theorem own : ownKnob Try.prog.godebug = none := by kernel_rfl
theorem laidOut : laidOutB Try.prog = true := by kernel_rfl
open SetM
attribute [local go_sem ↓] Go.wp_at_zero Go.wp_at_succ
attribute [local go_sem] later_cell later_frozen
theorem low_n (x : Int) (m : Nat) (n : Nat) (w : World) (hm : 0 < m) (hm2 : m < 100000) (h : lowN x m = n) (mi : Int) (hmi : mi = (m : Int)) : Calls Try.prog 21 #[.int .i64 x, .int .i64 mi] w fun e w' => e = .returned (.int .i64 (n : Int)) ∧ w = w' := by
  subst h; subst hmi; exact low_any x m w hm (by omega)
theorem itoa_data (n : Nat) : (itoaS n).data.toList = Go.Lib.decDigits n := by simp [itoaS]
theorem itoa_size (n : Nat) (h : n ≤ 1200) : (itoaS n).size ≤ 4 := by
  have h1 : (itoaS n).data.toList.length = (itoaS n).size := Array.length_toList
  rw [itoa_data] at h1
  have := (dec_len4 n h).1
  omega
/-- What is wanted: its variable's fields stand for this tree. -/
theorem want_rx {W W' : World} {a b : Int} {lz : Bool} (hb : Below (W.alloc (.cells #[.int .i64 2, .string ⟨#[120]⟩, .bool false, .slice none 0 0, .int .i64 0, .int .i64 0, .bool false, .slice none 0 0] 26)).heap.size (W.alloc (.cells #[.int .i64 2, .string ⟨#[120]⟩, .bool false, .slice none 0 0, .int .i64 0, .int .i64 0, .bool false, .slice none 0 0] 26)) W') :
    RxAt W' (.mk 7 ⟨#[]⟩ false (.slice none 0 0) [] a b lz (.slice (some ⟨W.heap.size, 0, none⟩) 1 1) [chX ⟨#[120]⟩]) := by
  refine .mk _ (.inl ⟨rfl, rfl⟩) (ks1 (fun j u hu => cell_later hb (ks_alloc (W := W) (T := 26) (cs := (#[.int .i64 2, .string ⟨#[120]⟩, .bool false, .slice none 0 0, .int .i64 0, .int .i64 0, .bool false, .slice none 0 0] : Array Value).toList) rfl j u hu))) (fun i hi => ?_)
  have : i = 0 := by have : i < 1 := hi; omega
  subst this
  exact rx_leaf _ _ rfl rfl rfl rfl
set_option maxRecDepth 100000 in
set_option maxHeartbeats 1000000 in
theorem walk (a0 : Int) (a1 : Int) (a2 : Int) (a3 : Bool) (w : World) (w0 : (Lit.int .i64 a0).wf = true) (w1 : (Lit.int .i64 a1).wf = true) (w2 : (Lit.int .i64 a2).wf = true) :
    Calls Try.prog 9 #[.int .i64 a0, .int .i64 a1, .int .i64 a2, .bool a3] w fun e w' => e = .returned (.bool true) ∧ Below w.heap.size w w' := by
  obtain ⟨A, hA⟩ : ∃ A, lowN a0 1201 = A := ⟨_, rfl⟩
  obtain ⟨B, hB⟩ : ∃ B, lowN a1 1201 = B := ⟨_, rfl⟩
  obtain ⟨F, hF⟩ : ∃ F, lowN a2 3 = F := ⟨_, rfl⟩
  have hA2 : A ≤ 1200 := by have := lowN_lt a0 1201 (by decide); omega
  have hB2 : B ≤ 1200 := by have := lowN_lt a1 1201 (by decide); omega
  have hF2 : F < 3 := by rw [← hF]; exact lowN_lt _ _ (by decide)
  have HLA := hide (fun W => low_n a0 1201 A W (by decide) (by decide) hA 1201 rfl)
  have HLB := hide (fun W => low_n a1 1201 B W (by decide) (by decide) hB 1201 rfl)
  have HLF := hide (fun W => low_n a2 3 F W (by decide) (by decide) hF 3 rfl)
  have HDA := hide (fun W => digits_any A (by omega) W)
  have HDB := hide (fun W => digits_any B (by omega) W)
  obtain ⟨DA, hDA⟩ : ∃ D, itoaS A = D := ⟨_, rfl⟩
  obtain ⟨DB, hDB⟩ : ∃ D, itoaS B = D := ⟨_, rfl⟩
  have sA : DA.size ≤ 4 := by rw [← hDA]; exact itoa_size A hA2
  have sB : DB.size ≤ 4 := by rw [← hDB]; exact itoa_size B hB2
  have dA : DA.data.toList = Go.Lib.decDigits A := by rw [← hDA]; exact itoa_data A
  have dB : DB.data.toList = Go.Lib.decDigits B := by rw [← hDB]; exact itoa_data B
  rw [hDA] at HDA
  rw [hDB] at HDB
  have HRT := hide (fun f lz => readP_times (f := f) hA2 hB2 lz)
  have HDD := hide (And.intro dA dB)
  have HAB := hide (And.intro hA2 hB2)
  clear hA hB hF hDA hDB dA dB hA2 hB2
  by_cases f0 : F = 0
  case pos =>
    subst f0
    clear hF2
    cases a3
    case false =>
      by_cases ka : A ≤ 255
      case neg =>
        have ga : decide (A ≤ 255) = false := decide_eq_false (by omega)
        have ga' : decide ((A : Int) ≤ (255 : Int)) = false := decide_eq_false (by omega)
        have htx : (⟨#[120, 123]⟩ ++ DA ++ ⟨#[125]⟩ : ByteArray).data.toList = 120 :: 123 :: (timT A 0 B ++ (if false = true then [63] else [])) := by
          simp only [ByteArray.data_append, Array.toList_append]
          rw [HDD.out.1]
          simp [timT]
        have hrd := HRT.out 0 false
        rw [← htx] at hrd
        rw [show timB A 0 B = none by simp [timB]; omega] at hrd
        simp only at hrd
        have hsz : (⟨#[120, 123]⟩ ++ DA ++ ⟨#[125]⟩ : ByteArray).size ≤ 100 := by
          simp only [ByteArray.size_append, show (⟨#[120, 123]⟩ : ByteArray).size = 2 from rfl, show (⟨#[125]⟩ : ByteArray).size = 1 from rfl]
          omega
        have HRD := hide (fun W => read_any _ (by omega) W _ hrd)
        unfold RdPost at HRD
        clear hrd htx hsz
        go_enter Try.func9, Try.ntmps9
        go_wp2_with fail
        refine (HLA.out _).mono ?_
        rintro e _ ⟨rfl, rfl⟩
        go_wp2_with fail
        refine (HLB.out _).mono ?_
        rintro e _ ⟨rfl, rfl⟩
        go_wp2_with fail
        refine (HDA.out _).mono ?_
        rintro e w1 ⟨rfl, hb1⟩
        have HB1 := hide hb1
        clear hb1
        go_wp2_with fail
        refine (HLF.out _).mono ?_
        rintro e _ ⟨rfl, rfl⟩
        go_wp2_with fail
        refine (HRD.out _).mono ?_
        rintro e w3 ⟨rfl, hb3⟩
        rw [show rt0.v = .agg #[.int .i64 0, .string ⟨#[]⟩, .bool false, .slice none 0 0, .int .i64 0, .int .i64 0, .bool false, .slice none 0 0] from rfl]
        have HB3 := hide (bl_alloc (bl_trans HB1.out hb3) (.cells #[.int .i64 0, .string ⟨#[]⟩, .bool false, .slice none 0 0, .int .i64 0, .int .i64 0, .bool false, .slice none 0 0] 26))
        clear hb3
        go_wp2_with fail
        refine (awake14_any _).mono ?_
        rintro e w4 ⟨rfl, hb4⟩
        have HB4 := hide (bl_trans HB3.out hb4)
        clear hb4
        go_wp2
        go_ret
        exact ⟨rfl, HB4.out⟩
      case pos =>
        have ga : decide (A ≤ 255) = true := decide_eq_true (by omega)
        have ga' : decide ((A : Int) ≤ (255 : Int)) = true := decide_eq_true (by omega)
        have htx : (⟨#[120, 123]⟩ ++ DA ++ ⟨#[125]⟩ : ByteArray).data.toList = 120 :: 123 :: (timT A 0 B ++ (if false = true then [63] else [])) := by
          simp only [ByteArray.data_append, Array.toList_append]
          rw [HDD.out.1]
          simp [timT]
        have hrd := HRT.out 0 false
        rw [← htx] at hrd
        rw [show timB A 0 B = some (A, (A : Int)) by simp [timB, ka]] at hrd
        simp only at hrd
        have hsz : (⟨#[120, 123]⟩ ++ DA ++ ⟨#[125]⟩ : ByteArray).size ≤ 100 := by
          simp only [ByteArray.size_append, show (⟨#[120, 123]⟩ : ByteArray).size = 2 from rfl, show (⟨#[125]⟩ : ByteArray).size = 1 from rfl]
          omega
        have HRD := hide (fun W => read_any _ (by omega) W _ hrd)
        unfold RdPost at HRD
        clear hrd htx hsz
        go_enter Try.func9, Try.ntmps9
        go_wp2_with fail
        refine (HLA.out _).mono ?_
        rintro e _ ⟨rfl, rfl⟩
        go_wp2_with fail
        refine (HLB.out _).mono ?_
        rintro e _ ⟨rfl, rfl⟩
        go_wp2_with fail
        refine (HDA.out _).mono ?_
        rintro e w1 ⟨rfl, hb1⟩
        have HB1 := hide hb1
        clear hb1
        go_wp2_with fail
        refine (HLF.out _).mono ?_
        rintro e _ ⟨rfl, rfl⟩
        go_wp2_with fail
        refine (HRD.out _).mono ?_
        rintro e w3 ⟨t, rfl, hb3, hrx, -, her⟩
        obtain ⟨tA, ta, tB, tb, hrv, hkv, hv⟩ := rx_vv hrx
        rw [hv]
        obtain ⟨W4, hW4⟩ : ∃ W, w3.alloc (.cells #[.int .i64 t.k, .string t.ch, .bool t.nt, .slice tA t.rows.length ta, .int .i64 t.mi, .int .i64 t.ma, .bool t.lz, .slice tB t.kids.length tb] 26) = W := ⟨_, rfl⟩
        have hb34 : Below w3.heap.size w3 W4 := by rw [← hW4]; exact bl_alloc (bl_refl w3) _
        have HCX := hide (show CxAt W4 w3.heap.size t by rw [← hW4]; exact cx_new w3 t hrv hkv)
        have HR := hide hrv
        have HK := hide hkv
        have HB4 := hide (bl_trans HB1.out (bl_trans hb3 hb34))
        have HSM := hide (fun W' (hb : Below (W4.alloc (.cells #[.int .i64 2, .string ⟨#[120]⟩, .bool false, .slice none 0 0, .int .i64 0, .int .i64 0, .bool false, .slice none 0 0] 26)).heap.size (W4.alloc (.cells #[.int .i64 2, .string ⟨#[120]⟩, .bool false, .slice none 0 0, .int .i64 0, .int .i64 0, .bool false, .slice none 0 0] 26)) W') => (show Calls Try.prog 15 #[.agg #[.int .i64 t.k, .string t.ch, .bool t.nt, .slice tA t.rows.length ta, .int .i64 t.mi, .int .i64 t.ma, .bool t.lz, .slice tB t.kids.length tb], .agg #[.int .i64 7, .string ⟨#[]⟩, .bool false, .slice none 0 0, .int .i64 (A : Int), .int .i64 (A : Int), .bool false, .slice (some ⟨W4.heap.size, 0, none⟩) 1 1]] W' (fun e w' => e = .returned (.bool true) ∧ Below W'.heap.size W' w') from by
          have hh := same_any (rx_below (rx_below hrx hb34) (bl_trans (bl_alloc (bl_refl W4) _) hb)) (want_rx (a := (A : Int)) (b := (A : Int)) (lz := false) hb) W' (bl_refl W')
          rw [sameM_of (her.trans (by rw [er_eq]; rfl)), hv] at hh
          exact hh))
        obtain ⟨c0, c1, c2, c3, c4, c5, c6, c7⟩ := cx_8 HCX.out HR.out HK.out
        have hlt : w3.heap.size < W4.heap.size := World.block_lt_of_cell? _ _ c0
        clear hb3 hrx her hrv hkv hv hb34
        go_wp2_with fail
        refine (HSM.out _ (bl_alloc (bl_refl _) _)).mono ?_
        rintro e w5 ⟨rfl, hb5⟩
        have HB5 := hide (bl_trans HB4.out (bl_trans (bl_alloc (bl_alloc (bl_refl W4) _) _) hb5))
        clear hb5 c0 c1 c2 c3 c4 c5 c6 c7 hlt
        go_wp2_with fail
        refine (awake14_any _).mono ?_
        rintro e w6 ⟨rfl, hb6⟩
        have HB6 := hide (bl_trans HB5.out hb6)
        clear hb6
        go_wp2
        go_ret
        exact ⟨rfl, HB6.out⟩
    case true =>
      by_cases ka : A ≤ 255
      case neg =>
        have ga : decide (A ≤ 255) = false := decide_eq_false (by omega)
        have ga' : decide ((A : Int) ≤ (255 : Int)) = false := decide_eq_false (by omega)
        have htx : (⟨#[120, 123]⟩ ++ DA ++ ⟨#[125]⟩ ++ ⟨#[63]⟩ : ByteArray).data.toList = 120 :: 123 :: (timT A 0 B ++ (if true = true then [63] else [])) := by
          simp only [ByteArray.data_append, Array.toList_append]
          rw [HDD.out.1]
          simp [timT]
        have hrd := HRT.out 0 true
        rw [← htx] at hrd
        rw [show timB A 0 B = none by simp [timB]; omega] at hrd
        simp only at hrd
        have hsz : (⟨#[120, 123]⟩ ++ DA ++ ⟨#[125]⟩ ++ ⟨#[63]⟩ : ByteArray).size ≤ 100 := by
          simp only [ByteArray.size_append, show (⟨#[120, 123]⟩ : ByteArray).size = 2 from rfl, show (⟨#[125]⟩ : ByteArray).size = 1 from rfl, show (⟨#[63]⟩ : ByteArray).size = 1 from rfl]
          omega
        have HRD := hide (fun W => read_any _ (by omega) W _ hrd)
        unfold RdPost at HRD
        clear hrd htx hsz
        go_enter Try.func9, Try.ntmps9
        go_wp2_with fail
        refine (HLA.out _).mono ?_
        rintro e _ ⟨rfl, rfl⟩
        go_wp2_with fail
        refine (HLB.out _).mono ?_
        rintro e _ ⟨rfl, rfl⟩
        go_wp2_with fail
        refine (HDA.out _).mono ?_
        rintro e w1 ⟨rfl, hb1⟩
        have HB1 := hide hb1
        clear hb1
        go_wp2_with fail
        refine (HLF.out _).mono ?_
        rintro e _ ⟨rfl, rfl⟩
        go_wp2_with fail
        refine (HRD.out _).mono ?_
        rintro e w3 ⟨rfl, hb3⟩
        rw [show rt0.v = .agg #[.int .i64 0, .string ⟨#[]⟩, .bool false, .slice none 0 0, .int .i64 0, .int .i64 0, .bool false, .slice none 0 0] from rfl]
        have HB3 := hide (bl_alloc (bl_trans HB1.out hb3) (.cells #[.int .i64 0, .string ⟨#[]⟩, .bool false, .slice none 0 0, .int .i64 0, .int .i64 0, .bool false, .slice none 0 0] 26))
        clear hb3
        go_wp2_with fail
        refine (awake14_any _).mono ?_
        rintro e w4 ⟨rfl, hb4⟩
        have HB4 := hide (bl_trans HB3.out hb4)
        clear hb4
        go_wp2
        go_ret
        exact ⟨rfl, HB4.out⟩
      case pos =>
        have ga : decide (A ≤ 255) = true := decide_eq_true (by omega)
        have ga' : decide ((A : Int) ≤ (255 : Int)) = true := decide_eq_true (by omega)
        have htx : (⟨#[120, 123]⟩ ++ DA ++ ⟨#[125]⟩ ++ ⟨#[63]⟩ : ByteArray).data.toList = 120 :: 123 :: (timT A 0 B ++ (if true = true then [63] else [])) := by
          simp only [ByteArray.data_append, Array.toList_append]
          rw [HDD.out.1]
          simp [timT]
        have hrd := HRT.out 0 true
        rw [← htx] at hrd
        rw [show timB A 0 B = some (A, (A : Int)) by simp [timB, ka]] at hrd
        simp only at hrd
        have hsz : (⟨#[120, 123]⟩ ++ DA ++ ⟨#[125]⟩ ++ ⟨#[63]⟩ : ByteArray).size ≤ 100 := by
          simp only [ByteArray.size_append, show (⟨#[120, 123]⟩ : ByteArray).size = 2 from rfl, show (⟨#[125]⟩ : ByteArray).size = 1 from rfl, show (⟨#[63]⟩ : ByteArray).size = 1 from rfl]
          omega
        have HRD := hide (fun W => read_any _ (by omega) W _ hrd)
        unfold RdPost at HRD
        clear hrd htx hsz
        go_enter Try.func9, Try.ntmps9
        go_wp2_with fail
        refine (HLA.out _).mono ?_
        rintro e _ ⟨rfl, rfl⟩
        go_wp2_with fail
        refine (HLB.out _).mono ?_
        rintro e _ ⟨rfl, rfl⟩
        go_wp2_with fail
        refine (HDA.out _).mono ?_
        rintro e w1 ⟨rfl, hb1⟩
        have HB1 := hide hb1
        clear hb1
        go_wp2_with fail
        refine (HLF.out _).mono ?_
        rintro e _ ⟨rfl, rfl⟩
        go_wp2_with fail
        refine (HRD.out _).mono ?_
        rintro e w3 ⟨t, rfl, hb3, hrx, -, her⟩
        obtain ⟨tA, ta, tB, tb, hrv, hkv, hv⟩ := rx_vv hrx
        rw [hv]
        obtain ⟨W4, hW4⟩ : ∃ W, w3.alloc (.cells #[.int .i64 t.k, .string t.ch, .bool t.nt, .slice tA t.rows.length ta, .int .i64 t.mi, .int .i64 t.ma, .bool t.lz, .slice tB t.kids.length tb] 26) = W := ⟨_, rfl⟩
        have hb34 : Below w3.heap.size w3 W4 := by rw [← hW4]; exact bl_alloc (bl_refl w3) _
        have HCX := hide (show CxAt W4 w3.heap.size t by rw [← hW4]; exact cx_new w3 t hrv hkv)
        have HR := hide hrv
        have HK := hide hkv
        have HB4 := hide (bl_trans HB1.out (bl_trans hb3 hb34))
        have HSM := hide (fun W' (hb : Below (W4.alloc (.cells #[.int .i64 2, .string ⟨#[120]⟩, .bool false, .slice none 0 0, .int .i64 0, .int .i64 0, .bool false, .slice none 0 0] 26)).heap.size (W4.alloc (.cells #[.int .i64 2, .string ⟨#[120]⟩, .bool false, .slice none 0 0, .int .i64 0, .int .i64 0, .bool false, .slice none 0 0] 26)) W') => (show Calls Try.prog 15 #[.agg #[.int .i64 t.k, .string t.ch, .bool t.nt, .slice tA t.rows.length ta, .int .i64 t.mi, .int .i64 t.ma, .bool t.lz, .slice tB t.kids.length tb], .agg #[.int .i64 7, .string ⟨#[]⟩, .bool false, .slice none 0 0, .int .i64 (A : Int), .int .i64 (A : Int), .bool true, .slice (some ⟨W4.heap.size, 0, none⟩) 1 1]] W' (fun e w' => e = .returned (.bool true) ∧ Below W'.heap.size W' w') from by
          have hh := same_any (rx_below (rx_below hrx hb34) (bl_trans (bl_alloc (bl_refl W4) _) hb)) (want_rx (a := (A : Int)) (b := (A : Int)) (lz := true) hb) W' (bl_refl W')
          rw [sameM_of (her.trans (by rw [er_eq]; rfl)), hv] at hh
          exact hh))
        obtain ⟨c0, c1, c2, c3, c4, c5, c6, c7⟩ := cx_8 HCX.out HR.out HK.out
        have hlt : w3.heap.size < W4.heap.size := World.block_lt_of_cell? _ _ c0
        clear hb3 hrx her hrv hkv hv hb34
        go_wp2_with fail
        refine (HSM.out _ (bl_alloc (bl_refl _) _)).mono ?_
        rintro e w5 ⟨rfl, hb5⟩
        have HB5 := hide (bl_trans HB4.out (bl_trans (bl_alloc (bl_alloc (bl_refl W4) _) _) hb5))
        clear hb5 c0 c1 c2 c3 c4 c5 c6 c7 hlt
        go_wp2_with fail
        refine (awake14_any _).mono ?_
        rintro e w6 ⟨rfl, hb6⟩
        have HB6 := hide (bl_trans HB5.out hb6)
        clear hb6
        go_wp2
        go_ret
        exact ⟨rfl, HB6.out⟩
  by_cases f1 : F = 1
  case pos =>
    subst f1
    clear hF2
    cases a3
    case false =>
      by_cases ka : A ≤ 255
      case neg =>
        have ga : decide (A ≤ 255) = false := decide_eq_false (by omega)
        have ga' : decide ((A : Int) ≤ (255 : Int)) = false := decide_eq_false (by omega)
        have htx : (⟨#[120, 123]⟩ ++ DA ++ ⟨#[44]⟩ ++ ⟨#[125]⟩ : ByteArray).data.toList = 120 :: 123 :: (timT A 1 B ++ (if false = true then [63] else [])) := by
          simp only [ByteArray.data_append, Array.toList_append]
          rw [HDD.out.1]
          simp [timT]
        have hrd := HRT.out 1 false
        rw [← htx] at hrd
        rw [show timB A 1 B = none by simp [timB]; omega] at hrd
        simp only at hrd
        have hsz : (⟨#[120, 123]⟩ ++ DA ++ ⟨#[44]⟩ ++ ⟨#[125]⟩ : ByteArray).size ≤ 100 := by
          simp only [ByteArray.size_append, show (⟨#[120, 123]⟩ : ByteArray).size = 2 from rfl, show (⟨#[125]⟩ : ByteArray).size = 1 from rfl, show (⟨#[44]⟩ : ByteArray).size = 1 from rfl]
          omega
        have HRD := hide (fun W => read_any _ (by omega) W _ hrd)
        unfold RdPost at HRD
        clear hrd htx hsz
        go_enter Try.func9, Try.ntmps9
        go_wp2_with fail
        refine (HLA.out _).mono ?_
        rintro e _ ⟨rfl, rfl⟩
        go_wp2_with fail
        refine (HLB.out _).mono ?_
        rintro e _ ⟨rfl, rfl⟩
        go_wp2_with fail
        refine (HDA.out _).mono ?_
        rintro e w1 ⟨rfl, hb1⟩
        have HB1 := hide hb1
        clear hb1
        go_wp2_with fail
        refine (HLF.out _).mono ?_
        rintro e _ ⟨rfl, rfl⟩
        go_wp2_with fail
        refine (HRD.out _).mono ?_
        rintro e w3 ⟨rfl, hb3⟩
        rw [show rt0.v = .agg #[.int .i64 0, .string ⟨#[]⟩, .bool false, .slice none 0 0, .int .i64 0, .int .i64 0, .bool false, .slice none 0 0] from rfl]
        have HB3 := hide (bl_alloc (bl_trans HB1.out hb3) (.cells #[.int .i64 0, .string ⟨#[]⟩, .bool false, .slice none 0 0, .int .i64 0, .int .i64 0, .bool false, .slice none 0 0] 26))
        clear hb3
        go_wp2_with fail
        refine (awake14_any _).mono ?_
        rintro e w4 ⟨rfl, hb4⟩
        have HB4 := hide (bl_trans HB3.out hb4)
        clear hb4
        go_wp2
        go_ret
        exact ⟨rfl, HB4.out⟩
      case pos =>
        have ga : decide (A ≤ 255) = true := decide_eq_true (by omega)
        have ga' : decide ((A : Int) ≤ (255 : Int)) = true := decide_eq_true (by omega)
        have htx : (⟨#[120, 123]⟩ ++ DA ++ ⟨#[44]⟩ ++ ⟨#[125]⟩ : ByteArray).data.toList = 120 :: 123 :: (timT A 1 B ++ (if false = true then [63] else [])) := by
          simp only [ByteArray.data_append, Array.toList_append]
          rw [HDD.out.1]
          simp [timT]
        have hrd := HRT.out 1 false
        rw [← htx] at hrd
        rw [show timB A 1 B = some (A, -1) by simp [timB, ka]] at hrd
        simp only at hrd
        have hsz : (⟨#[120, 123]⟩ ++ DA ++ ⟨#[44]⟩ ++ ⟨#[125]⟩ : ByteArray).size ≤ 100 := by
          simp only [ByteArray.size_append, show (⟨#[120, 123]⟩ : ByteArray).size = 2 from rfl, show (⟨#[125]⟩ : ByteArray).size = 1 from rfl, show (⟨#[44]⟩ : ByteArray).size = 1 from rfl]
          omega
        have HRD := hide (fun W => read_any _ (by omega) W _ hrd)
        unfold RdPost at HRD
        clear hrd htx hsz
        go_enter Try.func9, Try.ntmps9
        go_wp2_with fail
        refine (HLA.out _).mono ?_
        rintro e _ ⟨rfl, rfl⟩
        go_wp2_with fail
        refine (HLB.out _).mono ?_
        rintro e _ ⟨rfl, rfl⟩
        go_wp2_with fail
        refine (HDA.out _).mono ?_
        rintro e w1 ⟨rfl, hb1⟩
        have HB1 := hide hb1
        clear hb1
        go_wp2_with fail
        refine (HLF.out _).mono ?_
        rintro e _ ⟨rfl, rfl⟩
        go_wp2_with fail
        refine (HRD.out _).mono ?_
        rintro e w3 ⟨t, rfl, hb3, hrx, -, her⟩
        obtain ⟨tA, ta, tB, tb, hrv, hkv, hv⟩ := rx_vv hrx
        rw [hv]
        obtain ⟨W4, hW4⟩ : ∃ W, w3.alloc (.cells #[.int .i64 t.k, .string t.ch, .bool t.nt, .slice tA t.rows.length ta, .int .i64 t.mi, .int .i64 t.ma, .bool t.lz, .slice tB t.kids.length tb] 26) = W := ⟨_, rfl⟩
        have hb34 : Below w3.heap.size w3 W4 := by rw [← hW4]; exact bl_alloc (bl_refl w3) _
        have HCX := hide (show CxAt W4 w3.heap.size t by rw [← hW4]; exact cx_new w3 t hrv hkv)
        have HR := hide hrv
        have HK := hide hkv
        have HB4 := hide (bl_trans HB1.out (bl_trans hb3 hb34))
        have HSM := hide (fun W' (hb : Below (W4.alloc (.cells #[.int .i64 2, .string ⟨#[120]⟩, .bool false, .slice none 0 0, .int .i64 0, .int .i64 0, .bool false, .slice none 0 0] 26)).heap.size (W4.alloc (.cells #[.int .i64 2, .string ⟨#[120]⟩, .bool false, .slice none 0 0, .int .i64 0, .int .i64 0, .bool false, .slice none 0 0] 26)) W') => (show Calls Try.prog 15 #[.agg #[.int .i64 t.k, .string t.ch, .bool t.nt, .slice tA t.rows.length ta, .int .i64 t.mi, .int .i64 t.ma, .bool t.lz, .slice tB t.kids.length tb], .agg #[.int .i64 7, .string ⟨#[]⟩, .bool false, .slice none 0 0, .int .i64 (A : Int), .int .i64 (-1 : Int), .bool false, .slice (some ⟨W4.heap.size, 0, none⟩) 1 1]] W' (fun e w' => e = .returned (.bool true) ∧ Below W'.heap.size W' w') from by
          have hh := same_any (rx_below (rx_below hrx hb34) (bl_trans (bl_alloc (bl_refl W4) _) hb)) (want_rx (a := (A : Int)) (b := (-1 : Int)) (lz := false) hb) W' (bl_refl W')
          rw [sameM_of (her.trans (by rw [er_eq]; rfl)), hv] at hh
          exact hh))
        obtain ⟨c0, c1, c2, c3, c4, c5, c6, c7⟩ := cx_8 HCX.out HR.out HK.out
        have hlt : w3.heap.size < W4.heap.size := World.block_lt_of_cell? _ _ c0
        clear hb3 hrx her hrv hkv hv hb34
        go_wp2_with fail
        refine (HSM.out _ (bl_alloc (bl_refl _) _)).mono ?_
        rintro e w5 ⟨rfl, hb5⟩
        have HB5 := hide (bl_trans HB4.out (bl_trans (bl_alloc (bl_alloc (bl_refl W4) _) _) hb5))
        clear hb5 c0 c1 c2 c3 c4 c5 c6 c7 hlt
        go_wp2_with fail
        refine (awake14_any _).mono ?_
        rintro e w6 ⟨rfl, hb6⟩
        have HB6 := hide (bl_trans HB5.out hb6)
        clear hb6
        go_wp2
        go_ret
        exact ⟨rfl, HB6.out⟩
    case true =>
      by_cases ka : A ≤ 255
      case neg =>
        have ga : decide (A ≤ 255) = false := decide_eq_false (by omega)
        have ga' : decide ((A : Int) ≤ (255 : Int)) = false := decide_eq_false (by omega)
        have htx : (⟨#[120, 123]⟩ ++ DA ++ ⟨#[44]⟩ ++ ⟨#[125]⟩ ++ ⟨#[63]⟩ : ByteArray).data.toList = 120 :: 123 :: (timT A 1 B ++ (if true = true then [63] else [])) := by
          simp only [ByteArray.data_append, Array.toList_append]
          rw [HDD.out.1]
          simp [timT]
        have hrd := HRT.out 1 true
        rw [← htx] at hrd
        rw [show timB A 1 B = none by simp [timB]; omega] at hrd
        simp only at hrd
        have hsz : (⟨#[120, 123]⟩ ++ DA ++ ⟨#[44]⟩ ++ ⟨#[125]⟩ ++ ⟨#[63]⟩ : ByteArray).size ≤ 100 := by
          simp only [ByteArray.size_append, show (⟨#[120, 123]⟩ : ByteArray).size = 2 from rfl, show (⟨#[125]⟩ : ByteArray).size = 1 from rfl, show (⟨#[44]⟩ : ByteArray).size = 1 from rfl, show (⟨#[63]⟩ : ByteArray).size = 1 from rfl]
          omega
        have HRD := hide (fun W => read_any _ (by omega) W _ hrd)
        unfold RdPost at HRD
        clear hrd htx hsz
        go_enter Try.func9, Try.ntmps9
        go_wp2_with fail
        refine (HLA.out _).mono ?_
        rintro e _ ⟨rfl, rfl⟩
        go_wp2_with fail
        refine (HLB.out _).mono ?_
        rintro e _ ⟨rfl, rfl⟩
        go_wp2_with fail
        refine (HDA.out _).mono ?_
        rintro e w1 ⟨rfl, hb1⟩
        have HB1 := hide hb1
        clear hb1
        go_wp2_with fail
        refine (HLF.out _).mono ?_
        rintro e _ ⟨rfl, rfl⟩
        go_wp2_with fail
        refine (HRD.out _).mono ?_
        rintro e w3 ⟨rfl, hb3⟩
        rw [show rt0.v = .agg #[.int .i64 0, .string ⟨#[]⟩, .bool false, .slice none 0 0, .int .i64 0, .int .i64 0, .bool false, .slice none 0 0] from rfl]
        have HB3 := hide (bl_alloc (bl_trans HB1.out hb3) (.cells #[.int .i64 0, .string ⟨#[]⟩, .bool false, .slice none 0 0, .int .i64 0, .int .i64 0, .bool false, .slice none 0 0] 26))
        clear hb3
        go_wp2_with fail
        refine (awake14_any _).mono ?_
        rintro e w4 ⟨rfl, hb4⟩
        have HB4 := hide (bl_trans HB3.out hb4)
        clear hb4
        go_wp2
        go_ret
        exact ⟨rfl, HB4.out⟩
      case pos =>
        have ga : decide (A ≤ 255) = true := decide_eq_true (by omega)
        have ga' : decide ((A : Int) ≤ (255 : Int)) = true := decide_eq_true (by omega)
        have htx : (⟨#[120, 123]⟩ ++ DA ++ ⟨#[44]⟩ ++ ⟨#[125]⟩ ++ ⟨#[63]⟩ : ByteArray).data.toList = 120 :: 123 :: (timT A 1 B ++ (if true = true then [63] else [])) := by
          simp only [ByteArray.data_append, Array.toList_append]
          rw [HDD.out.1]
          simp [timT]
        have hrd := HRT.out 1 true
        rw [← htx] at hrd
        rw [show timB A 1 B = some (A, -1) by simp [timB, ka]] at hrd
        simp only at hrd
        have hsz : (⟨#[120, 123]⟩ ++ DA ++ ⟨#[44]⟩ ++ ⟨#[125]⟩ ++ ⟨#[63]⟩ : ByteArray).size ≤ 100 := by
          simp only [ByteArray.size_append, show (⟨#[120, 123]⟩ : ByteArray).size = 2 from rfl, show (⟨#[125]⟩ : ByteArray).size = 1 from rfl, show (⟨#[44]⟩ : ByteArray).size = 1 from rfl, show (⟨#[63]⟩ : ByteArray).size = 1 from rfl]
          omega
        have HRD := hide (fun W => read_any _ (by omega) W _ hrd)
        unfold RdPost at HRD
        clear hrd htx hsz
        go_enter Try.func9, Try.ntmps9
        go_wp2_with fail
        refine (HLA.out _).mono ?_
        rintro e _ ⟨rfl, rfl⟩
        go_wp2_with fail
        refine (HLB.out _).mono ?_
        rintro e _ ⟨rfl, rfl⟩
        go_wp2_with fail
        refine (HDA.out _).mono ?_
        rintro e w1 ⟨rfl, hb1⟩
        have HB1 := hide hb1
        clear hb1
        go_wp2_with fail
        refine (HLF.out _).mono ?_
        rintro e _ ⟨rfl, rfl⟩
        go_wp2_with fail
        refine (HRD.out _).mono ?_
        rintro e w3 ⟨t, rfl, hb3, hrx, -, her⟩
        obtain ⟨tA, ta, tB, tb, hrv, hkv, hv⟩ := rx_vv hrx
        rw [hv]
        obtain ⟨W4, hW4⟩ : ∃ W, w3.alloc (.cells #[.int .i64 t.k, .string t.ch, .bool t.nt, .slice tA t.rows.length ta, .int .i64 t.mi, .int .i64 t.ma, .bool t.lz, .slice tB t.kids.length tb] 26) = W := ⟨_, rfl⟩
        have hb34 : Below w3.heap.size w3 W4 := by rw [← hW4]; exact bl_alloc (bl_refl w3) _
        have HCX := hide (show CxAt W4 w3.heap.size t by rw [← hW4]; exact cx_new w3 t hrv hkv)
        have HR := hide hrv
        have HK := hide hkv
        have HB4 := hide (bl_trans HB1.out (bl_trans hb3 hb34))
        have HSM := hide (fun W' (hb : Below (W4.alloc (.cells #[.int .i64 2, .string ⟨#[120]⟩, .bool false, .slice none 0 0, .int .i64 0, .int .i64 0, .bool false, .slice none 0 0] 26)).heap.size (W4.alloc (.cells #[.int .i64 2, .string ⟨#[120]⟩, .bool false, .slice none 0 0, .int .i64 0, .int .i64 0, .bool false, .slice none 0 0] 26)) W') => (show Calls Try.prog 15 #[.agg #[.int .i64 t.k, .string t.ch, .bool t.nt, .slice tA t.rows.length ta, .int .i64 t.mi, .int .i64 t.ma, .bool t.lz, .slice tB t.kids.length tb], .agg #[.int .i64 7, .string ⟨#[]⟩, .bool false, .slice none 0 0, .int .i64 (A : Int), .int .i64 (-1 : Int), .bool true, .slice (some ⟨W4.heap.size, 0, none⟩) 1 1]] W' (fun e w' => e = .returned (.bool true) ∧ Below W'.heap.size W' w') from by
          have hh := same_any (rx_below (rx_below hrx hb34) (bl_trans (bl_alloc (bl_refl W4) _) hb)) (want_rx (a := (A : Int)) (b := (-1 : Int)) (lz := true) hb) W' (bl_refl W')
          rw [sameM_of (her.trans (by rw [er_eq]; rfl)), hv] at hh
          exact hh))
        obtain ⟨c0, c1, c2, c3, c4, c5, c6, c7⟩ := cx_8 HCX.out HR.out HK.out
        have hlt : w3.heap.size < W4.heap.size := World.block_lt_of_cell? _ _ c0
        clear hb3 hrx her hrv hkv hv hb34
        go_wp2_with fail
        refine (HSM.out _ (bl_alloc (bl_refl _) _)).mono ?_
        rintro e w5 ⟨rfl, hb5⟩
        have HB5 := hide (bl_trans HB4.out (bl_trans (bl_alloc (bl_alloc (bl_refl W4) _) _) hb5))
        clear hb5 c0 c1 c2 c3 c4 c5 c6 c7 hlt
        go_wp2_with fail
        refine (awake14_any _).mono ?_
        rintro e w6 ⟨rfl, hb6⟩
        have HB6 := hide (bl_trans HB5.out hb6)
        clear hb6
        go_wp2
        go_ret
        exact ⟨rfl, HB6.out⟩
  have f2 : F = 2 := by omega
  subst f2
  clear f0 f1 hF2
  cases a3
  case false =>
    by_cases ka : A ≤ 255
    case neg =>
      have ga : decide (A ≤ 255) = false := decide_eq_false (by omega)
      have ga' : decide ((A : Int) ≤ (255 : Int)) = false := decide_eq_false (by omega)
      have htx : (⟨#[120, 123]⟩ ++ DA ++ ⟨#[44]⟩ ++ DB ++ ⟨#[125]⟩ : ByteArray).data.toList = 120 :: 123 :: (timT A 2 B ++ (if false = true then [63] else [])) := by
        simp only [ByteArray.data_append, Array.toList_append]
        rw [HDD.out.1, HDD.out.2]
        simp [timT]
      have hrd := HRT.out 2 false
      rw [← htx] at hrd
      rw [show timB A 2 B = none by simp [timB]; omega] at hrd
      simp only at hrd
      have hsz : (⟨#[120, 123]⟩ ++ DA ++ ⟨#[44]⟩ ++ DB ++ ⟨#[125]⟩ : ByteArray).size ≤ 100 := by
        simp only [ByteArray.size_append, show (⟨#[120, 123]⟩ : ByteArray).size = 2 from rfl, show (⟨#[125]⟩ : ByteArray).size = 1 from rfl, show (⟨#[44]⟩ : ByteArray).size = 1 from rfl]
        omega
      have HRD := hide (fun W => read_any _ (by omega) W _ hrd)
      unfold RdPost at HRD
      clear hrd htx hsz
      go_enter Try.func9, Try.ntmps9
      go_wp2_with fail
      refine (HLA.out _).mono ?_
      rintro e _ ⟨rfl, rfl⟩
      go_wp2_with fail
      refine (HLB.out _).mono ?_
      rintro e _ ⟨rfl, rfl⟩
      go_wp2_with fail
      refine (HDA.out _).mono ?_
      rintro e w1 ⟨rfl, hb1⟩
      have HB1 := hide hb1
      clear hb1
      go_wp2_with fail
      refine (HLF.out _).mono ?_
      rintro e _ ⟨rfl, rfl⟩
      go_wp2_with fail
      refine (HDB.out _).mono ?_
      rintro e w2 ⟨rfl, hb2⟩
      have HB2 := hide (bl_trans HB1.out hb2)
      clear hb2
      go_wp2_with fail
      refine (HRD.out _).mono ?_
      rintro e w3 ⟨rfl, hb3⟩
      rw [show rt0.v = .agg #[.int .i64 0, .string ⟨#[]⟩, .bool false, .slice none 0 0, .int .i64 0, .int .i64 0, .bool false, .slice none 0 0] from rfl]
      have HB3 := hide (bl_alloc (bl_trans HB2.out hb3) (.cells #[.int .i64 0, .string ⟨#[]⟩, .bool false, .slice none 0 0, .int .i64 0, .int .i64 0, .bool false, .slice none 0 0] 26))
      clear hb3
      go_wp2_with fail
      refine (awake14_any _).mono ?_
      rintro e w4 ⟨rfl, hb4⟩
      have HB4 := hide (bl_trans HB3.out hb4)
      clear hb4
      go_wp2
      go_ret
      exact ⟨rfl, HB4.out⟩
    case pos =>
      have ga : decide (A ≤ 255) = true := decide_eq_true (by omega)
      have ga' : decide ((A : Int) ≤ (255 : Int)) = true := decide_eq_true (by omega)
      by_cases kb : B ≤ 255
      case neg =>
        have gb : decide (B ≤ 255) = false := decide_eq_false (by omega)
        have gb' : decide ((B : Int) ≤ (255 : Int)) = false := decide_eq_false (by omega)
        have htx : (⟨#[120, 123]⟩ ++ DA ++ ⟨#[44]⟩ ++ DB ++ ⟨#[125]⟩ : ByteArray).data.toList = 120 :: 123 :: (timT A 2 B ++ (if false = true then [63] else [])) := by
          simp only [ByteArray.data_append, Array.toList_append]
          rw [HDD.out.1, HDD.out.2]
          simp [timT]
        have hrd := HRT.out 2 false
        rw [← htx] at hrd
        rw [show timB A 2 B = none by simp [timB]; omega] at hrd
        simp only at hrd
        have hsz : (⟨#[120, 123]⟩ ++ DA ++ ⟨#[44]⟩ ++ DB ++ ⟨#[125]⟩ : ByteArray).size ≤ 100 := by
          simp only [ByteArray.size_append, show (⟨#[120, 123]⟩ : ByteArray).size = 2 from rfl, show (⟨#[125]⟩ : ByteArray).size = 1 from rfl, show (⟨#[44]⟩ : ByteArray).size = 1 from rfl]
          omega
        have HRD := hide (fun W => read_any _ (by omega) W _ hrd)
        unfold RdPost at HRD
        clear hrd htx hsz
        go_enter Try.func9, Try.ntmps9
        go_wp2_with fail
        refine (HLA.out _).mono ?_
        rintro e _ ⟨rfl, rfl⟩
        go_wp2_with fail
        refine (HLB.out _).mono ?_
        rintro e _ ⟨rfl, rfl⟩
        go_wp2_with fail
        refine (HDA.out _).mono ?_
        rintro e w1 ⟨rfl, hb1⟩
        have HB1 := hide hb1
        clear hb1
        go_wp2_with fail
        refine (HLF.out _).mono ?_
        rintro e _ ⟨rfl, rfl⟩
        go_wp2_with fail
        refine (HDB.out _).mono ?_
        rintro e w2 ⟨rfl, hb2⟩
        have HB2 := hide (bl_trans HB1.out hb2)
        clear hb2
        go_wp2_with fail
        refine (HRD.out _).mono ?_
        rintro e w3 ⟨rfl, hb3⟩
        rw [show rt0.v = .agg #[.int .i64 0, .string ⟨#[]⟩, .bool false, .slice none 0 0, .int .i64 0, .int .i64 0, .bool false, .slice none 0 0] from rfl]
        have HB3 := hide (bl_alloc (bl_trans HB2.out hb3) (.cells #[.int .i64 0, .string ⟨#[]⟩, .bool false, .slice none 0 0, .int .i64 0, .int .i64 0, .bool false, .slice none 0 0] 26))
        clear hb3
        go_wp2_with fail
        refine (awake14_any _).mono ?_
        rintro e w4 ⟨rfl, hb4⟩
        have HB4 := hide (bl_trans HB3.out hb4)
        clear hb4
        go_wp2
        go_ret
        exact ⟨rfl, HB4.out⟩
      case pos =>
        have gb : decide (B ≤ 255) = true := decide_eq_true (by omega)
        have gb' : decide ((B : Int) ≤ (255 : Int)) = true := decide_eq_true (by omega)
        by_cases kc : A ≤ B
        case neg =>
          have gc : decide (A ≤ B) = false := decide_eq_false (by omega)
          have gc' : decide ((A : Int) ≤ (B : Int)) = false := decide_eq_false (by omega)
          have htx : (⟨#[120, 123]⟩ ++ DA ++ ⟨#[44]⟩ ++ DB ++ ⟨#[125]⟩ : ByteArray).data.toList = 120 :: 123 :: (timT A 2 B ++ (if false = true then [63] else [])) := by
            simp only [ByteArray.data_append, Array.toList_append]
            rw [HDD.out.1, HDD.out.2]
            simp [timT]
          have hrd := HRT.out 2 false
          rw [← htx] at hrd
          rw [show timB A 2 B = none by simp [timB]; omega] at hrd
          simp only at hrd
          have hsz : (⟨#[120, 123]⟩ ++ DA ++ ⟨#[44]⟩ ++ DB ++ ⟨#[125]⟩ : ByteArray).size ≤ 100 := by
            simp only [ByteArray.size_append, show (⟨#[120, 123]⟩ : ByteArray).size = 2 from rfl, show (⟨#[125]⟩ : ByteArray).size = 1 from rfl, show (⟨#[44]⟩ : ByteArray).size = 1 from rfl]
            omega
          have HRD := hide (fun W => read_any _ (by omega) W _ hrd)
          unfold RdPost at HRD
          clear hrd htx hsz
          go_enter Try.func9, Try.ntmps9
          go_wp2_with fail
          refine (HLA.out _).mono ?_
          rintro e _ ⟨rfl, rfl⟩
          go_wp2_with fail
          refine (HLB.out _).mono ?_
          rintro e _ ⟨rfl, rfl⟩
          go_wp2_with fail
          refine (HDA.out _).mono ?_
          rintro e w1 ⟨rfl, hb1⟩
          have HB1 := hide hb1
          clear hb1
          go_wp2_with fail
          refine (HLF.out _).mono ?_
          rintro e _ ⟨rfl, rfl⟩
          go_wp2_with fail
          refine (HDB.out _).mono ?_
          rintro e w2 ⟨rfl, hb2⟩
          have HB2 := hide (bl_trans HB1.out hb2)
          clear hb2
          go_wp2_with fail
          refine (HRD.out _).mono ?_
          rintro e w3 ⟨rfl, hb3⟩
          rw [show rt0.v = .agg #[.int .i64 0, .string ⟨#[]⟩, .bool false, .slice none 0 0, .int .i64 0, .int .i64 0, .bool false, .slice none 0 0] from rfl]
          have HB3 := hide (bl_alloc (bl_trans HB2.out hb3) (.cells #[.int .i64 0, .string ⟨#[]⟩, .bool false, .slice none 0 0, .int .i64 0, .int .i64 0, .bool false, .slice none 0 0] 26))
          clear hb3
          go_wp2_with fail
          refine (awake14_any _).mono ?_
          rintro e w4 ⟨rfl, hb4⟩
          have HB4 := hide (bl_trans HB3.out hb4)
          clear hb4
          go_wp2
          go_ret
          exact ⟨rfl, HB4.out⟩
        case pos =>
          have gc : decide (A ≤ B) = true := decide_eq_true (by omega)
          have gc' : decide ((A : Int) ≤ (B : Int)) = true := decide_eq_true (by omega)
          have htx : (⟨#[120, 123]⟩ ++ DA ++ ⟨#[44]⟩ ++ DB ++ ⟨#[125]⟩ : ByteArray).data.toList = 120 :: 123 :: (timT A 2 B ++ (if false = true then [63] else [])) := by
            simp only [ByteArray.data_append, Array.toList_append]
            rw [HDD.out.1, HDD.out.2]
            simp [timT]
          have hrd := HRT.out 2 false
          rw [← htx] at hrd
          rw [show timB A 2 B = some (A, (B : Int)) by simp [timB, ka, kb, kc]] at hrd
          simp only at hrd
          have hsz : (⟨#[120, 123]⟩ ++ DA ++ ⟨#[44]⟩ ++ DB ++ ⟨#[125]⟩ : ByteArray).size ≤ 100 := by
            simp only [ByteArray.size_append, show (⟨#[120, 123]⟩ : ByteArray).size = 2 from rfl, show (⟨#[125]⟩ : ByteArray).size = 1 from rfl, show (⟨#[44]⟩ : ByteArray).size = 1 from rfl]
            omega
          have HRD := hide (fun W => read_any _ (by omega) W _ hrd)
          unfold RdPost at HRD
          clear hrd htx hsz
          go_enter Try.func9, Try.ntmps9
          go_wp2_with fail
          refine (HLA.out _).mono ?_
          rintro e _ ⟨rfl, rfl⟩
          go_wp2_with fail
          refine (HLB.out _).mono ?_
          rintro e _ ⟨rfl, rfl⟩
          go_wp2_with fail
          refine (HDA.out _).mono ?_
          rintro e w1 ⟨rfl, hb1⟩
          have HB1 := hide hb1
          clear hb1
          go_wp2_with fail
          refine (HLF.out _).mono ?_
          rintro e _ ⟨rfl, rfl⟩
          go_wp2_with fail
          refine (HDB.out _).mono ?_
          rintro e w2 ⟨rfl, hb2⟩
          have HB2 := hide (bl_trans HB1.out hb2)
          clear hb2
          go_wp2_with fail
          refine (HRD.out _).mono ?_
          rintro e w3 ⟨t, rfl, hb3, hrx, -, her⟩
          obtain ⟨tA, ta, tB, tb, hrv, hkv, hv⟩ := rx_vv hrx
          rw [hv]
          obtain ⟨W4, hW4⟩ : ∃ W, w3.alloc (.cells #[.int .i64 t.k, .string t.ch, .bool t.nt, .slice tA t.rows.length ta, .int .i64 t.mi, .int .i64 t.ma, .bool t.lz, .slice tB t.kids.length tb] 26) = W := ⟨_, rfl⟩
          have hb34 : Below w3.heap.size w3 W4 := by rw [← hW4]; exact bl_alloc (bl_refl w3) _
          have HCX := hide (show CxAt W4 w3.heap.size t by rw [← hW4]; exact cx_new w3 t hrv hkv)
          have HR := hide hrv
          have HK := hide hkv
          have HB4 := hide (bl_trans HB2.out (bl_trans hb3 hb34))
          have HSM := hide (fun W' (hb : Below (W4.alloc (.cells #[.int .i64 2, .string ⟨#[120]⟩, .bool false, .slice none 0 0, .int .i64 0, .int .i64 0, .bool false, .slice none 0 0] 26)).heap.size (W4.alloc (.cells #[.int .i64 2, .string ⟨#[120]⟩, .bool false, .slice none 0 0, .int .i64 0, .int .i64 0, .bool false, .slice none 0 0] 26)) W') => (show Calls Try.prog 15 #[.agg #[.int .i64 t.k, .string t.ch, .bool t.nt, .slice tA t.rows.length ta, .int .i64 t.mi, .int .i64 t.ma, .bool t.lz, .slice tB t.kids.length tb], .agg #[.int .i64 7, .string ⟨#[]⟩, .bool false, .slice none 0 0, .int .i64 (A : Int), .int .i64 (B : Int), .bool false, .slice (some ⟨W4.heap.size, 0, none⟩) 1 1]] W' (fun e w' => e = .returned (.bool true) ∧ Below W'.heap.size W' w') from by
            have hh := same_any (rx_below (rx_below hrx hb34) (bl_trans (bl_alloc (bl_refl W4) _) hb)) (want_rx (a := (A : Int)) (b := (B : Int)) (lz := false) hb) W' (bl_refl W')
            rw [sameM_of (her.trans (by rw [er_eq]; rfl)), hv] at hh
            exact hh))
          obtain ⟨c0, c1, c2, c3, c4, c5, c6, c7⟩ := cx_8 HCX.out HR.out HK.out
          have hlt : w3.heap.size < W4.heap.size := World.block_lt_of_cell? _ _ c0
          clear hb3 hrx her hrv hkv hv hb34
          go_wp2_with fail
          refine (HSM.out _ (bl_alloc (bl_refl _) _)).mono ?_
          rintro e w5 ⟨rfl, hb5⟩
          have HB5 := hide (bl_trans HB4.out (bl_trans (bl_alloc (bl_alloc (bl_refl W4) _) _) hb5))
          clear hb5 c0 c1 c2 c3 c4 c5 c6 c7 hlt
          go_wp2_with fail
          refine (awake14_any _).mono ?_
          rintro e w6 ⟨rfl, hb6⟩
          have HB6 := hide (bl_trans HB5.out hb6)
          clear hb6
          go_wp2
          go_ret
          exact ⟨rfl, HB6.out⟩
  case true =>
    by_cases ka : A ≤ 255
    case neg =>
      have ga : decide (A ≤ 255) = false := decide_eq_false (by omega)
      have ga' : decide ((A : Int) ≤ (255 : Int)) = false := decide_eq_false (by omega)
      have htx : (⟨#[120, 123]⟩ ++ DA ++ ⟨#[44]⟩ ++ DB ++ ⟨#[125]⟩ ++ ⟨#[63]⟩ : ByteArray).data.toList = 120 :: 123 :: (timT A 2 B ++ (if true = true then [63] else [])) := by
        simp only [ByteArray.data_append, Array.toList_append]
        rw [HDD.out.1, HDD.out.2]
        simp [timT]
      have hrd := HRT.out 2 true
      rw [← htx] at hrd
      rw [show timB A 2 B = none by simp [timB]; omega] at hrd
      simp only at hrd
      have hsz : (⟨#[120, 123]⟩ ++ DA ++ ⟨#[44]⟩ ++ DB ++ ⟨#[125]⟩ ++ ⟨#[63]⟩ : ByteArray).size ≤ 100 := by
        simp only [ByteArray.size_append, show (⟨#[120, 123]⟩ : ByteArray).size = 2 from rfl, show (⟨#[125]⟩ : ByteArray).size = 1 from rfl, show (⟨#[44]⟩ : ByteArray).size = 1 from rfl, show (⟨#[63]⟩ : ByteArray).size = 1 from rfl]
        omega
      have HRD := hide (fun W => read_any _ (by omega) W _ hrd)
      unfold RdPost at HRD
      clear hrd htx hsz
      go_enter Try.func9, Try.ntmps9
      go_wp2_with fail
      refine (HLA.out _).mono ?_
      rintro e _ ⟨rfl, rfl⟩
      go_wp2_with fail
      refine (HLB.out _).mono ?_
      rintro e _ ⟨rfl, rfl⟩
      go_wp2_with fail
      refine (HDA.out _).mono ?_
      rintro e w1 ⟨rfl, hb1⟩
      have HB1 := hide hb1
      clear hb1
      go_wp2_with fail
      refine (HLF.out _).mono ?_
      rintro e _ ⟨rfl, rfl⟩
      go_wp2_with fail
      refine (HDB.out _).mono ?_
      rintro e w2 ⟨rfl, hb2⟩
      have HB2 := hide (bl_trans HB1.out hb2)
      clear hb2
      go_wp2_with fail
      refine (HRD.out _).mono ?_
      rintro e w3 ⟨rfl, hb3⟩
      rw [show rt0.v = .agg #[.int .i64 0, .string ⟨#[]⟩, .bool false, .slice none 0 0, .int .i64 0, .int .i64 0, .bool false, .slice none 0 0] from rfl]
      have HB3 := hide (bl_alloc (bl_trans HB2.out hb3) (.cells #[.int .i64 0, .string ⟨#[]⟩, .bool false, .slice none 0 0, .int .i64 0, .int .i64 0, .bool false, .slice none 0 0] 26))
      clear hb3
      go_wp2_with fail
      refine (awake14_any _).mono ?_
      rintro e w4 ⟨rfl, hb4⟩
      have HB4 := hide (bl_trans HB3.out hb4)
      clear hb4
      go_wp2
      go_ret
      exact ⟨rfl, HB4.out⟩
    case pos =>
      have ga : decide (A ≤ 255) = true := decide_eq_true (by omega)
      have ga' : decide ((A : Int) ≤ (255 : Int)) = true := decide_eq_true (by omega)
      by_cases kb : B ≤ 255
      case neg =>
        have gb : decide (B ≤ 255) = false := decide_eq_false (by omega)
        have gb' : decide ((B : Int) ≤ (255 : Int)) = false := decide_eq_false (by omega)
        have htx : (⟨#[120, 123]⟩ ++ DA ++ ⟨#[44]⟩ ++ DB ++ ⟨#[125]⟩ ++ ⟨#[63]⟩ : ByteArray).data.toList = 120 :: 123 :: (timT A 2 B ++ (if true = true then [63] else [])) := by
          simp only [ByteArray.data_append, Array.toList_append]
          rw [HDD.out.1, HDD.out.2]
          simp [timT]
        have hrd := HRT.out 2 true
        rw [← htx] at hrd
        rw [show timB A 2 B = none by simp [timB]; omega] at hrd
        simp only at hrd
        have hsz : (⟨#[120, 123]⟩ ++ DA ++ ⟨#[44]⟩ ++ DB ++ ⟨#[125]⟩ ++ ⟨#[63]⟩ : ByteArray).size ≤ 100 := by
          simp only [ByteArray.size_append, show (⟨#[120, 123]⟩ : ByteArray).size = 2 from rfl, show (⟨#[125]⟩ : ByteArray).size = 1 from rfl, show (⟨#[44]⟩ : ByteArray).size = 1 from rfl, show (⟨#[63]⟩ : ByteArray).size = 1 from rfl]
          omega
        have HRD := hide (fun W => read_any _ (by omega) W _ hrd)
        unfold RdPost at HRD
        clear hrd htx hsz
        go_enter Try.func9, Try.ntmps9
        go_wp2_with fail
        refine (HLA.out _).mono ?_
        rintro e _ ⟨rfl, rfl⟩
        go_wp2_with fail
        refine (HLB.out _).mono ?_
        rintro e _ ⟨rfl, rfl⟩
        go_wp2_with fail
        refine (HDA.out _).mono ?_
        rintro e w1 ⟨rfl, hb1⟩
        have HB1 := hide hb1
        clear hb1
        go_wp2_with fail
        refine (HLF.out _).mono ?_
        rintro e _ ⟨rfl, rfl⟩
        go_wp2_with fail
        refine (HDB.out _).mono ?_
        rintro e w2 ⟨rfl, hb2⟩
        have HB2 := hide (bl_trans HB1.out hb2)
        clear hb2
        go_wp2_with fail
        refine (HRD.out _).mono ?_
        rintro e w3 ⟨rfl, hb3⟩
        rw [show rt0.v = .agg #[.int .i64 0, .string ⟨#[]⟩, .bool false, .slice none 0 0, .int .i64 0, .int .i64 0, .bool false, .slice none 0 0] from rfl]
        have HB3 := hide (bl_alloc (bl_trans HB2.out hb3) (.cells #[.int .i64 0, .string ⟨#[]⟩, .bool false, .slice none 0 0, .int .i64 0, .int .i64 0, .bool false, .slice none 0 0] 26))
        clear hb3
        go_wp2_with fail
        refine (awake14_any _).mono ?_
        rintro e w4 ⟨rfl, hb4⟩
        have HB4 := hide (bl_trans HB3.out hb4)
        clear hb4
        go_wp2
        go_ret
        exact ⟨rfl, HB4.out⟩
      case pos =>
        have gb : decide (B ≤ 255) = true := decide_eq_true (by omega)
        have gb' : decide ((B : Int) ≤ (255 : Int)) = true := decide_eq_true (by omega)
        by_cases kc : A ≤ B
        case neg =>
          have gc : decide (A ≤ B) = false := decide_eq_false (by omega)
          have gc' : decide ((A : Int) ≤ (B : Int)) = false := decide_eq_false (by omega)
          have htx : (⟨#[120, 123]⟩ ++ DA ++ ⟨#[44]⟩ ++ DB ++ ⟨#[125]⟩ ++ ⟨#[63]⟩ : ByteArray).data.toList = 120 :: 123 :: (timT A 2 B ++ (if true = true then [63] else [])) := by
            simp only [ByteArray.data_append, Array.toList_append]
            rw [HDD.out.1, HDD.out.2]
            simp [timT]
          have hrd := HRT.out 2 true
          rw [← htx] at hrd
          rw [show timB A 2 B = none by simp [timB]; omega] at hrd
          simp only at hrd
          have hsz : (⟨#[120, 123]⟩ ++ DA ++ ⟨#[44]⟩ ++ DB ++ ⟨#[125]⟩ ++ ⟨#[63]⟩ : ByteArray).size ≤ 100 := by
            simp only [ByteArray.size_append, show (⟨#[120, 123]⟩ : ByteArray).size = 2 from rfl, show (⟨#[125]⟩ : ByteArray).size = 1 from rfl, show (⟨#[44]⟩ : ByteArray).size = 1 from rfl, show (⟨#[63]⟩ : ByteArray).size = 1 from rfl]
            omega
          have HRD := hide (fun W => read_any _ (by omega) W _ hrd)
          unfold RdPost at HRD
          clear hrd htx hsz
          go_enter Try.func9, Try.ntmps9
          go_wp2_with fail
          refine (HLA.out _).mono ?_
          rintro e _ ⟨rfl, rfl⟩
          go_wp2_with fail
          refine (HLB.out _).mono ?_
          rintro e _ ⟨rfl, rfl⟩
          go_wp2_with fail
          refine (HDA.out _).mono ?_
          rintro e w1 ⟨rfl, hb1⟩
          have HB1 := hide hb1
          clear hb1
          go_wp2_with fail
          refine (HLF.out _).mono ?_
          rintro e _ ⟨rfl, rfl⟩
          go_wp2_with fail
          refine (HDB.out _).mono ?_
          rintro e w2 ⟨rfl, hb2⟩
          have HB2 := hide (bl_trans HB1.out hb2)
          clear hb2
          go_wp2_with fail
          refine (HRD.out _).mono ?_
          rintro e w3 ⟨rfl, hb3⟩
          rw [show rt0.v = .agg #[.int .i64 0, .string ⟨#[]⟩, .bool false, .slice none 0 0, .int .i64 0, .int .i64 0, .bool false, .slice none 0 0] from rfl]
          have HB3 := hide (bl_alloc (bl_trans HB2.out hb3) (.cells #[.int .i64 0, .string ⟨#[]⟩, .bool false, .slice none 0 0, .int .i64 0, .int .i64 0, .bool false, .slice none 0 0] 26))
          clear hb3
          go_wp2_with fail
          refine (awake14_any _).mono ?_
          rintro e w4 ⟨rfl, hb4⟩
          have HB4 := hide (bl_trans HB3.out hb4)
          clear hb4
          go_wp2
          go_ret
          exact ⟨rfl, HB4.out⟩
        case pos =>
          have gc : decide (A ≤ B) = true := decide_eq_true (by omega)
          have gc' : decide ((A : Int) ≤ (B : Int)) = true := decide_eq_true (by omega)
          have htx : (⟨#[120, 123]⟩ ++ DA ++ ⟨#[44]⟩ ++ DB ++ ⟨#[125]⟩ ++ ⟨#[63]⟩ : ByteArray).data.toList = 120 :: 123 :: (timT A 2 B ++ (if true = true then [63] else [])) := by
            simp only [ByteArray.data_append, Array.toList_append]
            rw [HDD.out.1, HDD.out.2]
            simp [timT]
          have hrd := HRT.out 2 true
          rw [← htx] at hrd
          rw [show timB A 2 B = some (A, (B : Int)) by simp [timB, ka, kb, kc]] at hrd
          simp only at hrd
          have hsz : (⟨#[120, 123]⟩ ++ DA ++ ⟨#[44]⟩ ++ DB ++ ⟨#[125]⟩ ++ ⟨#[63]⟩ : ByteArray).size ≤ 100 := by
            simp only [ByteArray.size_append, show (⟨#[120, 123]⟩ : ByteArray).size = 2 from rfl, show (⟨#[125]⟩ : ByteArray).size = 1 from rfl, show (⟨#[44]⟩ : ByteArray).size = 1 from rfl, show (⟨#[63]⟩ : ByteArray).size = 1 from rfl]
            omega
          have HRD := hide (fun W => read_any _ (by omega) W _ hrd)
          unfold RdPost at HRD
          clear hrd htx hsz
          go_enter Try.func9, Try.ntmps9
          go_wp2_with fail
          refine (HLA.out _).mono ?_
          rintro e _ ⟨rfl, rfl⟩
          go_wp2_with fail
          refine (HLB.out _).mono ?_
          rintro e _ ⟨rfl, rfl⟩
          go_wp2_with fail
          refine (HDA.out _).mono ?_
          rintro e w1 ⟨rfl, hb1⟩
          have HB1 := hide hb1
          clear hb1
          go_wp2_with fail
          refine (HLF.out _).mono ?_
          rintro e _ ⟨rfl, rfl⟩
          go_wp2_with fail
          refine (HDB.out _).mono ?_
          rintro e w2 ⟨rfl, hb2⟩
          have HB2 := hide (bl_trans HB1.out hb2)
          clear hb2
          go_wp2_with fail
          refine (HRD.out _).mono ?_
          rintro e w3 ⟨t, rfl, hb3, hrx, -, her⟩
          obtain ⟨tA, ta, tB, tb, hrv, hkv, hv⟩ := rx_vv hrx
          rw [hv]
          obtain ⟨W4, hW4⟩ : ∃ W, w3.alloc (.cells #[.int .i64 t.k, .string t.ch, .bool t.nt, .slice tA t.rows.length ta, .int .i64 t.mi, .int .i64 t.ma, .bool t.lz, .slice tB t.kids.length tb] 26) = W := ⟨_, rfl⟩
          have hb34 : Below w3.heap.size w3 W4 := by rw [← hW4]; exact bl_alloc (bl_refl w3) _
          have HCX := hide (show CxAt W4 w3.heap.size t by rw [← hW4]; exact cx_new w3 t hrv hkv)
          have HR := hide hrv
          have HK := hide hkv
          have HB4 := hide (bl_trans HB2.out (bl_trans hb3 hb34))
          have HSM := hide (fun W' (hb : Below (W4.alloc (.cells #[.int .i64 2, .string ⟨#[120]⟩, .bool false, .slice none 0 0, .int .i64 0, .int .i64 0, .bool false, .slice none 0 0] 26)).heap.size (W4.alloc (.cells #[.int .i64 2, .string ⟨#[120]⟩, .bool false, .slice none 0 0, .int .i64 0, .int .i64 0, .bool false, .slice none 0 0] 26)) W') => (show Calls Try.prog 15 #[.agg #[.int .i64 t.k, .string t.ch, .bool t.nt, .slice tA t.rows.length ta, .int .i64 t.mi, .int .i64 t.ma, .bool t.lz, .slice tB t.kids.length tb], .agg #[.int .i64 7, .string ⟨#[]⟩, .bool false, .slice none 0 0, .int .i64 (A : Int), .int .i64 (B : Int), .bool true, .slice (some ⟨W4.heap.size, 0, none⟩) 1 1]] W' (fun e w' => e = .returned (.bool true) ∧ Below W'.heap.size W' w') from by
            have hh := same_any (rx_below (rx_below hrx hb34) (bl_trans (bl_alloc (bl_refl W4) _) hb)) (want_rx (a := (A : Int)) (b := (B : Int)) (lz := true) hb) W' (bl_refl W')
            rw [sameM_of (her.trans (by rw [er_eq]; rfl)), hv] at hh
            exact hh))
          obtain ⟨c0, c1, c2, c3, c4, c5, c6, c7⟩ := cx_8 HCX.out HR.out HK.out
          have hlt : w3.heap.size < W4.heap.size := World.block_lt_of_cell? _ _ c0
          clear hb3 hrx her hrv hkv hv hb34
          go_wp2_with fail
          refine (HSM.out _ (bl_alloc (bl_refl _) _)).mono ?_
          rintro e w5 ⟨rfl, hb5⟩
          have HB5 := hide (bl_trans HB4.out (bl_trans (bl_alloc (bl_alloc (bl_refl W4) _) _) hb5))
          clear hb5 c0 c1 c2 c3 c4 c5 c6 c7 hlt
          go_wp2_with fail
          refine (awake14_any _).mono ?_
          rintro e w6 ⟨rfl, hb6⟩
          have HB6 := hide (bl_trans HB5.out hb6)
          clear hb6
          go_wp2
          go_ret
          exact ⟨rfl, HB6.out⟩

set_option maxRecDepth 100000 in
theorem lifted (os : Os) (started : os.Started) (H : Type) (enc : TypeId × Value → H) :
    ReturnsInHanded {} Try.checked os 9 .any (Rows.readTimesSpec.pre6 enc Try.prog Try.f9 Rows.readTimesRow.domain false) (Rows.readTimesSpec.post enc Try.prog Try.f9 false true false false) := by
  refine returnsInHanded_of_change (C := Try.checked) own started (by kernel_rfl) Try.func9
    (ChangeSpec.witness6 (enc := enc) (C := Try.checked) false ⟨#[], #[.int .i64 0, .int .i64 0, .int .i64 0, .bool false], []⟩ 8 (by kernel_rfl) (by kernel_rfl) (by kernel_rfl) (by kernel_rfl)) ?_
  intro W base args ds gs before hval0 hW hcnd _
  have hval : ∀ (j : Nat) t v, Try.f9.params[j]? = some t → args[j]? = some v → Value.okWide Try.prog W .any base t v := hval0
  have hW' := hW
  obtain ⟨p, q, hA0, hV, rfl, hfz, hnd⟩ := hW
  have hA : DataW.TrodAll enc Try.prog W 0 (fun _ => true) true Try.f9.params.toList args.toList ds p := hA0
  rw [Try.params9] at hA hval
  obtain ⟨v0, vs0, d0, ds0, p0, q0, hargs, rfl, rfl, h0, r0⟩ := trodAll_cons hA
  obtain ⟨v1, vs1, d1, ds1, p1, q1, rfl, rfl, rfl, h1, r1⟩ := trodAll_cons r0
  obtain ⟨v2, vs2, d2, ds2, p2, q2, rfl, rfl, rfl, h2, r2⟩ := trodAll_cons r1
  obtain ⟨v3, vs3, d3, ds3, p3, q3, rfl, rfl, rfl, h3, r3⟩ := trodAll_cons r2
  obtain ⟨rfl, rfl, rfl⟩ := trodAll_nil r3
  obtain rfl : args = #[v0, v1, v2, v3] := by cases args; simp_all
  obtain ⟨rfl, rfl⟩ := trodVars_none hV
  have k0 := h0
  have lt0 : ∀ x ∈ p0, x.block < W.heap.size := by obtain ⟨m, hm⟩ := k0; exact DataW.trod_lt m _ _ _ hm
  obtain ⟨a0, rfl, hd0, hp0, w0⟩ := open_int Try.underlying3 (hval 0 3 v0 rfl rfl) h0
  have k1 := h1
  have lt1 : ∀ x ∈ p1, x.block < W.heap.size := by obtain ⟨m, hm⟩ := k1; exact DataW.trod_lt m _ _ _ hm
  obtain ⟨a1, rfl, hd1, hp1, w1⟩ := open_int Try.underlying3 (hval 1 3 v1 rfl rfl) h1
  have k2 := h2
  have lt2 : ∀ x ∈ p2, x.block < W.heap.size := by obtain ⟨m, hm⟩ := k2; exact DataW.trod_lt m _ _ _ hm
  obtain ⟨a2, rfl, hd2, hp2, w2⟩ := open_int Try.underlying3 (hval 2 3 v2 rfl rfl) h2
  have k3 := h3
  have lt3 : ∀ x ∈ p3, x.block < W.heap.size := by obtain ⟨m, hm⟩ := k3; exact DataW.trod_lt m _ _ _ hm
  obtain ⟨a3, rfl, hd3, hp3⟩ := open_bool Try.underlying4 (hval 3 4 v3 rfl rfl) h3
  clear hA0 hval0
  refine (walk a0 a1 a2 a3 W w0 w1 w2).mono fun e W' ⟨he, bel⟩ => ?_
  subst he
  exact ⟨_, rfl, _, _, _, [], _, [], hW', trodAll_mk1 (shut_bool Try.underlying4 _), (trodAll_cons_mk (Below.trod laidOut (by kernel_rfl) (of_decide_eq_true (by kernel_rfl)) k0 bel lt0) (trodAll_cons_mk (Below.trod laidOut (by kernel_rfl) (of_decide_eq_true (by kernel_rfl)) k1 bel lt1) (trodAll_cons_mk (Below.trod laidOut (by kernel_rfl) (of_decide_eq_true (by kernel_rfl)) k2 bel lt2) (trodAll_cons_mk (Below.trod laidOut (by kernel_rfl) (of_decide_eq_true (by kernel_rfl)) k3 bel lt3) trodAll_mk0)))), rfl, bel.frame _, fun h => by cases h⟩

theorem over : Rows.readTimesRow.holds Try.pinned (OpenSpec.ofChange Rows.readTimesSpec) :=
  OpenClaim.holds_of_wide 9 Try.f9 rfl rfl rfl rfl rfl rfl rfl ⟨rfl, rfl, rfl, rfl, rfl⟩ rfl rfl rfl rfl rfl (by kernel_rfl) Try.func9 (by kernel_rfl)
    (of_decide_eq_true (by kernel_rfl)) (by unfold Func.isWrapper; first | (rw [if_pos (by decide +kernel)]; kernel_rfl) | (rw [if_neg (by decide +kernel)]; exact ⟨rfl, rfl⟩))
    (fun os started H enc _ => lifted os started H enc)

theorem proved : Rows.ReadTimesSaid := over
end Go.Proofs.Ytcgphknnnjpbkaa.readTimes
