/- Contract: what a format is told as (fmts.Show). Condition: the library's table of powers as the program's text lays it; a format that is not too long. -/
import Derived.Test.YtbphckblbbbakaaDoorShoA
import Derived.Test.YtbphckblbbbakaaDoorItoa
namespace Go.Proofs.YtbphckblbbbakaaDoor
open Go.ChangeShapes Go.WideShapes Go.ChangeAt Go.RowKit
open Go.Lib (decDigits)
attribute [local go_sem ↓] Go.wp_at_zero Go.wp_at_succ
set_option maxRecDepth 100000
set_option linter.unusedVariables false
theorem dec_dec (n : Nat) (h : n ≤ 9999) : decF n = decDigits n := by
  have st : ∀ u, 10 ≤ u → decDigits u = decDigits (u / 10) ++ [UInt8.ofNat (48 + u % 10)] := fun u hu => by rw [dec_pre]; unfold preD; rw [if_neg (by omega)]
  have s0 : ∀ u, u < 10 → decDigits u = [UInt8.ofNat (48 + u)] := fun u hu => by rw [dec_pre]; unfold preD; rw [if_pos hu, show u % 10 = u by omega]; rfl
  unfold decF dgB
  split
  · rw [s0 n (by omega)]
  split
  · rw [st n (by omega), s0 _ (by omega)]; rfl
  split
  · rw [st n (by omega), st (n / 10) (by omega), s0 _ (by omega), show n / 10 / 10 = n / 100 by omega]; rfl
  · rw [st n (by omega), st (n / 10) (by omega), st (n / 10 / 10) (by omega), s0 _ (by omega), show n / 10 / 10 / 10 = n / 1000 by omega, show n / 10 / 10 = n / 100 by omega]; rfl
theorem nm_le (c : Int) : (mkB (nmL c)).size ≤ 100 := by
  rw [size_mk]; unfold nmL
  repeat (split; · decide)
  decide
theorem shL_snoc (l : List Fm) (k : Nat) (h : k < l.length) : shL (l.take (k + 1)) = shL (l.take k) ++ shF l[k] := by
  unfold shL
  rw [List.take_succ_eq_append_getElem h, List.flatMap_append]; simp
theorem dec_le (n : Nat) (h : n ≤ 9999) : (decF n).length ≤ 4 := by
  unfold decF
  split
  · simp
  split
  · simp
  split <;> simp
theorem ins_le (d : Fm) (n : Nat) (h1 : d.th.size ≤ n) (h2 : d.el.size ≤ n) : (insF d).length ≤ 4 * n + 20 := by
  have a := guard_len inB (bytesOf d.th)
  have b := guard_len inB (bytesOf d.el)
  have c := nm_le d.c
  rw [size_mk] at c
  have e1 : (bytesOf d.th).length = d.th.size := Array.length_toList
  have e2 : (bytesOf d.el).length = d.el.size := Array.length_toList
  have c2 : (nmL d.c).length ≤ 10 := by
    unfold nmL
    repeat (split; · decide)
    decide
  unfold insF
  split
  · simp; omega
  split
  · simp; omega
  split
  · simp; omega
  split
  · simp; omega
  · simp
theorem shF_le (d : Fm) (n : Nat) (h : d.n ≤ 9999) (h1 : d.th.size ≤ n) (h2 : d.el.size ≤ n) : (shF d).length ≤ 4 * n + 30 := by
  unfold shF
  split
  · have a := guard_len inT (bytesOf d.th)
    have e1 : (bytesOf d.th).length = d.th.size := Array.length_toList
    omega
  · have := ins_le d n h1 h2
    have := dec_le d.n.toNat (by omega)
    simp; omega
theorem may_in {l : List Fm} (h : mayL l = true) (k : Nat) (hk : k < l.length) : mayF l[k] = true := by
  have := List.all_eq_true.1 h k (List.mem_range.2 hk)
  unfold okF at this
  rw [getElem!_pos l k hk, Bool.and_eq_true] at this
  exact this.1
def ShPost (w : World) (l : List Fm) (e : Ending) (w' : World) : Prop := e = .returned (.tuple #[.string (if mayL l = true then mkB (shL l) else ⟨#[]⟩), .int .i64 (if mayL l = true then 0 else 10)]) ∧ Below w.heap.size w w'
set_option maxHeartbeats 8000000 in
theorem show_any (v : Value) (l : List Fm) (w : World) (h : FmAt w v l) (hl : l.length ≤ 1000) (hz : SzL 1000 l) (hT : Go.Lib.TabIs Tryd.prog w "internal/strconv.uint64pow10" .u64 Go.Lib.pow10Tab) : Calls Tryd.prog 9 #[v] w (ShPost w l) := by
  obtain ⟨vA, vc, rfl⟩ := fmat_len h
  have H := hide h
  have HM := hide (fmayL_any _ l w h hl)
  have HIT := hide (fun i hi W hb => it_any hT i hi W hb)
  clear h hT
  unfold ShPost
  rcases hm : mayL l with _ | _
  · rw [hm] at HM
    rw [if_neg (by simp), if_neg (by simp)]
    go_enter Tryd.func9, Tryd.ntmps9
    go_wp2_with fail
    refine HM.out.mono ?_
    rintro e w1 ⟨rfl, hb1⟩
    go_wp2
    go_ret2
    exact ⟨rfl, hb1⟩
  rw [hm] at HM
  rw [if_pos rfl, if_pos rfl]
  have HN := hide (fun k hk => may_in hm k hk)
  have HSZ := hide hz
  clear hm hz
  go_enter Tryd.func9, Tryd.ntmps9
  go_wp2_with fail
  refine HM.out.mono ?_
  rintro e w1 ⟨rfl, hb1⟩
  have h0 := Lib.fresh_isBuilder 45 5 w1
  have HB1 := hide hb1
  clear hb1 HM
  go_wp2
  go_loopw [12] (fun i wr => ∃ (k : Nat) (out : List UInt8), i = .int .i64 k ∧ k ≤ l.length ∧ out.length ≤ 5000 * k ∧ Hid (shL (l.take k) = out) ∧ Lib.IsBuilder 45 5 w1.heap.size w1.heap.size (Lib.byteCells out) wr ∧ Hid (Below w1.heap.size w1 wr)) (fun i _ => l.length - (intOf i).toNat)
  case atStart => exact ⟨0, [], rfl, Nat.zero_le _, Nat.le_refl _, hide rfl, h0, hide (bl_alloc (bl_refl w1) _)⟩
  case round =>
    clear h0
    obtain ⟨k, out, rfl, hk, ho, HJ, hB, HBL⟩ := hrel
    by_cases hlt : k < l.length
    · obtain ⟨b1, o1, c1, hv1, hc1, hm1, hlb1, hcell⟩ := fmat_some (fmat_below (fmat_below H.out HB1.out) HBL.out) (by omega)
      injection hv1 with hv1 _ hv1c
      subst hv1 hv1c
      unfold maxLen at hm1
      obtain ⟨x0, x1, x2, x3, x4⟩ := hcell k hlt
      have hn0 := HN.out k hlt
      have hsn := shL_snoc l k hlt
      obtain ⟨hz1, hz2⟩ := HSZ.out l[k] (List.getElem_mem hlt)
      clear hcell
      obtain ⟨d, hd⟩ : ∃ d, l[k] = d := ⟨_, rfl⟩
      rw [hd] at x0 x1 x2 x3 x4 hn0 hsn hz1 hz2
      rw [HJ.out] at hsn
      have hn9 := may_n9 hn0
      have hle := shF_le d 1000 hn9.2 hz1 hz2
      have HINS := hide (fun X hX W => inside_any d X hX W (by omega) (by omega) (nm_le _))
      unfold agF at HINS
      have hsF : shF d = if d.k = 0 then guardF inT (bytesOf d.th) else [36, 123] ++ decF d.n.toNat ++ insF d ++ [125] := rfl
      have hil := ins_le d 1000 hz1 hz2
      obtain ⟨dk, dn, dc, dt, de⟩ := d
      dsimp only at x0 x1 x2 x3 x4 hn9 hz1 hz2 HINS hsF
      have gl : decide ((k : Int) < (l.length : Int)) = true := decide_eq_true (by omega)
      have gl' : decide (k < l.length) = true := decide_eq_true hlt
      have e5 : IntKind.i64.wrap ((k : Int) + 1) = (k : Int) + 1 := by rw [IntKind.wrap_i64]; omega
      have hba := bl_alloc (bl_refl wr) (.cells #[.int .i64 dk, .int .i64 dn, .int .i64 dc, .string dt, .string de] 41)
      clear hd hn0
      by_cases h0 : dk = 0
      · rw [if_pos h0] at hsF
        have z0 : (dk == 0) = true := beq_iff_eq.2 h0
        obtain ⟨X, hX⟩ : ∃ X, mkB (guardF inT (bytesOf dt)) = X := ⟨_, rfl⟩
        have HMK := hide (fun W => mark_any dt ⟨#[36, 125, 92, 47]⟩ inT rfl X hX W (by omega))
        have hxl : X.data.toList = guardF inT (bytesOf dt) := by rw [← hX]; rfl
        have hxz : X.size ≤ 4030 := by rw [← hX, size_mk, ← hsF]; omega
        rw [hsF, ← hxl] at hsn
        have HJ2 := hide hsn
        have HLN := hide (show (out ++ X.data.toList).length ≤ 5000 * (k + 1) by rw [List.length_append, len_data]; omega)
        clear hsn hsF hX hxl h0 HINS hle hil
        go_wp2_with fail
        refine (HMK.out _).mono ?_
        rintro e w2 ⟨rfl, hb2⟩
        have hbw := bl_trans HBL.out (bl_trans hba hb2)
        have hB2 := isb_below hB (bl_trans hba hb2)
        clear hba hb2 hB x0 x1 x2 x3 x4
        go_wp2_with fail
        refine (bl_str _ _ _ X _ hB2 (by rw [byteCells_len]; omega) hbw.size).mono ?_
        rintro e w3 ⟨rfl, hB3, hb3⟩
        rw [← byteCells_str] at hB3
        have HB4 := hide (hbw.trans hb3)
        clear hbw hb3 hB2
        go_wp2
        refine ⟨?_, by first | (simp [intOf]; done) | (simp [intOf]; omega)⟩
        first
          | exact ⟨k + 1, out ++ X.data.toList, by go_num, by omega, HLN, HJ2, .inr hB3, HB4⟩
          | ((repeat apply Exists.intro); exact ⟨⟨k + 1, out ++ X.data.toList, by go_num, by omega, HLN, HJ2, .inr hB3, HB4⟩, rfl⟩)
      · rw [if_neg h0] at hsF
        have z0 : (dk == 0) = false := beq_eq_false_iff_ne.2 h0
        obtain ⟨m, rfl⟩ : ∃ m : Nat, dn = m := ⟨dn.toNat, by omega⟩
        have hm9 : m ≤ 9999 := by omega
        obtain ⟨X, hX⟩ : ∃ X, mkB (insF ⟨dk, m, dc, dt, de⟩) = X := ⟨_, rfl⟩
        have HIN := hide (HINS.out X hX)
        have hxz : X.size ≤ 4020 := by rw [← hX, size_mk]; omega
        obtain ⟨I, hI⟩ : ∃ I, itoaS m = I := ⟨_, rfl⟩
        have HITO := hide (fun W hb => HIT.out m (by omega) W hb)
        rw [hI] at HITO
        have hiz : I.size ≤ 6 := by rw [← hI]; exact itoa_size m (by omega)
        have hcat : ((⟨#[36, 123]⟩ : ByteArray) ++ I ++ X ++ (⟨#[125]⟩ : ByteArray)).data.toList = shF ⟨dk, m, dc, dt, de⟩ := by
          rw [hsF, Int.toNat_natCast, dec_dec m hm9, ← hX, ← hI]
          rw [ByteArray.toList_data_append, ByteArray.toList_data_append, ByteArray.toList_data_append]
          simp only [itoaS, mkB, List.toList_toArray]
        have hc1z : ((⟨#[36, 123]⟩ : ByteArray) ++ I).size = 2 + I.size := ByteArray.size_append
        have hc2z : ((⟨#[36, 123]⟩ : ByteArray) ++ I ++ X).size = 2 + I.size + X.size := by rw [ByteArray.size_append, hc1z]
        have hc3z : ((⟨#[36, 123]⟩ : ByteArray) ++ I ++ X ++ (⟨#[125]⟩ : ByteArray)).size = 2 + I.size + X.size + 1 := by rw [ByteArray.size_append, hc2z]; rfl
        rw [← hcat] at hsn
        have HJ2 := hide hsn
        have A1 : (⟨#[36, 123]⟩ : ByteArray).size = 2 := rfl
        have HLN := hide (show (out ++ ((⟨#[36, 123]⟩ : ByteArray) ++ I ++ X ++ (⟨#[125]⟩ : ByteArray)).data.toList).length ≤ 5000 * (k + 1) by rw [List.length_append, len_data]; omega)
        have hbw := bl_drew hba
        have f0 : (wr.alloc (.cells #[.int .i64 dk, .int .i64 m, .int .i64 dc, .string dt, .string de] 41)).drew.cell? ⟨wr.heap.size, 0, none⟩ = some (.int .i64 dk) := cells_lit wr _ _ 0 _ rfl
        have f1 : (wr.alloc (.cells #[.int .i64 dk, .int .i64 m, .int .i64 dc, .string dt, .string de] 41)).drew.cell? ⟨wr.heap.size, 1, none⟩ = some (.int .i64 m) := cells_lit wr _ _ 1 _ rfl
        have f2 : (wr.alloc (.cells #[.int .i64 dk, .int .i64 m, .int .i64 dc, .string dt, .string de] 41)).drew.cell? ⟨wr.heap.size, 2, none⟩ = some (.int .i64 dc) := cells_lit wr _ _ 2 _ rfl
        have f3 : (wr.alloc (.cells #[.int .i64 dk, .int .i64 m, .int .i64 dc, .string dt, .string de] 41)).drew.cell? ⟨wr.heap.size, 3, none⟩ = some (.string dt) := cells_lit wr _ _ 3 _ rfl
        have f4 : (wr.alloc (.cells #[.int .i64 dk, .int .i64 m, .int .i64 dc, .string dt, .string de] 41)).drew.cell? ⟨wr.heap.size, 4, none⟩ = some (.string de) := cells_lit wr _ _ 4 _ rfl
        clear hsn hsF hX hI hcat h0 HINS hle hil
        have HBW0 := hide (bl_trans HB1.out HBL.out)
        go_wp2
        go_region_with (first
          | (go_at_call 20; refine (HITO.out _ (bl_trans HBW0.out hbw)).mono ?_; rintro e wA ⟨rfl, hbA⟩; have f0 := cell_later hbA f0; have f1 := cell_later hbA f1; have f2 := cell_later hbA f2; have f3 := cell_later hbA f3; have f4 := cell_later hbA f4; have hbw := bl_trans hbw hbA)
          | (go_at_call 21; refine (HIN.out _).mono ?_; rintro e wB ⟨rfl, hbB⟩; have f0 := cell_later hbB f0; have f1 := cell_later hbB f1; have f2 := cell_later hbB f2; have f3 := cell_later hbB f3; have f4 := cell_later hbB f4; have hbw := bl_trans hbw hbB)
          | (go_at_call 18; refine (bl_str _ _ _ _ _ (isb_below hB hbw) (by rw [byteCells_len]; omega) (bl_trans HBL.out hbw).size).mono ?_; rintro e wC ⟨rfl, hB3, hb3⟩))
        all_goals
          rw [← byteCells_str] at hB3
          have HB4 := hide ((bl_trans HBL.out hbw).trans hb3)
          clear hb3 hB f0 f1 f2 f3 f4
          go_wp2
          refine ⟨?_, by first | (simp [intOf]; done) | (simp [intOf]; omega)⟩
          first
            | exact ⟨k + 1, _, by go_num, by omega, HLN, HJ2, .inr hB3, HB4⟩
            | ((repeat apply Exists.intro); exact ⟨⟨k + 1, _, by go_num, by omega, HLN, HJ2, .inr hB3, HB4⟩, rfl⟩)
    · obtain rfl : k = l.length := by omega
      have hj := HJ.out
      rw [List.take_length] at hj
      have HE := hide hj
      have gl : decide ((l.length : Int) < (l.length : Int)) = false := by simp
      have gl' : decide (l.length < l.length) = false := by simp
      clear hj HJ hlt
      go_wp2_with fail
      refine (bl_string _ _ _ _ hB HBL.out.size).mono ?_
      rintro e w2 ⟨rfl, hb2⟩
      have HB5 := hide (bl_trans HB1.out (HBL.out.trans hb2))
      clear hb2
      go_wp2
      go_ret2
      exact ⟨by rw [HE.out]; rfl, HB5.out⟩
end Go.Proofs.YtbphckblbbbakaaDoor
