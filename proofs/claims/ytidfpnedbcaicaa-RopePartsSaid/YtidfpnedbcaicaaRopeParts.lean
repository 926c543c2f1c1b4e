/- A rope of parts is their bytes; any stretch of it is what that has. Condition: none but the law's own. Conditions: none beyond the form's own. -/
import Derived.Test.YtidfpnedbcaicaaRows
import Derived.Test.YtidfpnedbcaicaaArgs
import Derived.Test.YtidfpnedbcaicaaRopY
import Derived.Test.YtidfpnedbcaicaaLong
namespace Go.Proofs.Ytidfpnedbcaicaa.ropeParts
open Go.Proofs.Ytidfpnedbcaicaa
open Go.ChangeShapes Go.WideShapes Go.ChangeAt Go.RowKit Go.Deep
open Go.ChangeMaps (open_string shut_string)
set_option linter.unusedVariables false

theorem own : ownKnob Try.prog.godebug = none := by kernel_rfl
theorem laidOut : laidOutB Try.prog = true := by kernel_rfl
-- opt:8000000
attribute [local go_sem ↓] Go.wp_at_zero Go.wp_at_succ
theorem tot_cat (l : List ByteArray) : (cat l).length = tot l := by
  induction l with
  | nil => rfl
  | cons a l ih =>
    show (a.data.toList ++ cat l).length = _
    rw [List.length_append, ih]
    rfl
theorem cat_app (xs : List ByteArray) (k : Nat) (h : k < xs.length) : cat (xs.take (k + 1)) = cat (xs.take k) ++ xs[k].data.toList := by
  unfold cat
  rw [List.take_succ_eq_append_getElem h, List.flatMap_append]
  simp
theorem longe3_any (w : World) (n : Int) (a : Option Addr) (len cap : Nat) (z : List ByteArray) (r : Bool) (h : IsStrs w a len cap z) (hn : 0 ≤ n) (hn2 : n ≤ 1000000) (hr : longL n (z.take len) = r) :
    Calls Try.prog 28 #[.int .i64 n, .slice a len cap] w fun e w' => e = .returned (.bool r) ∧ w = w' := by
  subst hr; exact long_any w n a len cap z h hn hn2
def PaRel (xs : List ByteArray) (w : World) (s i : Value) (wr : World) : Prop := ∃ (k : Nat) (sv : ByteArray), s = .string sv ∧ i = .int .i64 k ∧ k ≤ xs.length ∧ Hid (sv.data.toList = cat (xs.take k)) ∧ sv.size ≤ 400 ∧ w = wr
theorem strs_bl {w w' : World} {a : Option Addr} {n cap : Nat} {z : List ByteArray} (h : IsStrs w a n cap z) (hb : Below w.heap.size w w') : IsStrs w' a n cap z := by
  rcases h with h | ⟨x, h1, h2, h3, h4, h5, h6⟩
  · exact .inl h
  · exact .inr ⟨x, h1, h2, h3, h4, fun i hi => cell_later hb (h5 i hi), h6⟩
set_option maxRecDepth 100000 in
set_option maxHeartbeats 8000000 in
theorem walk (a0 : Option Addr) (len0 cap0 : Nat) (z0 : List Int) (a1 : Option Addr) (len1 cap1 : Nat) (z1 : List ByteArray) (a2 : Int) (a3 : Int) (w : World) (w0 : IsInts .u32 w a0 len0 cap0 z0) (w1 : IsStrs w a1 len1 cap1 z1) (w2 : (Lit.int .i64 a2).wf = true) (w3 : (Lit.int .i64 a3).wf = true) :
    Calls Try.prog 6 #[.slice a0 len0 cap0, .slice a1 len1 cap1, .int .i64 a2, .int .i64 a3] w fun e w' => e = .returned (.bool true) ∧ Below w.heap.size w w' := by
  by_cases hs : (len0 ≤ 20 ∧ len1 ≤ 12) ∧ longL 400 (z1.take len1) = false
  · obtain ⟨⟨h0, h1⟩, hlg⟩ := hs
    have g0 : decide (20 < (len0 : Int)) = false := decide_eq_false (by omega)
    have g1 : decide (12 < (len1 : Int)) = false := decide_eq_false (by omega)
    have htot := tot_le _ _ (by omega) hlg
    rw [← tot_cat] at htot
    have HLG := hide (longe3_any w 400 a1 len1 cap1 z1 false w1 (by omega) (by omega) hlg)
    have hl1 := strs_len w1
    have hxl : (z1.take len1).length = len1 := by simp; omega
    have hcell : ∀ k (h : k < (z1.take len1).length), ∃ b off, a1 = some ⟨b, off, none⟩ ∧ len1 ≤ cap1 ∧ cap1 ≤ maxLen ∧ w.cell? ⟨b, off + k, none⟩ = some (.string (z1.take len1)[k]) := fun k h => by
      obtain ⟨b, off, e1, e2, e3, e4, e5⟩ := strs_cell w1 (by omega)
      refine ⟨b, off, e1, e3, e4, ?_⟩
      rw [e5 k (by omega)]
      simp [List.getD, show k < z1.length by omega]
    have HC := hide hcell
    have HI := hide w0
    have HS := hide w1
    have HXL := hide hxl
    have HTOT := hide htot
    have hwl := w2
    clear hcell w0 w1 hxl htot hlg hl1
    go_enter Try.func6, Try.ntmps6
    go_wp2_with fail
    refine HLG.out.mono ?_
    rintro e wa ⟨rfl, hwa⟩
    subst hwa
    clear HLG
    go_wp2
    go_loopw [9, 10] (fun s i wr => PaRel (z1.take len1) w s i wr) (fun _ i _ => len1 - (intOf i).toNat)
    case atStart => exact ⟨0, ⟨#[]⟩, rfl, rfl, Nat.zero_le _, hide (by simp [cat]), by decide, rfl⟩
    case round =>
      obtain ⟨k, sv, rfl, rfl, hk, HV, hsv, rfl⟩ := hrel
      rw [HXL.out] at hk
      by_cases hlt : k < len1
      · have hkx : k < (z1.take len1).length := by rw [HXL.out]; exact hlt
        obtain ⟨b, off, rfl, hc1, hc2, hc⟩ := HC.out k hkx
        unfold maxLen at hc2
        have hst : (sv ++ (z1.take len1)[k]).data.toList = cat ((z1.take len1).take (k + 1)) := by rw [app_list, HV.out, ← cat_app _ _ hkx]
        have hle := cat_le (z1.take len1) (k + 1)
        have hz : (sv ++ (z1.take len1)[k]).size ≤ 400 := by rw [size_list, hst]; have := HTOT.out; omega
        have HST := hide hst
        have hz2 : sv.size + ((z1.take len1)[k]).size ≤ 400 := by rw [ByteArray.size_append] at hz; exact hz
        generalize (z1.take len1)[k] = y at *
        clear hst hle hkx
        go_wp2
        refine ⟨?_, by first | (simp [intOf]; done) | (simp [intOf]; omega)⟩
        exact ⟨k + 1, sv ++ y, rfl, by go_num, by rw [HXL.out]; omega, HST, hz, by first | rfl | trivial⟩
      · obtain rfl : k = len1 := by omega
        have hcat : cat (z1.take k) = sv.data.toList := by rw [HV.out, List.take_take, Nat.min_self]
        have HCT := hide hcat
        clear hcat HV HC
        go_wp2_with fail
        refine (rst_dnews (rst_start w) HI.out (by omega)).mono ?_
        rintro e w3 ⟨d, g, rfl, hR, hb3⟩
        have HN := hide (rst_news hR (d := d) (g := g) (by simp) (strs_bl HS.out hb3) (by omega) sv HCT.out (by omega))
        clear hR
        go_wp2_with fail
        refine HN.out.mono ?_
        rintro e w4 ⟨r, t, rfl, _, htx, hR⟩
        have HX := hide htx
        have HT := hide (rst_text hR (r := r) (d := d) (t := t) (by simp) htx (by omega))
        clear htx hR HN
        go_wp2_with fail
        refine HT.out.mono ?_
        rintro e w5 ⟨rfl, _, hR⟩
        have HW := hide (rst_whole hR (r := r) (d := d) (t := t) (by simp) HX.out (by omega))
        clear hR HT
        go_wp2_with fail
        refine HW.out.mono ?_
        rintro e w6 ⟨rfl, _, hR⟩
        have hcr : RpC w6 r d t := hR.rp (r, d, t) (by simp)
        have hat : t.At w6 := (hR.at' (q := (r, d, t)) (by simp)).1
        have HR := hide hR
        clear hR HW
        have hlen := HX.out.len
        by_cases hin : a2 < 0 ∨ a3 < a2 ∨ (sv.size : Int) < a3
        · have hm : mayR a2 a3 (sv.size : Int) = 3 := by unfold mayR; rw [if_pos hin]
          have HSL := hide (slice_bad hcr hat a2 a3 (by rw [hlen]; exact hm))
          have HIN := hide (fun W => inside_any a2 a3 sv.size W)
          rw [hm] at HIN
          clear hm hin hcr hat hlen
          go_wp2_with fail
          refine HSL.out.mono ?_
          rintro e w7 ⟨rfl, rfl⟩
          go_wp2_with fail
          refine (HIN.out _).mono ?_
          rintro e w7 ⟨rfl, rfl⟩
          go_wp2_with fail
          refine (new_nodice _ _ ⟨_, _, _, rfl⟩).mono ?_
          rintro e w7 ⟨rfl, rfl⟩
          go_wp2_with fail
          refine (HIN.out _).mono ?_
          rintro e w7 ⟨rfl, rfl⟩
          go_wp2_with fail
          refine (awake3_any _).mono ?_
          rintro e w8 ⟨rfl, hb8⟩
          have hb := bl_trans HR.out.bel hb8
          go_wp2
          go_ret
          exact ⟨rfl, hb⟩
        · have hm : mayR a2 a3 (sv.size : Int) = 0 := by unfold mayR; rw [if_neg hin]
          obtain ⟨p, rfl⟩ : ∃ p : Nat, a2 = p := ⟨a2.toNat, by omega⟩
          obtain ⟨q, rfl⟩ : ∃ q : Nat, a3 = q := ⟨a3.toNat, by omega⟩
          have HSL := hide (slice_r hcr hat (by omega) p q (by omega) (by rw [hlen]; omega))
          rw [show strOf (cutL t.text p q) = sv.extract p q from str_ext (by rw [strOf_list, HX.out, exs_cut _ _ _ (by omega)])] at HSL
          have HIN := hide (fun W => inside_any p q sv.size W)
          rw [hm] at HIN
          have hpq : p ≤ q := by omega
          have hqs : q ≤ sv.size := by omega
          clear hm hin hcr hat hlen
          go_wp2_with fail
          refine HSL.out.mono ?_
          rintro e w7 ⟨rfl, hb7⟩
          go_wp2_with fail
          refine (HIN.out _).mono ?_
          rintro e w8 ⟨rfl, hw8⟩
          go_wp2_with fail
          refine (new_nodice _ _ ⟨_, _, _, rfl⟩).mono ?_
          rintro e w9 ⟨rfl, hw9⟩
          go_wp2_with fail
          refine (HIN.out _).mono ?_
          rintro e w10 ⟨rfl, hw10⟩
          go_wp2_with fail
          refine (awake3_any _).mono ?_
          rintro e w11 ⟨rfl, hb11⟩
          subst hw10 hw9 hw8
          have hb := bl_trans (bl_trans HR.out.bel hb7) hb11
          go_wp2
          go_ret
          exact ⟨rfl, hb⟩
  · by_cases h0 : len0 ≤ 20
    · have g0 : decide (20 < (len0 : Int)) = false := decide_eq_false (by omega)
      by_cases h1 : len1 ≤ 12
      · have g1 : decide (12 < (len1 : Int)) = false := decide_eq_false (by omega)
        have hlg : longL 400 (z1.take len1) = true := by
          cases h : longL 400 (z1.take len1)
          · exact absurd ⟨⟨h0, h1⟩, h⟩ hs
          · rfl
        have HLG := hide (longe3_any w 400 a1 len1 cap1 z1 true w1 (by omega) (by omega) hlg)
        clear hlg hs w0 w1
        go_enter Try.func6, Try.ntmps6
        go_wp2_with fail
        refine HLG.out.mono ?_
        rintro e wa ⟨rfl, hwa⟩
        subst hwa
        go_wp2_with fail
        refine (awake3_any _).mono ?_
        rintro e w13 ⟨rfl, hb9⟩
        go_wp2
        go_ret
        exact ⟨rfl, hb9⟩
      · have g1 : decide (12 < (len1 : Int)) = true := decide_eq_true (by omega)
        clear hs w0 w1
        go_enter Try.func6, Try.ntmps6
        go_wp2_with fail
        refine (awake3_any _).mono ?_
        rintro e w13 ⟨rfl, hb9⟩
        go_wp2
        go_ret
        exact ⟨rfl, hb9⟩
    · have g0 : decide (20 < (len0 : Int)) = true := decide_eq_true (by omega)
      clear hs w0 w1
      go_enter Try.func6, Try.ntmps6
      go_wp2_with fail
      refine (awake3_any _).mono ?_
      rintro e w13 ⟨rfl, hb9⟩
      go_wp2
      go_ret
      exact ⟨rfl, hb9⟩

set_option maxRecDepth 100000 in
theorem lifted (os : Os) (started : os.Started) (H : Type) (enc : TypeId × Value → H) :
    ReturnsInHanded {} Try.checked os 6 .any (Rows.ropePartsSpec.pre6 enc Try.prog Try.f6 Rows.ropePartsRow.domain false) (Rows.ropePartsSpec.post enc Try.prog Try.f6 false true false false) := by
  refine returnsInHanded_of_change (C := Try.checked) own started (by kernel_rfl) Try.func6
    (ChangeSpec.witness6 (enc := enc) (C := Try.checked) false ⟨#[], #[.slice none 0 0, .slice none 0 0, .int .i64 0, .int .i64 0], []⟩ 8 (by kernel_rfl) (by kernel_rfl) (by kernel_rfl) (by kernel_rfl)) ?_
  intro W base args ds gs before hval0 hW hcnd _
  have hval : ∀ (j : Nat) t v, Try.f6.params[j]? = some t → args[j]? = some v → Value.okWide Try.prog W .any base t v := hval0
  have hW' := hW
  obtain ⟨p, q, hA0, hV, rfl, hfz, hnd⟩ := hW
  have hA : DataW.TrodAll enc Try.prog W 0 (fun _ => true) true Try.f6.params.toList args.toList ds p := hA0
  rw [Try.params6] at hA hval
  obtain ⟨v0, vs0, d0, ds0, p0, q0, hargs, rfl, rfl, h0, r0⟩ := trodAll_cons hA
  obtain ⟨v1, vs1, d1, ds1, p1, q1, rfl, rfl, rfl, h1, r1⟩ := trodAll_cons r0
  obtain ⟨v2, vs2, d2, ds2, p2, q2, rfl, rfl, rfl, h2, r2⟩ := trodAll_cons r1
  obtain ⟨v3, vs3, d3, ds3, p3, q3, rfl, rfl, rfl, h3, r3⟩ := trodAll_cons r2
  obtain ⟨rfl, rfl, rfl⟩ := trodAll_nil r3
  obtain rfl : args = #[v0, v1, v2, v3] := by cases args; simp_all
  obtain ⟨rfl, rfl⟩ := trodVars_none hV
  have k0 := h0
  have lt0 : ∀ x ∈ p0, x.block < W.heap.size := by obtain ⟨m, hm⟩ := k0; exact DataW.trod_lt m _ _ _ hm
  obtain ⟨a0, len0, cap0, rfl⟩ := okWide_slice Try.underlying22 (hval 0 22 v0 rfl rfl)
  obtain ⟨z0, w0⟩ : ∃ zs, IsInts .u32 W a0 len0 cap0 zs := by
    obtain ⟨fuel, hf⟩ := h0
    rcases open_ints Try.underlying22 Try.underlying54 (by kernel_rfl) hf with ⟨hcs, _⟩ | ⟨x, l, c, zs, hcs, _, hl, hm, hz, _, hcell, hwz⟩
    · simp [Value.cells] at hcs
      obtain ⟨rfl, rfl, rfl⟩ := hcs
      exact ⟨[], .inl ⟨rfl, rfl, rfl, rfl⟩⟩
    · simp [Value.cells] at hcs
      obtain ⟨rfl, rfl, rfl⟩ := hcs
      exact ⟨zs, .inr ⟨_, rfl, hl, hm, by simpa using hz, hcell, hwz⟩⟩
  have k1 := h1
  have lt1 : ∀ x ∈ p1, x.block < W.heap.size := by obtain ⟨m, hm⟩ := k1; exact DataW.trod_lt m _ _ _ hm
  obtain ⟨a1, len1, cap1, rfl⟩ := okWide_slice Try.underlying50 (hval 1 50 v1 rfl rfl)
  obtain ⟨z1, w1⟩ : ∃ zs, IsStrs W a1 len1 cap1 zs := by
    obtain ⟨fuel, hf⟩ := h1
    rcases open_strings Try.underlying50 Try.underlying9 (by kernel_rfl) hf with ⟨hcs, _⟩ | ⟨x, l, c, zs, hcs, _, hl, hm, hz, _, hcell, hwz⟩
    · simp [Value.cells] at hcs
      obtain ⟨rfl, rfl, rfl⟩ := hcs
      exact ⟨[], .inl ⟨rfl, rfl, rfl, rfl⟩⟩
    · simp [Value.cells] at hcs
      obtain ⟨rfl, rfl, rfl⟩ := hcs
      exact ⟨zs, .inr ⟨_, rfl, hl, hm, by simpa using hz, hcell, hwz⟩⟩
  have k2 := h2
  have lt2 : ∀ x ∈ p2, x.block < W.heap.size := by obtain ⟨m, hm⟩ := k2; exact DataW.trod_lt m _ _ _ hm
  obtain ⟨a2, rfl, hd2, hp2, w2⟩ := open_int Try.underlying3 (hval 2 3 v2 rfl rfl) h2
  have k3 := h3
  have lt3 : ∀ x ∈ p3, x.block < W.heap.size := by obtain ⟨m, hm⟩ := k3; exact DataW.trod_lt m _ _ _ hm
  obtain ⟨a3, rfl, hd3, hp3, w3⟩ := open_int Try.underlying3 (hval 3 3 v3 rfl rfl) h3
  clear hA0 hval0
  refine (walk a0 len0 cap0 z0 a1 len1 cap1 z1 a2 a3 W w0 w1 w2 w3).mono fun e W' ⟨he, bel⟩ => ?_
  subst he
  exact ⟨_, rfl, _, _, _, [], _, [], hW', trodAll_mk1 (shut_bool Try.underlying4 _), (trodAll_cons_mk (Below.trod laidOut (by kernel_rfl) (of_decide_eq_true (by kernel_rfl)) k0 bel lt0) (trodAll_cons_mk (Below.trod laidOut (by kernel_rfl) (of_decide_eq_true (by kernel_rfl)) k1 bel lt1) (trodAll_cons_mk (Below.trod laidOut (by kernel_rfl) (of_decide_eq_true (by kernel_rfl)) k2 bel lt2) (trodAll_cons_mk (Below.trod laidOut (by kernel_rfl) (of_decide_eq_true (by kernel_rfl)) k3 bel lt3) trodAll_mk0)))), rfl, bel.frame _, fun h => by cases h⟩

theorem over : Rows.ropePartsRow.holds Try.pinned (OpenSpec.ofChange Rows.ropePartsSpec) :=
  OpenClaim.holds_of_wide 6 Try.f6 rfl rfl rfl rfl rfl rfl rfl ⟨rfl, rfl, rfl, rfl, rfl⟩ rfl rfl rfl rfl rfl (by kernel_rfl) Try.func6 (by kernel_rfl)
    (of_decide_eq_true (by kernel_rfl)) (by unfold Func.isWrapper; first | (rw [if_pos (by decide +kernel)]; kernel_rfl) | (rw [if_neg (by decide +kernel)]; exact ⟨rfl, rfl⟩))
    (fun os started H enc _ => lifted os started H enc)

theorem proved : Rows.RopePartsSaid := over
end Go.Proofs.Ytidfpnedbcaicaa.ropeParts
