/- Contracts: a text with backslashes (spot.Mark), what stands behind a part's number (fmts.inside). Condition: texts that are not too long. -/
import Derived.Test.YtbphckblbbbakaaDoorFmY
namespace Go.Proofs.YtbphckblbbbakaaDoor
open Go.ChangeShapes Go.WideShapes Go.ChangeAt Go.RowKit
attribute [local go_sem ↓] Go.wp_at_zero Go.wp_at_succ
set_option maxRecDepth 100000
set_option linter.unusedVariables false
theorem guard_snoc (of l : List UInt8) (c : UInt8) : guardF of (l ++ [c]) = guardF of l ++ (if c ∈ of then [92, c] else [c]) := by
  induction l with
  | nil => rfl
  | cons d l ih => rw [List.cons_append, guardF, guardF, ih]; split <;> rfl
theorem take_snoc' (s : ByteArray) (k : Nat) (h : k < s.size) : s.data.toList.take (k + 1) = s.data.toList.take k ++ [s[k]] := by
  rw [List.take_succ_eq_append_getElem (by simpa using h)]; rfl
set_option maxHeartbeats 4000000 in
theorem mark_any (s E : ByteArray) (El : List UInt8) (hE : E.data.toList = El) (X : ByteArray) (hX : mkB (guardF El s.data.toList) = X) (w : World) (hs : s.size ≤ 1000000) : Calls Tryd.prog 19 #[.string s, .string E] w fun e w' => e = .returned (.string X) ∧ Below w.heap.size w w' := by
  have HE := hide hE
  have HX := hide hX
  clear hE hX
  go_enter Tryd.func19, Tryd.ntmps19
  go_wp2
  have h0 := Lib.fresh_isBuilder 45 5 w
  go_loopw [9] (fun i wr => ∃ (k : Nat) (out : List UInt8), i = .int .i64 k ∧ k ≤ s.size ∧ out.length ≤ 2 * k ∧ Hid (guardF El (s.data.toList.take k) = out) ∧ Lib.IsBuilder 45 5 w.heap.size w.heap.size (Lib.byteCells out) wr ∧ Hid (Below w.heap.size w wr)) (fun i _ => s.size - (intOf i).toNat)
  case atStart => exact ⟨0, [], rfl, Nat.zero_le _, Nat.zero_le _, hide rfl, h0, hide (bl_alloc (bl_refl w) _)⟩
  case round =>
    clear h0
    obtain ⟨k, out, rfl, hk, ho, HJ, hB, HBL⟩ := hrel
    have hh := HBL.out.size
    by_cases hlt : k < s.size
    · have hsn := guard_snoc El (s.data.toList.take k) s[k]
      rw [← take_snoc' s k hlt, HJ.out] at hsn
      obtain ⟨m, hm⟩ : ∃ m, E.data.toList.contains s[k] = m := ⟨_, rfl⟩
      have hmm : m = true ↔ s[k] ∈ El := by rw [← hm, HE.out]; simp
      obtain ⟨i, hi, hic⟩ := idx_any E _ s[k] rfl m hm
      obtain ⟨c, hc⟩ : ∃ c, s[k] = c := ⟨_, rfl⟩
      rw [hc] at hsn hic hmm
      have hsc : (s[k].toNat : Int) = c.toNat := by rw [hc]
      have HI := hide hic
      have gl : decide ((k : Int) < (s.size : Int)) = true := decide_eq_true (by omega)
      have gl' : decide (k < s.size) = true := decide_eq_true hlt
      have e5 : IntKind.i64.wrap ((k : Int) + 1) = (k : Int) + 1 := by rw [IntKind.wrap_i64]; omega
      have i1 : (0 : Int) ≤ (k : Int) := by omega
      have i2 : (k : Int) < (s.size : Int) := by omega
      clear hm hic hc
      cases m
      · rw [if_neg (fun q => by cases hmm.2 q)] at hsn
        have HJ2 := hide hsn
        have HLN := hide (show k + 1 ≤ s.size ∧ (out ++ [c]).length ≤ 2 * (k + 1) by simp; omega)
        clear hsn hmm HJ
        go_wp2_with fail
        refine (HI.out _).mono ?_
        rintro e w1 ⟨rfl, rfl⟩
        go_wp2_with fail
        refine (bl_byte _ _ _ _ _ hB (by rw [byteCells_len]; omega) hh).mono ?_
        rintro e w2 ⟨rfl, hB2, hb2⟩
        rw [← byteCells_one] at hB2
        have HB2 := hide (HBL.out.trans hb2)
        clear hb2 hB
        go_wp2
        refine ⟨?_, by first | (simp [intOf]; done) | (simp [intOf]; omega)⟩
        first
          | exact ⟨k + 1, out ++ [c], by go_num, HLN.out.1, HLN.out.2, HJ2, .inr hB2, HB2⟩
          | ((repeat apply Exists.intro); exact ⟨⟨k + 1, out ++ [c], by go_num, HLN.out.1, HLN.out.2, HJ2, .inr hB2, HB2⟩, rfl⟩)
      · rw [if_pos (hmm.1 rfl)] at hsn
        have HJ2 := hide (show guardF El (s.data.toList.take (k + 1)) = out ++ [92] ++ [c] by rw [hsn, List.append_assoc]; rfl)
        have HLN := hide (show k + 1 ≤ s.size ∧ (out ++ [92] ++ [c]).length ≤ 2 * (k + 1) by simp; omega)
        clear hsn hmm HJ
        go_wp2_with fail
        refine (HI.out _).mono ?_
        rintro e w1 ⟨rfl, rfl⟩
        go_wp2_with fail
        refine (bl_byte _ _ _ _ _ hB (by rw [byteCells_len]; omega) hh).mono ?_
        rintro e w2 ⟨rfl, hB2, hb2⟩
        replace hB2 : Lib.BuilderAt 45 5 w.heap.size w.heap.size (.pointer (some ⟨w.heap.size, 0, none⟩)) (Lib.byteCells (out ++ [92])) w2 := by rw [byteCells_one]; exact hB2
        have HB2 := hide (HBL.out.trans hb2)
        clear hb2 hB
        go_wp2_with fail
        refine (bl_byte _ _ _ _ _ (.inr hB2) (by rw [byteCells_len]; simp; omega) HB2.out.size).mono ?_
        rintro e w3 ⟨rfl, hB3, hb3⟩
        rw [← byteCells_one] at hB3
        have HB3 := hide (HB2.out.trans hb3)
        clear hb3 hB2
        go_wp2
        refine ⟨?_, by first | (simp [intOf]; done) | (simp [intOf]; omega)⟩
        first
          | exact ⟨k + 1, out ++ [92] ++ [c], by go_num, HLN.out.1, HLN.out.2, HJ2, .inr hB3, HB3⟩
          | ((repeat apply Exists.intro); exact ⟨⟨k + 1, out ++ [92] ++ [c], by go_num, HLN.out.1, HLN.out.2, HJ2, .inr hB3, HB3⟩, rfl⟩)
    · obtain rfl : k = s.size := by omega
      have gl : decide ((s.size : Int) < (s.size : Int)) = false := by simp
      have gl' : decide (s.size < s.size) = false := by simp
      have hj := HJ.out
      rw [List.take_of_length_le (by simp)] at hj
      have HO := hide (show (⟨out.toArray⟩ : ByteArray) = X by rw [← HX.out, hj]; rfl)
      clear hj hlt
      go_wp2_with fail
      refine (bl_string _ _ _ _ hB hh).mono ?_
      rintro e w2 ⟨rfl, hb2⟩
      have HB2 := hide (HBL.out.trans hb2)
      rw [HO.out]
      clear hb2
      go_wp2
      go_ret
      exact ⟨rfl, HB2.out⟩
theorem mk_app (l m : List UInt8) : mkB l ++ mkB m = mkB (l ++ m) := by
  apply ByteArray.ext; apply Array.ext'; rw [ByteArray.toList_data_append]; simp [mkB]
attribute [local go_sem] later_cell later_frozen
set_option maxHeartbeats 4000000 in
theorem inside_any (d : Fm) (X : ByteArray) (hX : mkB (insF d) = X) (w : World) (ht : d.th.size ≤ 100000) (he : d.el.size ≤ 100000) (hn : (mkB (nmL d.c)).size ≤ 100) : Calls Tryd.prog 21 #[agF d] w fun e w' => e = .returned (.string X) ∧ Below w.heap.size w w' := by
  obtain ⟨k, n, c, th, el⟩ := d
  unfold agF
  unfold insF at hX
  dsimp only at hX ht he hn ⊢
  have hb := bl_alloc (bl_refl w) (.cells #[.int .i64 k, .int .i64 n, .int .i64 c, .string th, .string el] 41)
  obtain ⟨T, hT⟩ : ∃ T, mkB (guardF inB (bytesOf th)) = T := ⟨_, rfl⟩
  obtain ⟨U, hU⟩ : ∃ U, mkB (guardF inB (bytesOf el)) = U := ⟨_, rfl⟩
  obtain ⟨N, hN⟩ : ∃ N, mkB (nmL c) = N := ⟨_, rfl⟩
  have HT := hide (fun W => mark_any th ⟨#[36, 125, 92, 47, 58]⟩ inB rfl T hT W (by omega))
  have HU := hide (fun W => mark_any el ⟨#[36, 125, 92, 47, 58]⟩ inB rfl U hU W (by omega))
  have HN := hide (fun W => name_any c W)
  rw [show (⟨(nmL c).toArray⟩ : ByteArray) = N from hN] at HN
  have tz : T.size ≤ 200000 := by
    rw [← hT, size_mk]
    have := guard_len inB (bytesOf th)
    have h2 : (bytesOf th).length = th.size := Array.length_toList
    omega
  have uz : U.size ≤ 200000 := by
    rw [← hU, size_mk]
    have := guard_len inB (bytesOf el)
    have h2 : (bytesOf el).length = el.size := Array.length_toList
    omega
  rw [hN] at hn
  have hX2 : X = if k = 2 then (⟨#[58, 47]⟩ : ByteArray) ++ N else if k = 3 then (⟨#[58, 43]⟩ : ByteArray) ++ T else if k = 5 then (⟨#[58, 63]⟩ : ByteArray) ++ T ++ (⟨#[58]⟩ : ByteArray) ++ U else if k = 4 then (⟨#[58, 45]⟩ : ByteArray) ++ U else ⟨#[]⟩ := by
    rw [← hX, ← hT, ← hU, ← hN]
    split
    · rw [← mk_app]; rfl
    split
    · rw [← mk_app]; rfl
    split
    · rw [← mk_app, ← mk_app, show (58 :: guardF inB (bytesOf el) : List UInt8) = [58] ++ guardF inB (bytesOf el) from rfl, ← mk_app, ← ByteArray.append_assoc]; rfl
    split
    · rw [← mk_app]; rfl
    · rfl
  clear hX hT hU hN
  have A1 : (⟨#[58, 47]⟩ : ByteArray).size = 2 := rfl
  have A2 : (⟨#[58, 43]⟩ : ByteArray).size = 2 := rfl
  have A3 : (⟨#[58, 63]⟩ : ByteArray).size = 2 := rfl
  have A4 : (⟨#[58, 45]⟩ : ByteArray).size = 2 := rfl
  have A5 : (⟨#[58]⟩ : ByteArray).size = 1 := rfl
  by_cases k2 : k = 2
  · rw [if_pos k2] at hX2
    subst hX2
    have z2 : (k == 2) = true := beq_iff_eq.2 k2
    clear k2
    go_enter Tryd.func21, Tryd.ntmps21
    go_wp2_with fail
    refine (HN.out _).mono ?_
    rintro e w1 ⟨rfl, hw1⟩
    subst hw1
    go_wp2
    go_ret
    exact ⟨rfl, hb⟩
  rw [if_neg k2] at hX2
  have z2 : (k == 2) = false := beq_eq_false_iff_ne.2 k2
  by_cases k3 : k = 3
  · rw [if_pos k3] at hX2
    subst hX2
    have z3 : (k == 3) = true := beq_iff_eq.2 k3
    clear k2 k3
    go_enter Tryd.func21, Tryd.ntmps21
    go_wp2_with fail
    refine (HT.out _).mono ?_
    rintro e w1 ⟨rfl, hb1⟩
    go_wp2
    go_ret
    exact ⟨rfl, bl_trans hb hb1⟩
  rw [if_neg k3] at hX2
  have z3 : (k == 3) = false := beq_eq_false_iff_ne.2 k3
  by_cases k5 : k = 5
  · rw [if_pos k5] at hX2
    subst hX2
    have z5 : (k == 5) = true := beq_iff_eq.2 k5
    have f3 : (w.alloc (.cells #[.int .i64 k, .int .i64 n, .int .i64 c, .string th, .string el] 41)).cell? ⟨w.heap.size, 3, none⟩ = some (.string th) := cells_lit w _ _ 3 _ rfl
    have f4 : (w.alloc (.cells #[.int .i64 k, .int .i64 n, .int .i64 c, .string th, .string el] 41)).cell? ⟨w.heap.size, 4, none⟩ = some (.string el) := cells_lit w _ _ 4 _ rfl
    have hlt0 : w.heap.size < (w.alloc (.cells #[.int .i64 k, .int .i64 n, .int .i64 c, .string th, .string el] 41)).heap.size := by simp
    have B1 : ((⟨#[58, 63]⟩ : ByteArray) ++ T).size = 2 + T.size := ByteArray.size_append
    have B2 : ((⟨#[58, 63]⟩ : ByteArray) ++ T ++ (⟨#[58]⟩ : ByteArray)).size = 2 + T.size + 1 := by rw [ByteArray.size_append, B1]; rfl
    clear k2 k3 k5
    go_enter Tryd.func21, Tryd.ntmps21
    go_wp2
    refine wp_region_later (by kernel_rfl) (by kernel_rfl) ?_
    repeat (go_big_quiet_step (first
      | (go_at_call_of 19 (Value.string th); exact later_call (HT.out _))
      | (go_at_call_of 19 (Value.string el); exact later_call (HU.out _))
      | exact rfl))
    refine wpQuiet_nil ?_
    rintro w9 ⟨⟨_, hb9⟩, rfl⟩
    go_wp2
    go_ret
    exact ⟨rfl, bl_trans hb hb9⟩
  rw [if_neg k5] at hX2
  have z5 : (k == 5) = false := beq_eq_false_iff_ne.2 k5
  by_cases k4 : k = 4
  · rw [if_pos k4] at hX2
    subst hX2
    have z4 : (k == 4) = true := beq_iff_eq.2 k4
    clear k2 k3 k4 k5
    go_enter Tryd.func21, Tryd.ntmps21
    go_wp2_with fail
    refine (HU.out _).mono ?_
    rintro e w1 ⟨rfl, hb1⟩
    go_wp2
    go_ret
    exact ⟨rfl, bl_trans hb hb1⟩
  rw [if_neg k4] at hX2
  subst hX2
  have z4 : (k == 4) = false := beq_eq_false_iff_ne.2 k4
  clear k2 k3 k4 k5
  go_enter Tryd.func21, Tryd.ntmps21
  go_wp2
  go_ret
  exact ⟨rfl, hb⟩
end Go.Proofs.YtbphckblbbbakaaDoor
