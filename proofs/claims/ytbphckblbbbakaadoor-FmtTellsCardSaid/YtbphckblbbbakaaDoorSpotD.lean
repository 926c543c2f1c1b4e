/- Contract: all up to an end that is not escaped (spot.Spot.Until). Condition: the place is in the text. -/
import Derived.Test.YtbphckblbbbakaaDoorSpotC
import Derived.Test.YtbphckblbbbakaaDoorFmP
import Derived.Deep.RegionWith
namespace Go.Proofs.YtbphckblbbbakaaDoor
open Go.ChangeShapes Go.WideShapes Go.ChangeAt Go.RowKit
attribute [local go_sem ↓] Go.wp_at_zero Go.wp_at_succ
set_option maxRecDepth 100000
set_option linter.unusedVariables false
theorem until_nil (e : UInt8) (E : List UInt8) : untilF e E [] = none := rfl
theorem until_hit (e : UInt8) (E l : List UInt8) : untilF e E (e :: l) = some ([], l) := by
  cases l with
  | nil => simp [untilF]
  | cons d l => simp [untilF]
theorem until_step (e : UInt8) (E : List UInt8) (c : UInt8) (l : List UInt8) (d : UInt8) (r : List UInt8) (hc : c ≠ e) (h : escF E (c :: l) = d :: r) : untilF e E (c :: l) = (untilF e E r).map (fun q => (d :: q.1, q.2)) := by
  cases l with
  | nil =>
    have : escF E [c] = [c] := by
      unfold escF
      split
      · rename_i hq; injection hq with _ hq; cases hq
      · rfl
    rw [this] at h
    injection h with h1 h2
    subst h1 h2
    simp [untilF, hc]
  | cons x l =>
    by_cases h9 : c = 92 ∧ x ∈ E
    · have : escF E (c :: x :: l) = x :: l := by rw [h9.1]; show (if x ∈ E then _ else _) = _; rw [if_pos h9.2]
      rw [this] at h
      injection h with h1 h2
      subst h1 h2
      conv => lhs; unfold untilF
      rw [if_neg hc, if_pos h9]
    · have : escF E (c :: x :: l) = c :: x :: l := by
        unfold escF
        split
        · rename_i hq
          injection hq with h1 h2
          injection h2 with h2 h3
          subst h1 h2 h3
          rw [if_neg (fun q => h9 ⟨rfl, q⟩)]
        · rfl
      rw [this] at h
      injection h with h1 h2
      subst h1 h2
      conv => lhs; unfold untilF
      rw [if_neg hc, if_neg h9]
theorem Mvd.blB {w w1 w2 : World} {b o k : Nat} (h : Mvd w w1 b o k) (hb : Below w.heap.size w1 w2) (hl : b < w.heap.size) : Mvd w w2 b o k :=
  ⟨⟨hb.os.trans h.grown.os, hb.tape.trans h.grown.tape, hb.output.trans h.grown.output, Nat.le_trans h.grown.size hb.size, fun i hi hn => (hb.block i hi).trans (h.grown.block i hi hn)⟩,
    fun q hq => (hb.cell (p := ⟨b, q, none⟩) hl).trans (h.cells q hq), (hb.cell (p := ⟨b, o + 1, none⟩) hl).trans h.pos, fun q => (hb.frozen (p := ⟨b, q, none⟩) hl).trans (h.froz q)⟩
def UntPost (w : World) (b o k size : Nat) (z : Option (List UInt8 × List UInt8)) (e : Ending) (w' : World) : Prop :=
  match z with
  | none => e = .returned (.tuple #[.string ⟨#[]⟩, .bool false]) ∧ Mvd w w' b o k
  | some (t, r) => e = .returned (.tuple #[.string (mkB t), .bool true]) ∧ Mvd w w' b o (size - r.length)
theorem byteCells_one (l : List UInt8) (d : UInt8) : Lib.byteCells (l ++ [d]) = Lib.byteCells l ++ [.int .u8 (d.toNat : Int)] := by simp [Lib.byteCells]
set_option maxHeartbeats 8000000 in
theorem spot_until {w : World} {b o : Nat} {s : ByteArray} {k : Nat} (h : SpAtC w b o s k) (hf : w.frozen? ⟨b, o + 1, none⟩ = false) (en : UInt8) (E : ByteArray) (hk : k ≤ s.size) (hs : s.size ≤ 1000000) (z : Option (List UInt8 × List UInt8)) (hz : untilF en E.data.toList (s.data.toList.drop k) = z) :
    Calls Tryd.prog 69 #[.pointer (some ⟨b, o, none⟩), .int .u8 (en.toNat : Int), .string E] w (UntPost w b o k s.size z) := by
  have HS := hide h
  have HF := hide hf
  have hbl := World.block_lt_of_cell? _ _ h.1
  have HZ := hide hz
  obtain ⟨h1, h2⟩ := h
  obtain ⟨El, hEl⟩ : ∃ El, E.data.toList = El := ⟨_, rfl⟩
  rw [hEl] at HZ
  have HEL := hide hEl
  obtain ⟨ei, hei⟩ : ∃ ei, (en.toNat : Int) = ei := ⟨_, rfl⟩
  rw [hei]
  have HEI := hide hei
  clear hz hf hEl hei
  go_enter Tryd.func69, Tryd.ntmps69
  go_wp2
  have h0 := Lib.fresh_isBuilder 45 5 w
  have hm0 := mvd_bl (bl_alloc (bl_refl w) (.cells #[.pointer none, .slice none 0 0] 45)) h2
  have hm1 := hide hm0
  clear hm0
  go_loopw [] (fun wr => ∃ (p : Nat) (out : List UInt8), k ≤ p ∧ p ≤ s.size ∧ out.length ≤ p ∧ Hid ((untilF en El (s.data.toList.drop p)).map (fun q => (out ++ q.1, q.2)) = z) ∧ Hid (Mvd w wr b o p) ∧ Lib.IsBuilder 45 5 w.heap.size w.heap.size (Lib.byteCells out) wr) (fun wr => s.size + 1 - (intOf ((wr.cell? ⟨b, o + 1, none⟩).getD (.bool false))).toNat)
  case atStart => exact ⟨k, [], Nat.le_refl _, hk, Nat.zero_le _, hide (by rw [HZ.out]; cases z <;> simp), hm1, h0⟩
  case round =>
    clear h0 hm1 h1 h2
    obtain ⟨p, out, hp0, hp1, ho, HJ, HM, hB⟩ := hrel
    have hat := HM.out.at HS.out
    have hfr := (HM.out.froz (o + 1)).trans HF.out
    have HAT := hide hat
    have HFR := hide hfr
    have HG := hide (show w.heap.size ≤ wr.heap.size from HM.out.grown.size)
    have hpos := HM.out.pos
    have HPOS := hide hpos
    clear hat hfr hpos
    by_cases hlt : p < s.size
    · have hd := hide (spot_done' HAT.out false (decide_eq_false (by omega)))
      have hj := HJ.out
      rw [drop_at s p hlt] at hj
      by_cases hce : s[p] = en
      · have hz2 : z = some (out, s.data.toList.drop (p + 1)) := by
          rw [← hj, hce, until_hit]; simp
        subst hz2
        have hT := fun W h1 h2 => spot_take (w := W) (b := b) (o := o) (s := s) (k := p) h1 h2 ei true (by unfold hasB; rw [dif_pos hlt, hce, HEI.out]; simp) hs
        have HT := hide hT
        have hp1' := hide (show p + 1 ≤ s.size from hlt)
        have hlen : s.size - (s.data.toList.drop (p + 1)).length = p + 1 := by rw [List.length_drop, Array.length_toList]; show s.size - (s.size - (p + 1)) = _; omega
        have HLEN := hide hlen
        clear hT hj hce hlen hlt
        go_wp2_with fail
        refine hd.out.mono ?_
        rintro e w2 ⟨rfl, hb2⟩
        have HB2 := hide hb2
        have hB2 := isb_below hB hb2
        clear hB hb2
        go_wp2_with fail
        refine (HT.out w2 (spot_bl HAT.out HB2.out) ((HB2.out.frozen (p := ⟨b, o + 1, none⟩) (World.block_lt_of_cell? _ _ HPOS.out)).trans HFR.out)).mono ?_
        rintro e w3 ⟨rfl, hm3⟩
        have hB3 := isb_grown hB2 hm3.grown hbl (Nat.le_refl _)
        have HM3 := hide (show Mvd w w3 b o (p + 1) from (HM.out.bl HB2.out).trans hm3)
        clear hB2 hm3
        go_wp2_with fail
        refine (bl_string _ _ _ _ hB3 HM3.out.grown.size).mono ?_
        rintro e w4 ⟨rfl, hb4⟩
        have HM4 := hide (HM3.out.blB hb4 hbl)
        clear hb4 hB3
        go_wp2
        go_ret2
        exact ⟨rfl, by rw [HLEN.out]; exact HM4.out⟩
      · have hT := fun W h1 h2 => spot_take (w := W) (b := b) (o := o) (s := s) (k := p) h1 h2 ei false (by
          unfold hasB; rw [dif_pos hlt, ← HEI.out]
          exact beq_eq_false_iff_ne.2 (fun q => hce (UInt8.toNat_inj.1 (by omega)))) hs
        have HT := hide hT
        obtain ⟨p', hp'⟩ : ∃ p', escK s El p = p' := ⟨_, rfl⟩
        have hle := escK_le s El p
        have hed := esc_drop s El p
        rw [hp'] at hle hed
        have hlt' := hle.2.2 hlt
        have HE := hide (fun W h1 h2 => spot_escape (w := W) (b := b) (o := o) (s := s) (k := p) h1 h2 E hlt hs p' (by rw [HEL.out]; exact hp'))
        rw [drop_at s p' hlt', drop_at s p hlt] at hed
        have hst := until_step en El _ _ _ _ hce hed.symm
        obtain ⟨d, hd'⟩ : ∃ d, s[p'] = d := ⟨_, rfl⟩
        rw [hd'] at hst
        have HJ2 := hide (show (untilF en El (s.data.toList.drop (p' + 1))).map (fun q => (out ++ [d] ++ q.1, q.2)) = z by
          rw [← hj, hst, Option.map_map]; congr 1; funext q; simp)
        have HDD := hide (show (s[p'].toNat : Int) = d.toNat by rw [hd'])
        have HLE := hide (show k ≤ p' + 1 ∧ p' + 1 ≤ s.size ∧ (out ++ [d]).length ≤ p' + 1 ∧ p < p' + 1 by simp; omega)
        clear hT hj hce hlt hp' hle hed hst hd'
        go_wp2_with fail
        refine hd.out.mono ?_
        rintro e w2 ⟨rfl, hb2⟩
        have HB2 := hide hb2
        have hB2 := isb_below hB hb2
        clear hB hb2
        go_wp2_with fail
        refine (HT.out w2 (spot_bl HAT.out HB2.out) ((HB2.out.frozen (p := ⟨b, o + 1, none⟩) (World.block_lt_of_cell? _ _ HPOS.out)).trans HFR.out)).mono ?_
        rintro e w3 ⟨rfl, hm3⟩
        have hB3 := isb_grown hB2 hm3.grown hbl (Nat.le_refl _)
        have HM3 := hide (show Mvd w w3 b o p from (HM.out.bl HB2.out).trans hm3)
        clear hB2 hm3
        go_wp2_with fail
        refine (HE.out w3 (HM3.out.at HS.out) ((HM3.out.froz (o + 1)).trans HF.out)).mono ?_
        rintro e w4 ⟨rfl, hm4⟩
        have hB4 := isb_grown hB3 hm4.grown hbl (Nat.le_refl _)
        have HM4 := hide (HM3.out.trans hm4)
        obtain ⟨c1, c2⟩ := HM4.out.at HS.out
        have i1 : (0 : Int) ≤ (p' : Int) := by omega
        have i2 : (p' : Int) < (s.size : Int) := by omega
        have hdd := HDD.out
        have e5 : IntKind.i64.wrap ((p' : Int) + 1) = (p' : Int) + 1 := by rw [IntKind.wrap_i64]; omega
        have hB4' := isb_below hB4 (bl_drew (bl_refl w4))
        have HS4 := hide (show w.heap.size ≤ w4.drew.heap.size from HM4.out.grown.size)
        clear hB3 hm4 hB4
        go_wp2
        go_region_with (go_at_call 36; refine (bl_byte _ _ _ _ _ hB4' (by rw [byteCells_len]; omega) HS4.out).mono ?_; rintro e w5 ⟨rfl, hB5, hb5⟩)
        all_goals
          have HM5 := hide ((HM4.out.bl (bl_drew (bl_refl w4))).blB hb5 hbl)
          rw [← byteCells_one] at hB5
          have hf5 := (HM5.out.froz (o + 1)).trans HF.out
          have c5 := HM5.out.pos
          have HM6 := hide (HM5.out.set (p' + 1))
          have hB6 := isb_grown (.inr hB5) (g := b) (w' := w5.setCell ⟨b, o + 1, none⟩ (.int .i64 ((p' + 1 : Nat) : Int))) (grown_set (grown_refl w5 (some b)) _ _) hbl (Nat.le_refl _)
          rw [show ((p' + 1 : Nat) : Int) = (p' : Int) + 1 by omega] at hB6
          clear hb5 c1 c2
          go_wp2
          refine ⟨?_, ?_⟩
          · first
              | exact ⟨p' + 1, out ++ [d], HLE.out.1, HLE.out.2.1, HLE.out.2.2.1, HJ2, HM6, hB6⟩
              | ((repeat apply Exists.intro); exact ⟨⟨p' + 1, out ++ [d], HLE.out.1, HLE.out.2.1, HLE.out.2.2.1, HJ2, HM6, hB6⟩, rfl⟩)
          · rw [HPOS.out]
            have h6 := HM6.out.pos
            rw [show ((p' + 1 : Nat) : Int) = (p' : Int) + 1 by omega] at h6
            rw [h6]
            have := HLE.out.2.2.2
            simp [intOf]; omega
    · obtain rfl : p = s.size := by omega
      have hd := hide (spot_done' HAT.out true (decide_eq_true (by omega)))
      have hj := HJ.out
      have hnil : s.data.toList.drop s.size = [] := List.drop_eq_nil_of_le (by rw [Array.length_toList]; exact Nat.le_refl _)
      rw [hnil, until_nil] at hj
      obtain rfl : z = none := hj.symm
      clear hj hlt
      go_wp2_with fail
      refine hd.out.mono ?_
      rintro e w2 ⟨rfl, hb2⟩
      have HM2 := hide (HM.out.bl hb2)
      have hf2 := (HM2.out.froz (o + 1)).trans HF.out
      have c2 := HM2.out.pos
      clear hb2 hB
      go_wp2
      go_ret2
      exact ⟨rfl, HM2.out.set k⟩
end Go.Proofs.YtbphckblbbbakaaDoor
