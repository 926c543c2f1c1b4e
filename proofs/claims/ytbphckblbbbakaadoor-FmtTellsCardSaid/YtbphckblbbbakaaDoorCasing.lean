/- Contracts of package casing: a text turned in each of its ways. -/
import Derived.Test.YtbphckblbbbakaaDoorBuilder
import Derived.Test.YtbphckblbbbakaaDoorEach
import Derived.Deep.RegionWith
namespace Go.Proofs.YtbphckblbbbakaaDoor
open Go.ChangeShapes Go.WideShapes Go.ChangeAt Go.RowKit

theorem ne_bytes (s : ByteArray) (h : 0 < s.size) : s.toList.isEmpty = false := by
  rw [Go.ByteArray.toList_eq]
  have : s.data.toList.length = s.size := by simp
  cases hl : s.data.toList with
  | nil => rw [hl] at this; simp at this; omega
  | cons a r => rfl
theorem e_bytes (s : ByteArray) (h : s.size = 0) : s.toList.isEmpty = true := by
  rw [Go.ByteArray.toList_eq]
  have : s.data.toList.length = s.size := by simp
  cases hl : s.data.toList with
  | nil => rfl
  | cons a r => rw [hl] at this; simp at this; omega
def capL (f : UInt8 → UInt8) : List UInt8 → List UInt8
  | [] => []
  | c :: r => f c :: r
def wordB (c : UInt8) : Bool := decide (48 ≤ c.toNat ∧ c.toNat ≤ 57 ∨ 65 ≤ c.toNat ∧ c.toNat ≤ 90 ∨ 97 ≤ c.toNat ∧ c.toNat ≤ 122 ∨ 128 ≤ c.toNat)
/-- The words of a text, one behind the other: f turns the first byte of the first one, upB that of each other one. -/
def jn (f : UInt8 → UInt8) : List UInt8 → Bool → Bool → List UInt8
  | [], _, _ => []
  | c :: r, st, em => if wordB c then (if em then f c else if st then upB c else c) :: jn f r false false else jn f r true em

set_option maxRecDepth 100000 in
set_option maxHeartbeats 1000000 in
theorem first_up (s : ByteArray) (w : World) (hs : s.size ≤ 1000000) :
    Calls Tryd.prog 52 #[.string s, .func (.func 50) #[] #[]] w fun e w' => e = .returned (.string ⟨(capL upB s.data.toList).toArray⟩) ∧ Below w.heap.size w w' := by
  by_cases h0 : 0 < s.size
  · have hne := ne_bytes s h0
    have hcb := Go.run_convert_bytes_back (P := Tryd.prog) (w.alloc (.cells #[.int .u8 ((upB s[0]).toNat : Int)] 5)).drew 43 9 5 ⟨w.heap.size, 0, none⟩ 1 [upB s[0]] Tryd.underlying43 Tryd.underlying5 Tryd.underlying9 (fun j hj => by
      obtain rfl : j = 0 := by simp at hj; omega
      simp only [Addr.add]
      go_simp)
    simp only [List.length_cons, List.length_nil] at hcb
    have hfin : (⟨[upB s[0]].toArray⟩ : ByteArray) ++ s.extract 1 s.size = ⟨(capL upB s.data.toList).toArray⟩ := by
      apply ByteArray.ext
      apply Array.ext'
      rw [ByteArray.toList_data_append]
      have h2 : s.data.toList = s[0] :: s.data.toList.drop 1 := by
        have := List.drop_eq_getElem_cons (l := s.data.toList) (i := 0) (by simpa using h0)
        rw [List.drop_zero] at this
        exact this
      have h3 : (s.extract 1 s.size).data.toList = s.data.toList.drop 1 := by
        rw [ByteArray.data_extract]
        simp only [Array.toList_extract, List.extract_eq_take_drop]
        exact List.take_of_length_le (by simp)
      rw [h3]
      conv => rhs; rw [h2]
      rfl
    have HF := hide hfin
    clear hfin
    go_enter Tryd.func52, Tryd.ntmps52
    go_wp2
    go_region_with (go_at_call 50; refine (up_any s[0] _).mono ?_; rintro e w1 ⟨rfl, rfl⟩)
    all_goals
      go_wp2
      go_ret
      exact ⟨by rw [← HF.out]; rfl, (by repeat (first | exact bl_refl _ | assumption | refine bl_alloc ?_ _ | refine bl_drewN ?_ _ | refine bl_drew ?_ | refine bl_trans ?_ (by assumption)))⟩
  · have hne := e_bytes s (by omega)
    have hl : s.data.toList = [] := List.eq_nil_of_length_eq_zero (by rw [len_data]; omega)
    rw [hl]
    go_enter Tryd.func52, Tryd.ntmps52
    go_wp2
    go_ret
    exact ⟨rfl, bl_refl _⟩
set_option maxRecDepth 100000 in
set_option maxHeartbeats 1000000 in
theorem inword_any (c : UInt8) (w : World) : Calls Tryd.prog 65 #[.int .u8 (c.toNat : Int)] w fun e w' => e = .returned (.bool (wordB c)) ∧ w = w' := by
  have hc : (c.toNat : Int) < 256 := by have := c.toNat_lt; omega
  have HW : Hid (wordB c = decide (48 ≤ c.toNat ∧ c.toNat ≤ 57 ∨ 65 ≤ c.toNat ∧ c.toNat ≤ 90 ∨ 97 ≤ c.toNat ∧ c.toNat ≤ 122 ∨ 128 ≤ c.toNat)) := hide rfl
  generalize wordB c = b at *
  generalize c.toNat = n at *
  go_enter Tryd.func65, Tryd.ntmps65
  go_wp2
  all_goals
    go_ret
    exact ⟨ret_bool (by rw [HW.out, Bool.eq_iff_iff]; first | (simp; done) | (simp; omega) | omega), rfl⟩
theorem jn_off (f : UInt8 → UInt8) (l : List UInt8) (k : Nat) (st em : Bool) (h : k < l.length) (hw : wordB l[k] = false) : jn f (l.drop k) st em = jn f (l.drop (k + 1)) true em := by
  rw [List.drop_eq_getElem_cons h, jn, hw]; rfl
theorem jn_on (f : UInt8 → UInt8) (l : List UInt8) (k : Nat) (st em : Bool) (h : k < l.length) (hw : wordB l[k] = true) : jn f (l.drop k) st em = (if em then f l[k] else if st then upB l[k] else l[k]) :: jn f (l.drop (k + 1)) false false := by
  rw [List.drop_eq_getElem_cons h, jn, hw]; rfl
theorem jn_end (f : UInt8 → UInt8) (l : List UInt8) (st em : Bool) : jn f (l.drop l.length) st em = [] := by
  rw [List.drop_of_length_le (Nat.le_refl _)]; rfl
theorem byteCells_snoc (l : List UInt8) (c : UInt8) : Lib.byteCells (l ++ [c]) = Lib.byteCells l ++ [.int .u8 (c.toNat : Int)] := by simp [Lib.byteCells]
theorem byteCells_len (l : List UInt8) : (Lib.byteCells l).length = l.length := by simp [Lib.byteCells]
set_option maxRecDepth 100000 in
set_option maxHeartbeats 2000000 in
theorem join_up (s : ByteArray) (w : World) (hs : s.size ≤ 1000000) :
    Calls Tryd.prog 53 #[.string s, .func (.func 50) #[] #[]] w fun e w' => e = .returned (.string ⟨(jn upB s.data.toList true true).toArray⟩) ∧ Below w.heap.size w w' := by
  have h0 := Lib.fresh_isBuilder 45 5 w
  go_enter Tryd.func53, Tryd.ntmps53
  go_wp2
  go_loopw [6, 11] (fun st i wr => ∃ (k : Nat) (sb : Bool) (out : List UInt8), k ≤ s.size ∧ i = .int .i64 k ∧ st = .bool sb ∧ out.length ≤ k ∧ Hid (jn upB s.data.toList true true = out ++ jn upB (s.data.toList.drop k) sb out.isEmpty) ∧ Lib.IsBuilder 45 5 w.heap.size w.heap.size (Lib.byteCells out) wr ∧ Below w.heap.size w wr)
    (fun _ i _ => s.size - (intOf i).toNat)
  case atStart => exact ⟨0, true, [], Nat.zero_le _, rfl, rfl, Nat.le_refl _, hide rfl, h0, bl_alloc (bl_refl w) _⟩
  case round =>
    obtain ⟨k, sb, out, hk, rfl, rfl, ho, HJ, hB, hbl⟩ := hrel
    clear h0
    by_cases hlt : k < s.size
    · have hkl : k < s.data.toList.length := by simpa using hlt
      have HOFF := hide (jn_off upB s.data.toList k sb out.isEmpty hkl)
      have HON := hide (jn_on upB s.data.toList k sb out.isEmpty hkl)
      have hsk : s.data.toList[k] = s[k] := rfl
      rw [hsk] at HOFF HON
      clear hsk
      cases hw : wordB s[k]
      · have HW := hide hw
        clear hw
        go_wp2_with (go_at_call 65; refine (inword_any s[k] _).mono ?_; rintro e w1 ⟨rfl, rfl⟩; rw [HW.out])
        have HJ2 : Hid (jn upB s.data.toList true true = out ++ jn upB (s.data.toList.drop (k + 1)) true out.isEmpty) := hide (by rw [HJ.out, HOFF.out HW.out])
        refine ⟨?_, by simp [intOf]; omega⟩
        first
          | exact ⟨k + 1, true, out, by omega, by go_num, rfl, by omega, HJ2, hB, hbl⟩
          | ((repeat apply Exists.intro); exact ⟨⟨k + 1, true, out, by omega, by go_num, rfl, by omega, HJ2, hB, hbl⟩, rfl⟩)
      · have HW := hide hw
        clear hw
        have fin : ∀ (d : UInt8) (W : World), (if out.isEmpty then upB s[k] else if sb then upB s[k] else s[k]) = d → Lib.BuilderAt 45 5 w.heap.size w.heap.size (.pointer (some ⟨w.heap.size, 0, none⟩)) (Lib.byteCells out ++ [.int .u8 (d.toNat : Int)]) W → Below w.heap.size w W →
            ∃ (k' : Nat) (sb' : Bool) (out' : List UInt8), k' ≤ s.size ∧ Value.int .i64 ((k : Int) + 1) = .int .i64 k' ∧ Value.bool false = .bool sb' ∧ out'.length ≤ k' ∧ Hid (jn upB s.data.toList true true = out' ++ jn upB (s.data.toList.drop k') sb' out'.isEmpty) ∧ Lib.IsBuilder 45 5 w.heap.size w.heap.size (Lib.byteCells out') W ∧ Below w.heap.size w W := by
          intro d W hd hBW hW
          refine ⟨k + 1, false, out ++ [d], by omega, by go_num, rfl, by simp; omega, hide ?_, .inr (by rw [byteCells_snoc]; exact hBW), hW⟩
          have he : (out ++ [d]).isEmpty = false := by cases out <;> rfl
          rw [HJ.out, HON.out HW.out, hd, he]
          simp
        have FIN := hide fin
        clear fin
        cases hem : out.isEmpty
        · have hne : out ≠ [] := by intro h; rw [h] at hem; cases hem
          have hlen : ((out.length : Int) == 0) = false := by
            have : 0 < out.length := List.length_pos_iff.2 hne
            simp; omega
          rw [hem] at FIN
          have HL := hide hlen
          clear hem hne hlen HJ HON HOFF
          cases sb
          · go_wp2_with fail
            refine (inword_any s[k] _).mono ?_
            rintro e w1 ⟨rfl, rfl⟩
            rw [HW.out]
            go_wp2_with fail
            refine (bl_len _ _ _ _ hB).mono ?_
            rintro e w1 ⟨rfl, hw1⟩
            subst hw1
            rw [byteCells_len]
            have hlen := HL.out
            go_wp2_with fail
            refine (bl_byte _ _ _ _ _ hB (by rw [byteCells_len]; omega) hbl.size).mono ?_
            rintro e w2 ⟨rfl, hB2, hb2⟩
            clear hlen
            go_wp2
            refine ⟨?_, by simp [intOf]; omega⟩
            have hf := FIN.out s[k] w2 (by simp) hB2 (hbl.trans hb2)
            first
              | exact hf
              | ((repeat apply Exists.intro); exact ⟨hf, rfl⟩)
          · go_wp2_with fail
            refine (inword_any s[k] _).mono ?_
            rintro e w1 ⟨rfl, rfl⟩
            rw [HW.out]
            go_wp2_with fail
            refine (bl_len _ _ _ _ hB).mono ?_
            rintro e w1 ⟨rfl, hw1⟩
            subst hw1
            rw [byteCells_len]
            have hlen := HL.out
            go_wp2_with fail
            refine (up_any s[k] _).mono ?_
            rintro e w1 ⟨rfl, rfl⟩
            go_wp2_with fail
            refine (bl_byte _ _ _ _ _ hB (by rw [byteCells_len]; omega) hbl.size).mono ?_
            rintro e w2 ⟨rfl, hB2, hb2⟩
            clear hlen
            go_wp2
            refine ⟨?_, by simp [intOf]; omega⟩
            have hf := FIN.out (upB s[k]) w2 (by simp) hB2 (hbl.trans hb2)
            first
              | exact hf
              | ((repeat apply Exists.intro); exact ⟨hf, rfl⟩)
        · have hne : out = [] := by cases out with | nil => rfl | cons a r => cases hem
          subst hne
          clear hem HJ HON HOFF
          go_wp2_with fail
          refine (inword_any s[k] _).mono ?_
          rintro e w1 ⟨rfl, rfl⟩
          rw [HW.out]
          go_wp2_with fail
          refine (bl_len _ _ _ _ hB).mono ?_
          rintro e w1 ⟨rfl, hw1⟩
          subst hw1
          rw [byteCells_len]
          go_wp2_with fail
          refine (up_any s[k] _).mono ?_
          rintro e w1 ⟨rfl, rfl⟩
          go_wp2_with fail
          refine (bl_byte _ _ _ _ _ hB (by rw [byteCells_len]; simp) hbl.size).mono ?_
          rintro e w2 ⟨rfl, hB2, hb2⟩
          go_wp2
          refine ⟨?_, by simp [intOf]; omega⟩
          have hf := FIN.out (upB s[k]) w2 (by simp) hB2 (hbl.trans hb2)
          first
            | exact hf
            | ((repeat apply Exists.intro); exact ⟨hf, rfl⟩)
    · obtain rfl : k = s.size := by omega
      have hend : jn upB s.data.toList true true = out := by
        rw [HJ.out]
        have := jn_end upB s.data.toList sb out.isEmpty
        rw [len_data] at this
        rw [this, List.append_nil]
      have HEND := hide hend
      clear hend HJ
      go_wp2_with fail
      refine (bl_string _ _ _ _ hB hbl.size).mono ?_
      rintro e w2 ⟨rfl, hb2⟩
      go_wp2
      go_ret
      exact ⟨by rw [HEND.out]; rfl, hbl.trans hb2⟩
set_option maxRecDepth 100000 in
set_option maxHeartbeats 2000000 in
theorem join_down (s : ByteArray) (w : World) (hs : s.size ≤ 1000000) :
    Calls Tryd.prog 53 #[.string s, .func (.func 51) #[] #[]] w fun e w' => e = .returned (.string ⟨(jn downB s.data.toList true true).toArray⟩) ∧ Below w.heap.size w w' := by
  have h0 := Lib.fresh_isBuilder 45 5 w
  go_enter Tryd.func53, Tryd.ntmps53
  go_wp2
  go_loopw [6, 11] (fun st i wr => ∃ (k : Nat) (sb : Bool) (out : List UInt8), k ≤ s.size ∧ i = .int .i64 k ∧ st = .bool sb ∧ out.length ≤ k ∧ Hid (jn downB s.data.toList true true = out ++ jn downB (s.data.toList.drop k) sb out.isEmpty) ∧ Lib.IsBuilder 45 5 w.heap.size w.heap.size (Lib.byteCells out) wr ∧ Below w.heap.size w wr)
    (fun _ i _ => s.size - (intOf i).toNat)
  case atStart => exact ⟨0, true, [], Nat.zero_le _, rfl, rfl, Nat.le_refl _, hide rfl, h0, bl_alloc (bl_refl w) _⟩
  case round =>
    obtain ⟨k, sb, out, hk, rfl, rfl, ho, HJ, hB, hbl⟩ := hrel
    clear h0
    by_cases hlt : k < s.size
    · have hkl : k < s.data.toList.length := by simpa using hlt
      have HOFF := hide (jn_off downB s.data.toList k sb out.isEmpty hkl)
      have HON := hide (jn_on downB s.data.toList k sb out.isEmpty hkl)
      have hsk : s.data.toList[k] = s[k] := rfl
      rw [hsk] at HOFF HON
      clear hsk
      cases hw : wordB s[k]
      · have HW := hide hw
        clear hw
        go_wp2_with (go_at_call 65; refine (inword_any s[k] _).mono ?_; rintro e w1 ⟨rfl, rfl⟩; rw [HW.out])
        have HJ2 : Hid (jn downB s.data.toList true true = out ++ jn downB (s.data.toList.drop (k + 1)) true out.isEmpty) := hide (by rw [HJ.out, HOFF.out HW.out])
        refine ⟨?_, by simp [intOf]; omega⟩
        first
          | exact ⟨k + 1, true, out, by omega, by go_num, rfl, by omega, HJ2, hB, hbl⟩
          | ((repeat apply Exists.intro); exact ⟨⟨k + 1, true, out, by omega, by go_num, rfl, by omega, HJ2, hB, hbl⟩, rfl⟩)
      · have HW := hide hw
        clear hw
        have fin : ∀ (d : UInt8) (W : World), (if out.isEmpty then downB s[k] else if sb then upB s[k] else s[k]) = d → Lib.BuilderAt 45 5 w.heap.size w.heap.size (.pointer (some ⟨w.heap.size, 0, none⟩)) (Lib.byteCells out ++ [.int .u8 (d.toNat : Int)]) W → Below w.heap.size w W →
            ∃ (k' : Nat) (sb' : Bool) (out' : List UInt8), k' ≤ s.size ∧ Value.int .i64 ((k : Int) + 1) = .int .i64 k' ∧ Value.bool false = .bool sb' ∧ out'.length ≤ k' ∧ Hid (jn downB s.data.toList true true = out' ++ jn downB (s.data.toList.drop k') sb' out'.isEmpty) ∧ Lib.IsBuilder 45 5 w.heap.size w.heap.size (Lib.byteCells out') W ∧ Below w.heap.size w W := by
          intro d W hd hBW hW
          refine ⟨k + 1, false, out ++ [d], by omega, by go_num, rfl, by simp; omega, hide ?_, .inr (by rw [byteCells_snoc]; exact hBW), hW⟩
          have he : (out ++ [d]).isEmpty = false := by cases out <;> rfl
          rw [HJ.out, HON.out HW.out, hd, he]
          simp
        have FIN := hide fin
        clear fin
        cases hem : out.isEmpty
        · have hne : out ≠ [] := by intro h; rw [h] at hem; cases hem
          have hlen : ((out.length : Int) == 0) = false := by
            have : 0 < out.length := List.length_pos_iff.2 hne
            simp; omega
          rw [hem] at FIN
          have HL := hide hlen
          clear hem hne hlen HJ HON HOFF
          cases sb
          · go_wp2_with fail
            refine (inword_any s[k] _).mono ?_
            rintro e w1 ⟨rfl, rfl⟩
            rw [HW.out]
            go_wp2_with fail
            refine (bl_len _ _ _ _ hB).mono ?_
            rintro e w1 ⟨rfl, hw1⟩
            subst hw1
            rw [byteCells_len]
            have hlen := HL.out
            go_wp2_with fail
            refine (bl_byte _ _ _ _ _ hB (by rw [byteCells_len]; omega) hbl.size).mono ?_
            rintro e w2 ⟨rfl, hB2, hb2⟩
            clear hlen
            go_wp2
            refine ⟨?_, by simp [intOf]; omega⟩
            have hf := FIN.out s[k] w2 (by simp) hB2 (hbl.trans hb2)
            first
              | exact hf
              | ((repeat apply Exists.intro); exact ⟨hf, rfl⟩)
          · go_wp2_with fail
            refine (inword_any s[k] _).mono ?_
            rintro e w1 ⟨rfl, rfl⟩
            rw [HW.out]
            go_wp2_with fail
            refine (bl_len _ _ _ _ hB).mono ?_
            rintro e w1 ⟨rfl, hw1⟩
            subst hw1
            rw [byteCells_len]
            have hlen := HL.out
            go_wp2_with fail
            refine (up_any s[k] _).mono ?_
            rintro e w1 ⟨rfl, rfl⟩
            go_wp2_with fail
            refine (bl_byte _ _ _ _ _ hB (by rw [byteCells_len]; omega) hbl.size).mono ?_
            rintro e w2 ⟨rfl, hB2, hb2⟩
            clear hlen
            go_wp2
            refine ⟨?_, by simp [intOf]; omega⟩
            have hf := FIN.out (upB s[k]) w2 (by simp) hB2 (hbl.trans hb2)
            first
              | exact hf
              | ((repeat apply Exists.intro); exact ⟨hf, rfl⟩)
        · have hne : out = [] := by cases out with | nil => rfl | cons a r => cases hem
          subst hne
          clear hem HJ HON HOFF
          go_wp2_with fail
          refine (inword_any s[k] _).mono ?_
          rintro e w1 ⟨rfl, rfl⟩
          rw [HW.out]
          go_wp2_with fail
          refine (bl_len _ _ _ _ hB).mono ?_
          rintro e w1 ⟨rfl, hw1⟩
          subst hw1
          rw [byteCells_len]
          go_wp2_with fail
          refine (down_any s[k] _).mono ?_
          rintro e w1 ⟨rfl, rfl⟩
          go_wp2_with fail
          refine (bl_byte _ _ _ _ _ hB (by rw [byteCells_len]; simp) hbl.size).mono ?_
          rintro e w2 ⟨rfl, hB2, hb2⟩
          go_wp2
          refine ⟨?_, by simp [intOf]; omega⟩
          have hf := FIN.out (downB s[k]) w2 (by simp) hB2 (hbl.trans hb2)
          first
            | exact hf
            | ((repeat apply Exists.intro); exact ⟨hf, rfl⟩)
    · obtain rfl : k = s.size := by omega
      have hend : jn downB s.data.toList true true = out := by
        rw [HJ.out]
        have := jn_end downB s.data.toList sb out.isEmpty
        rw [len_data] at this
        rw [this, List.append_nil]
      have HEND := hide hend
      clear hend HJ
      go_wp2_with fail
      refine (bl_string _ _ _ _ hB hbl.size).mono ?_
      rintro e w2 ⟨rfl, hb2⟩
      go_wp2
      go_ret
      exact ⟨by rw [HEND.out]; rfl, hbl.trans hb2⟩
end Go.Proofs.YtbphckblbbbakaaDoor
