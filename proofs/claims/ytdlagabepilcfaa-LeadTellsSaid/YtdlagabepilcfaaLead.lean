/- Contract of lead.Adapt: a text laid to a lead and a unit; the layer's awake. -/
import Derived.Test.YtdlagabepilcfaaBuilder
namespace Go.Proofs.Ytdlagabepilcfaa
open Go.ChangeShapes Go.WideShapes Go.ChangeAt Go.RowKit

theorem ne_bytes (s : ByteArray) (h : 0 < s.size) : s.toList.isEmpty = false := by
  rw [Go.ByteArray.toList_eq]
  have : s.data.toList.length = s.size := by simp
  cases hl : s.data.toList with
  | nil => rw [hl] at this; simp at this; omega
  | cons a r => rfl
theorem e_bytes (s : ByteArray) (h : s.size = 0) : s.toList.isEmpty = true := by
  rw [Go.ByteArray.toList_eq]
  have : s.data.toList.length = s.size := by simp
  cases hl : s.data.toList with
  | nil => rfl
  | cons a r => rw [hl] at this; simp at this; omega
theorem byteCells_snoc (l : List UInt8) (c : UInt8) : Lib.byteCells (l ++ [c]) = Lib.byteCells l ++ [.int .u8 (c.toNat : Int)] := by simp [Lib.byteCells]
theorem byteCells_str (l : List UInt8) (s : ByteArray) : Lib.byteCells (l ++ s.data.toList) = Lib.byteCells l ++ Lib.strCells s := by simp [Lib.byteCells, Lib.strCells]
theorem byteCells_len (l : List UInt8) : (Lib.byteCells l).length = l.length := by simp [Lib.byteCells]
def adL (L U : List UInt8) : List UInt8 → Bool → List UInt8
  | [], _ => []
  | c :: r, b => if c.toNat = 9 ∧ b = true then U ++ adL L U r true else if c.toNat = 10 then c :: (L ++ adL L U r true) else c :: adL L U r false
def unL (U : List UInt8) : List UInt8 := if U = [] then [9] else U
theorem ad_tab (L U l : List UInt8) (k : Nat) (h : k < l.length) (hc : l[k].toNat = 9) : adL L U (l.drop k) true = U ++ adL L U (l.drop (k + 1)) true := by
  rw [List.drop_eq_getElem_cons h, adL, if_pos ⟨hc, rfl⟩]
theorem ad_lf (L U l : List UInt8) (k : Nat) (b : Bool) (h : k < l.length) (hc : l[k].toNat = 10) : adL L U (l.drop k) b = l[k] :: (L ++ adL L U (l.drop (k + 1)) true) := by
  rw [List.drop_eq_getElem_cons h, adL, if_neg (by omega), if_pos hc]
theorem ad_else (L U l : List UInt8) (k : Nat) (b : Bool) (h : k < l.length) (hc : ¬ l[k].toNat = 10) (hb : ¬ (l[k].toNat = 9 ∧ b = true)) : adL L U (l.drop k) b = l[k] :: adL L U (l.drop (k + 1)) false := by
  rw [List.drop_eq_getElem_cons h, adL, if_neg hb, if_neg hc]
theorem ad_end (L U l : List UInt8) (b : Bool) : adL L U (l.drop l.length) b = [] := by
  rw [List.drop_of_length_le (Nat.le_refl _)]; rfl
set_option maxRecDepth 100000 in
set_option maxHeartbeats 8000000 in
theorem adapt_any (s L U : ByteArray) (w : World) (hs : s.size ≤ 1000000) (hL : L.size ≤ 100) (hU : U.size ≤ 100) :
    Calls Try.prog 11 #[.string s, .string L, .string U] w fun e w' => e = .returned (.string ⟨(adL L.data.toList (unL U.data.toList) s.data.toList false).toArray⟩) ∧ Below w.heap.size w w' := by
  have h0 := Lib.fresh_isBuilder 40 5 w
  by_cases hu : U.size = 0
  · have hne := e_bytes U hu
    have HE : Hid (unL U.data.toList = (⟨#[9]⟩ : ByteArray).data.toList) := hide (by unfold unL; rw [if_pos (List.eq_nil_of_length_eq_zero (by rw [len_data]; exact hu))])
    rw [HE.out]
    go_enter Try.func11, Try.ntmps11
    go_wp2
    have hV : (⟨#[9]⟩ : ByteArray).size ≤ 100 := (by decide)
    go_loopw [8, 15] (fun b i wr => ∃ (k : Nat) (bg : Bool) (out : List UInt8), k ≤ s.size ∧ i = .int .i64 k ∧ b = .bool bg ∧ out.length ≤ 101 * k ∧ Hid (adL L.data.toList (⟨#[9]⟩ : ByteArray).data.toList s.data.toList false = out ++ adL L.data.toList (⟨#[9]⟩ : ByteArray).data.toList (s.data.toList.drop k) bg) ∧ Lib.IsBuilder 40 5 w.heap.size w.heap.size (Lib.byteCells out) wr ∧ Below w.heap.size w wr)
      (fun _ i _ => s.size - (intOf i).toNat)
    case atStart => exact ⟨0, false, [], Nat.zero_le _, rfl, rfl, Nat.le_refl _, hide rfl, h0, bl_alloc (bl_refl w) _⟩
    case round =>
      obtain ⟨k, bg, out, hk, rfl, rfl, ho, HJ, hB, hbl⟩ := hrel
      clear h0 hne HE
      by_cases hlt : k < s.size
      · have hkl : k < s.data.toList.length := by simpa using hlt
        have hsk : s.data.toList[k] = s[k] := rfl
        have HT := hide (ad_tab L.data.toList (⟨#[9]⟩ : ByteArray).data.toList s.data.toList k hkl)
        have HL := hide (ad_lf L.data.toList (⟨#[9]⟩ : ByteArray).data.toList s.data.toList k bg hkl)
        have HX := hide (ad_else L.data.toList (⟨#[9]⟩ : ByteArray).data.toList s.data.toList k bg hkl)
        rw [hsk] at HT HL HX
        clear hsk
        by_cases hA : s[k].toNat = 9 ∧ bg = true
        · obtain ⟨hc, rfl⟩ := hA
          have h9 : (((s[k].toNat : Nat) : Int) == 9) = true := by simp; omega
          have HJ2 : Hid (adL L.data.toList (⟨#[9]⟩ : ByteArray).data.toList s.data.toList false = (out ++ (⟨#[9]⟩ : ByteArray).data.toList) ++ adL L.data.toList (⟨#[9]⟩ : ByteArray).data.toList (s.data.toList.drop (k + 1)) true) := hide (by rw [HJ.out, HT.out hc, List.append_assoc])
          clear HT HL HX HJ hc
          go_wp2_with fail
          refine (bl_str _ _ _ (⟨#[9]⟩ : ByteArray) _ hB (by rw [byteCells_len]; omega) hbl.size).mono ?_
          rintro e w2 ⟨rfl, hB2, hb2⟩
          rw [← byteCells_str] at hB2
          go_wp2
          refine ⟨?_, by simp [intOf]; omega⟩
          have hb3 := hbl.trans hb2
          have hl2 : (out ++ (⟨#[9]⟩ : ByteArray).data.toList).length ≤ 101 * (k + 1) := by simp; omega
          first
            | exact ⟨k + 1, true, out ++ (⟨#[9]⟩ : ByteArray).data.toList, by omega, by go_num, rfl, hl2, HJ2, .inr hB2, hb3⟩
            | ((repeat apply Exists.intro); exact ⟨⟨k + 1, true, out ++ (⟨#[9]⟩ : ByteArray).data.toList, by omega, by go_num, rfl, hl2, HJ2, .inr hB2, hb3⟩, rfl⟩)
        · by_cases hc : s[k].toNat = 10
          · have h9 : (((s[k].toNat : Nat) : Int) == 9) = false := by simp; omega
            have h10 : (((s[k].toNat : Nat) : Int) == 10) = true := by simp; omega
            have HJ2 : Hid (adL L.data.toList (⟨#[9]⟩ : ByteArray).data.toList s.data.toList false = (out ++ [s[k]] ++ L.data.toList) ++ adL L.data.toList (⟨#[9]⟩ : ByteArray).data.toList (s.data.toList.drop (k + 1)) true) := hide (by rw [HJ.out, HL.out hc]; simp)
            clear HT HL HX HJ hc hA
            go_wp2_with fail
            refine (bl_byte _ _ _ _ _ hB (by rw [byteCells_len]; omega) hbl.size).mono ?_
            rintro e w2 ⟨rfl, hB2, hb2⟩
            rw [← byteCells_snoc] at hB2
            go_wp2_with fail
            refine (bl_str _ _ _ L _ (.inr hB2) (by rw [byteCells_len]; simp; omega) (hbl.trans hb2).size).mono ?_
            rintro e w3 ⟨rfl, hB3, hb3⟩
            rw [← byteCells_str] at hB3
            go_wp2
            refine ⟨?_, by simp [intOf]; omega⟩
            have hb4 := (hbl.trans hb2).trans hb3
            have hl2 : (out ++ [s[k]] ++ L.data.toList).length ≤ 101 * (k + 1) := by simp; omega
            first
              | exact ⟨k + 1, true, out ++ [s[k]] ++ L.data.toList, by omega, by go_num, rfl, hl2, HJ2, .inr hB3, hb4⟩
              | ((repeat apply Exists.intro); exact ⟨⟨k + 1, true, out ++ [s[k]] ++ L.data.toList, by omega, by go_num, rfl, hl2, HJ2, .inr hB3, hb4⟩, rfl⟩)
          · have h10 : (((s[k].toNat : Nat) : Int) == 10) = false := by simp; omega
            have HJ2 : Hid (adL L.data.toList (⟨#[9]⟩ : ByteArray).data.toList s.data.toList false = (out ++ [s[k]]) ++ adL L.data.toList (⟨#[9]⟩ : ByteArray).data.toList (s.data.toList.drop (k + 1)) false) := hide (by rw [HJ.out, HX.out hc hA]; simp)
            have hl2 : (out ++ [s[k]]).length ≤ 101 * (k + 1) := by simp; omega
            by_cases h9 : s[k].toNat = 9
            · obtain rfl : bg = false := by cases bg with | false => rfl | true => exact absurd ⟨h9, rfl⟩ hA
              have h9' : (((s[k].toNat : Nat) : Int) == 9) = true := by simp; omega
              clear HT HL HX HJ hc hA h9
              go_wp2_with fail
              refine (bl_byte _ _ _ _ _ hB (by rw [byteCells_len]; omega) hbl.size).mono ?_
              rintro e w2 ⟨rfl, hB2, hb2⟩
              rw [← byteCells_snoc] at hB2
              go_wp2
              refine ⟨?_, by simp [intOf]; omega⟩
              have hb3 := hbl.trans hb2
              first
                | exact ⟨k + 1, false, out ++ [s[k]], by omega, by go_num, rfl, hl2, HJ2, .inr hB2, hb3⟩
                | ((repeat apply Exists.intro); exact ⟨⟨k + 1, false, out ++ [s[k]], by omega, by go_num, rfl, hl2, HJ2, .inr hB2, hb3⟩, rfl⟩)
            · have h9' : (((s[k].toNat : Nat) : Int) == 9) = false := by simp; omega
              clear HT HL HX HJ hc hA h9
              go_wp2_with fail
              refine (bl_byte _ _ _ _ _ hB (by rw [byteCells_len]; omega) hbl.size).mono ?_
              rintro e w2 ⟨rfl, hB2, hb2⟩
              rw [← byteCells_snoc] at hB2
              go_wp2
              refine ⟨?_, by simp [intOf]; omega⟩
              have hb3 := hbl.trans hb2
              first
                | exact ⟨k + 1, false, out ++ [s[k]], by omega, by go_num, rfl, hl2, HJ2, .inr hB2, hb3⟩
                | ((repeat apply Exists.intro); exact ⟨⟨k + 1, false, out ++ [s[k]], by omega, by go_num, rfl, hl2, HJ2, .inr hB2, hb3⟩, rfl⟩)
      · obtain rfl : k = s.size := by omega
        have hend : adL L.data.toList (⟨#[9]⟩ : ByteArray).data.toList s.data.toList false = out := by
          rw [HJ.out]
          have := ad_end L.data.toList (⟨#[9]⟩ : ByteArray).data.toList s.data.toList bg
          rw [len_data] at this
          rw [this, List.append_nil]
        have HEND := hide hend
        clear hend HJ
        go_wp2_with fail
        refine (bl_string _ _ _ _ hB hbl.size).mono ?_
        rintro e w2 ⟨rfl, hb2⟩
        go_wp2
        go_ret
        exact ⟨by rw [HEND.out]; rfl, hbl.trans hb2⟩
  · have hne := ne_bytes U (by omega)
    have HE : Hid (unL U.data.toList = U.data.toList) := hide (by unfold unL; rw [if_neg (by intro h; have := len_data U; rw [h] at this; simp at this; omega)])
    rw [HE.out]
    go_enter Try.func11, Try.ntmps11
    go_wp2
    have hV : U.size ≤ 100 := hU
    go_loopw [8, 15] (fun b i wr => ∃ (k : Nat) (bg : Bool) (out : List UInt8), k ≤ s.size ∧ i = .int .i64 k ∧ b = .bool bg ∧ out.length ≤ 101 * k ∧ Hid (adL L.data.toList U.data.toList s.data.toList false = out ++ adL L.data.toList U.data.toList (s.data.toList.drop k) bg) ∧ Lib.IsBuilder 40 5 w.heap.size w.heap.size (Lib.byteCells out) wr ∧ Below w.heap.size w wr)
      (fun _ i _ => s.size - (intOf i).toNat)
    case atStart => exact ⟨0, false, [], Nat.zero_le _, rfl, rfl, Nat.le_refl _, hide rfl, h0, bl_alloc (bl_refl w) _⟩
    case round =>
      obtain ⟨k, bg, out, hk, rfl, rfl, ho, HJ, hB, hbl⟩ := hrel
      clear h0 hne HE
      by_cases hlt : k < s.size
      · have hkl : k < s.data.toList.length := by simpa using hlt
        have hsk : s.data.toList[k] = s[k] := rfl
        have HT := hide (ad_tab L.data.toList U.data.toList s.data.toList k hkl)
        have HL := hide (ad_lf L.data.toList U.data.toList s.data.toList k bg hkl)
        have HX := hide (ad_else L.data.toList U.data.toList s.data.toList k bg hkl)
        rw [hsk] at HT HL HX
        clear hsk
        by_cases hA : s[k].toNat = 9 ∧ bg = true
        · obtain ⟨hc, rfl⟩ := hA
          have h9 : (((s[k].toNat : Nat) : Int) == 9) = true := by simp; omega
          have HJ2 : Hid (adL L.data.toList U.data.toList s.data.toList false = (out ++ U.data.toList) ++ adL L.data.toList U.data.toList (s.data.toList.drop (k + 1)) true) := hide (by rw [HJ.out, HT.out hc, List.append_assoc])
          clear HT HL HX HJ hc
          go_wp2_with fail
          refine (bl_str _ _ _ U _ hB (by rw [byteCells_len]; omega) hbl.size).mono ?_
          rintro e w2 ⟨rfl, hB2, hb2⟩
          rw [← byteCells_str] at hB2
          go_wp2
          refine ⟨?_, by simp [intOf]; omega⟩
          have hb3 := hbl.trans hb2
          have hl2 : (out ++ U.data.toList).length ≤ 101 * (k + 1) := by simp; omega
          first
            | exact ⟨k + 1, true, out ++ U.data.toList, by omega, by go_num, rfl, hl2, HJ2, .inr hB2, hb3⟩
            | ((repeat apply Exists.intro); exact ⟨⟨k + 1, true, out ++ U.data.toList, by omega, by go_num, rfl, hl2, HJ2, .inr hB2, hb3⟩, rfl⟩)
        · by_cases hc : s[k].toNat = 10
          · have h9 : (((s[k].toNat : Nat) : Int) == 9) = false := by simp; omega
            have h10 : (((s[k].toNat : Nat) : Int) == 10) = true := by simp; omega
            have HJ2 : Hid (adL L.data.toList U.data.toList s.data.toList false = (out ++ [s[k]] ++ L.data.toList) ++ adL L.data.toList U.data.toList (s.data.toList.drop (k + 1)) true) := hide (by rw [HJ.out, HL.out hc]; simp)
            clear HT HL HX HJ hc hA
            go_wp2_with fail
            refine (bl_byte _ _ _ _ _ hB (by rw [byteCells_len]; omega) hbl.size).mono ?_
            rintro e w2 ⟨rfl, hB2, hb2⟩
            rw [← byteCells_snoc] at hB2
            go_wp2_with fail
            refine (bl_str _ _ _ L _ (.inr hB2) (by rw [byteCells_len]; simp; omega) (hbl.trans hb2).size).mono ?_
            rintro e w3 ⟨rfl, hB3, hb3⟩
            rw [← byteCells_str] at hB3
            go_wp2
            refine ⟨?_, by simp [intOf]; omega⟩
            have hb4 := (hbl.trans hb2).trans hb3
            have hl2 : (out ++ [s[k]] ++ L.data.toList).length ≤ 101 * (k + 1) := by simp; omega
            first
              | exact ⟨k + 1, true, out ++ [s[k]] ++ L.data.toList, by omega, by go_num, rfl, hl2, HJ2, .inr hB3, hb4⟩
              | ((repeat apply Exists.intro); exact ⟨⟨k + 1, true, out ++ [s[k]] ++ L.data.toList, by omega, by go_num, rfl, hl2, HJ2, .inr hB3, hb4⟩, rfl⟩)
          · have h10 : (((s[k].toNat : Nat) : Int) == 10) = false := by simp; omega
            have HJ2 : Hid (adL L.data.toList U.data.toList s.data.toList false = (out ++ [s[k]]) ++ adL L.data.toList U.data.toList (s.data.toList.drop (k + 1)) false) := hide (by rw [HJ.out, HX.out hc hA]; simp)
            have hl2 : (out ++ [s[k]]).length ≤ 101 * (k + 1) := by simp; omega
            by_cases h9 : s[k].toNat = 9
            · obtain rfl : bg = false := by cases bg with | false => rfl | true => exact absurd ⟨h9, rfl⟩ hA
              have h9' : (((s[k].toNat : Nat) : Int) == 9) = true := by simp; omega
              clear HT HL HX HJ hc hA h9
              go_wp2_with fail
              refine (bl_byte _ _ _ _ _ hB (by rw [byteCells_len]; omega) hbl.size).mono ?_
              rintro e w2 ⟨rfl, hB2, hb2⟩
              rw [← byteCells_snoc] at hB2
              go_wp2
              refine ⟨?_, by simp [intOf]; omega⟩
              have hb3 := hbl.trans hb2
              first
                | exact ⟨k + 1, false, out ++ [s[k]], by omega, by go_num, rfl, hl2, HJ2, .inr hB2, hb3⟩
                | ((repeat apply Exists.intro); exact ⟨⟨k + 1, false, out ++ [s[k]], by omega, by go_num, rfl, hl2, HJ2, .inr hB2, hb3⟩, rfl⟩)
            · have h9' : (((s[k].toNat : Nat) : Int) == 9) = false := by simp; omega
              clear HT HL HX HJ hc hA h9
              go_wp2_with fail
              refine (bl_byte _ _ _ _ _ hB (by rw [byteCells_len]; omega) hbl.size).mono ?_
              rintro e w2 ⟨rfl, hB2, hb2⟩
              rw [← byteCells_snoc] at hB2
              go_wp2
              refine ⟨?_, by simp [intOf]; omega⟩
              have hb3 := hbl.trans hb2
              first
                | exact ⟨k + 1, false, out ++ [s[k]], by omega, by go_num, rfl, hl2, HJ2, .inr hB2, hb3⟩
                | ((repeat apply Exists.intro); exact ⟨⟨k + 1, false, out ++ [s[k]], by omega, by go_num, rfl, hl2, HJ2, .inr hB2, hb3⟩, rfl⟩)
      · obtain rfl : k = s.size := by omega
        have hend : adL L.data.toList U.data.toList s.data.toList false = out := by
          rw [HJ.out]
          have := ad_end L.data.toList U.data.toList s.data.toList bg
          rw [len_data] at this
          rw [this, List.append_nil]
        have HEND := hide hend
        clear hend HJ
        go_wp2_with fail
        refine (bl_string _ _ _ _ hB hbl.size).mono ?_
        rintro e w2 ⟨rfl, hb2⟩
        go_wp2
        go_ret
        exact ⟨by rw [HEND.out]; rfl, hbl.trans hb2⟩
end Go.Proofs.Ytdlagabepilcfaa
