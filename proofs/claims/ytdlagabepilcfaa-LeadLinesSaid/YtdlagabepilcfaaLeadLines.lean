/- The first line stays; each other one has the lead ahead, a unit for each tab at its beginning, and then stays. Conditions: none beyond the form's own. -/
import Derived.Test.YtdlagabepilcfaaRows
import Derived.Test.YtdlagabepilcfaaArgs
import Derived.Test.YtdlagabepilcfaaParts
namespace Go.Proofs.Ytdlagabepilcfaa.leadLines
open Go.Proofs.Ytdlagabepilcfaa
open Go.ChangeShapes Go.WideShapes Go.ChangeAt Go.RowKit Go.Deep
open Go.ChangeMaps (open_string shut_string)
set_option linter.unusedVariables false

theorem own : ownKnob Try.prog.godebug = none := by kernel_rfl
theorem laidOut : laidOutB Try.prog = true := by kernel_rfl
-- opt: 8000000
theorem sp_len (l acc : List UInt8) : ∀ x ∈ sp l acc, x.length ≤ acc.length + l.length := by
  induction l generalizing acc with
  | nil => intro x hx; rw [sp, List.mem_singleton] at hx; subst hx; simp
  | cons c t ih =>
    intro x hx
    rw [sp] at hx
    rw [List.length_cons]
    by_cases hc : c.toNat = 10
    · rw [if_pos hc] at hx
      rcases List.mem_cons.1 hx with rfl | hx
      · omega
      · have := ih [] x hx; simp at this; omega
    · rw [if_neg hc] at hx
      have := ih _ x hx
      rw [List.length_append] at this; simp at this; omega
theorem sp_many (l acc : List UInt8) : (sp l acc).length ≤ l.length + 1 := by
  induction l generalizing acc with
  | nil => simp [sp]
  | cons c t ih =>
    rw [sp, List.length_cons]
    split
    · have := ih []; rw [List.length_cons]; omega
    · have := ih (acc ++ [c]); omega
theorem ad_size (L U l : List UInt8) (b : Bool) (hL : L.length ≤ 20) (hU : U.length ≤ 20) : (adL L U l b).length ≤ 21 * l.length := by
  induction l generalizing b with
  | nil => simp [adL]
  | cons c r ih =>
    rw [adL, List.length_cons]
    have h1 := ih true
    have h2 := ih false
    split
    · rw [List.length_append]; omega
    · split
      · rw [List.length_cons, List.length_append]; omega
      · rw [List.length_cons]; omega
theorem un_size (U : List UInt8) (h : U.length ≤ 20) : (unL U).length ≤ 20 := by
  unfold unL; split <;> simp_all
def tailF (L U : List UInt8) (r : List (List UInt8)) : List UInt8 := r.flatMap (fun y => 10 :: (L ++ adL L U y true))
theorem ad_join (L U l : List UInt8) (b : Bool) : ∀ x r, sp l [] = x :: r → adL L U l b = adL L U x b ++ tailF L U r := by
  induction l generalizing b with
  | nil => intro x r h; rw [sp] at h; cases h; rfl
  | cons c t ih =>
    intro x r h
    obtain ⟨x', r', h1, h2⟩ := sp_acc t [c]
    by_cases hc : c.toNat = 10
    · rw [sp, if_pos hc] at h
      cases h
      have h10 : c = 10 := by apply UInt8.toNat_inj.1; exact hc
      have hn9 : ¬ (c.toNat = 9 ∧ b = true) := by omega
      rw [show adL L U (c :: t) b = if c.toNat = 9 ∧ b = true then U ++ adL L U t true else if c.toNat = 10 then c :: (L ++ adL L U t true) else c :: adL L U t false from rfl, if_neg hn9, if_pos hc, ih true x' r' h1, h1, h10]
      simp [tailF, adL]
    · rw [sp, if_neg hc, List.nil_append, h2] at h
      obtain ⟨g1, g2⟩ := List.cons.inj h
      rw [← g1, ← g2, adL, List.singleton_append, adL]
      by_cases h9 : c.toNat = 9 ∧ b = true
      · rw [if_pos h9, if_pos h9, ih true x' r' h1, List.append_assoc]
      · rw [if_neg h9, if_neg h9, if_neg hc, if_neg hc, ih false x' r' h1, List.cons_append]
theorem ad_stop (L U l : List UInt8) (h : ∀ c ∈ l, ¬ c.toNat = 10) (h9 : ∀ c ∈ l.head?, ¬ c.toNat = 9) : adL L U l true = l := by
  cases l with
  | nil => rfl
  | cons c t => rw [adL, if_neg (fun h' => h9 c rfl h'.1), if_neg (h c (by simp)), ad_clean _ _ _ (fun d hd => h d (by simp [hd]))]
theorem pre_le (A B T : List UInt8) (h : T = A ++ B) (hT : T.length ≤ 2100) : A.length ≤ 2100 := by
  rw [h, List.length_append] at hT; omega
theorem tail_cons (L U y : List UInt8) (r : List (List UInt8)) : tailF L U (y :: r) = 10 :: (L ++ adL L U y true) ++ tailF L U r := rfl
theorem rest_data (z : ByteArray) (p : Nat) : (z.extract p z.size).data.toList = z.data.toList.drop p := by
  rw [ext_data, List.take_of_length_le (by rw [len_data]; omega)]
set_option maxRecDepth 100000 in
set_option maxHeartbeats 8000000 in
theorem walk (a0 : ByteArray) (a1 : ByteArray) (a2 : ByteArray) (w : World) (w0 : a0.size ≤ maxLen) (w1 : a1.size ≤ maxLen) (w2 : a2.size ≤ maxLen) :
    Calls Try.prog 4 #[.string a0, .string a1, .string a2] w fun e w' => e = .returned (.bool true) ∧ Below w.heap.size w w' := by
  by_cases hs : a0.size ≤ 100 ∧ a1.size ≤ 20 ∧ a2.size ≤ 20
  · obtain ⟨hs0, hs1, hs2⟩ := hs
    by_cases hu : a2.size = 0
    · have HE : Hid (unL a2.data.toList = (⟨#[9]⟩ : ByteArray).data.toList) := hide (by unfold unL; rw [if_pos (List.eq_nil_of_length_eq_zero (by rw [len_data]; exact hu))])
      have hV : (⟨#[9]⟩ : ByteArray).size ≤ 20 := (by decide)
      obtain ⟨T, hTd⟩ : ∃ T, adL a1.data.toList (⟨#[9]⟩ : ByteArray).data.toList a0.data.toList false = T := ⟨_, rfl⟩
      have hTl : T.length ≤ 2100 := by
        have := ad_size a1.data.toList (⟨#[9]⟩ : ByteArray).data.toList a0.data.toList false (by rw [len_data]; omega) (by rw [len_data]; omega)
        rw [hTd, len_data] at this
        omega
      have HTD := hide hTd
      clear hTd
      have hne := e_bytes a2 hu
      go_enter Try.func4, Try.ntmps4
      go_wp2_with fail
      refine (parts_any a0 _ (by omega)).mono ?_
      rintro e w1 ⟨v, zs, rfl, hb1, hv, HZ⟩
      have hzl : zs.length ≤ 101 := by
        have h1 := sp_many a0.data.toList []
        rw [← HZ.out, List.length_map, len_data] at h1
        omega
      have HCL := hide (sp_clean a0.data.toList [] (by simp))
      have HSZ := hide (sp_len a0.data.toList [])
      rw [← HZ.out] at HCL HSZ
      rcases own_form hv with ⟨_, h0, hx0⟩ | ⟨g, c, rfl, hg, hgl, hnc, hcm, hcs⟩
      · exfalso
        obtain ⟨x, r, hx, _⟩ := sp_acc a0.data.toList []
        rw [← HZ.out] at hx
        cases zs with
        | nil => cases hx
        | cons z r => cases h0
      have hn0 : 0 < zs.length := by
        obtain ⟨x, r, hx, _⟩ := sp_acc a0.data.toList []
        rw [← HZ.out] at hx
        cases zs with
        | nil => cases hx
        | cons z r => simp
      have hcz : ∀ j (hj : j < zs.length), w1.cell? ⟨g, j, none⟩ = some (.string zs[j]) := fun j hj => hcs j _ (by rw [List.getElem?_map, List.getElem?_eq_getElem hj]; rfl)
      have hq : ∀ j (hj : j < zs.length), (zs.map (fun y => y.data.toList)).drop j = zs[j].data.toList :: (zs.map (fun y => y.data.toList)).drop (j + 1) := by
        intro j hj
        rw [List.drop_eq_getElem_cons (by simpa using hj)]; simp
      have HCZ := hide hcz
      have HQ := hide hq
      have hc0 := hcz 0 hn0
      have hq0 := hq 0 hn0
      rw [List.drop_zero] at hq0
      have hmem : zs[0].data.toList ∈ zs.map (fun y => y.data.toList) := List.mem_map.2 ⟨zs[0], List.getElem_mem _, rfl⟩
      have HT1 : Hid (T = zs[0].data.toList ++ tailF a1.data.toList (⟨#[9]⟩ : ByteArray).data.toList ((zs.map (fun y => y.data.toList)).drop 1)) := hide (by
        rw [← HTD.out, ad_join _ _ _ false zs[0].data.toList ((zs.map (fun y => y.data.toList)).drop 1) (by rw [← HZ.out]; exact hq0), ad_clean _ _ zs[0].data.toList (HCL.out _ hmem)])
      have hz0s : zs[0].size ≤ 2100 := by rw [← len_data]; exact pre_le _ _ _ HT1.out hTl
      have hgw : g < w1.heap.size := hgl
      clear hcz hq hq0 hmem hcs hv HZ
      generalize zs[0] = z0 at *
      go_wp2_with fail
      go_loopw [9, 10] (fun v9 v10 wr => ∃ (j : Nat) (W : ByteArray), v10 = .int .i64 j ∧ v9 = .string W ∧ 1 ≤ j ∧ j ≤ zs.length ∧ W.size ≤ 2100 ∧ Hid (T = W.data.toList ++ tailF a1.data.toList (⟨#[9]⟩ : ByteArray).data.toList ((zs.map (fun y => y.data.toList)).drop j)) ∧ w1 = wr)
        (fun _ i _ => zs.length - (intOf i).toNat)
      case atStart => exact ⟨1, z0, rfl, rfl, Nat.le_refl _, hn0, hz0s, HT1, rfl⟩
      case round =>
        obtain ⟨j, W, rfl, rfl, hj1, hjn, hW, HT, rfl⟩ := hrel
        clear hc0 HT1 hz0s
        by_cases hlt : j < zs.length
        · have hcj := HCZ.out j hlt
          have hqj := HQ.out j hlt
          have hmem : zs[j].data.toList ∈ zs.map (fun y => y.data.toList) := List.mem_map.2 ⟨zs[j], List.getElem_mem _, rfl⟩
          have HZC := hide (HCL.out _ hmem)
          have hzz : zs[j].size ≤ 100 := by
            have h1 := HSZ.out _ hmem
            rw [len_data, len_data] at h1
            simp at h1
            omega
          have HT2 : Hid (T = (W ++ (⟨#[10]⟩ : ByteArray) ++ a1).data.toList ++ (adL a1.data.toList (⟨#[9]⟩ : ByteArray).data.toList (zs[j].data.toList.drop 0) true ++ tailF a1.data.toList (⟨#[9]⟩ : ByteArray).data.toList ((zs.map (fun y => y.data.toList)).drop (j + 1)))) := hide (by
            rw [HT.out, hqj, tail_cons, ByteArray.toList_data_append, ByteArray.toList_data_append, List.drop_zero]; simp)
          have hW2 : (W ++ (⟨#[10]⟩ : ByteArray) ++ a1).size ≤ 2100 := by rw [← len_data]; exact pre_le _ _ _ HT2.out hTl
          have hW1 : (W ++ (⟨#[10]⟩ : ByteArray)).size ≤ 2101 := by rw [ByteArray.size_append]; show W.size + 1 ≤ 2101; omega
          clear hqj hmem HT
          generalize zs[j] = z at *
          go_wp2
          go_loopw [9, 11] (fun v9 v11 wr => ∃ (p : Nat) (Wk : ByteArray), v11 = .int .i64 p ∧ v9 = .string Wk ∧ p ≤ z.size ∧ Wk.size ≤ 2100 ∧ Hid (T = Wk.data.toList ++ (adL a1.data.toList (⟨#[9]⟩ : ByteArray).data.toList (z.data.toList.drop p) true ++ tailF a1.data.toList (⟨#[9]⟩ : ByteArray).data.toList ((zs.map (fun y => y.data.toList)).drop (j + 1)))) ∧ w1 = wr)
            (fun _ i _ => z.size - (intOf i).toNat)
          case atStart => exact ⟨0, _, rfl, rfl, Nat.zero_le _, hW2, HT2, rfl⟩
          case round =>
            obtain ⟨p, Wk, rfl, rfl, hp, hWk, HT2, rfl⟩ := hrel
            clear hW2 hW1
            by_cases hpz : p < z.size
            · have hpl : p < z.data.toList.length := by simpa using hpz
              have HTL := hide (ad_tab a1.data.toList (⟨#[9]⟩ : ByteArray).data.toList z.data.toList p hpl)
              have hsk : z.data.toList[p] = z[p] := rfl
              have hdr : z.data.toList.drop p = z[p] :: z.data.toList.drop (p + 1) := List.drop_eq_getElem_cons hpl
              have HDR := hide hdr
              rw [hsk] at HTL
              clear hsk hdr
              by_cases h9 : z[p].toNat = 9
              · have e9 : ((z[p].toNat : Int) == 9) = true := by simp; omega
                have HT3 : Hid (T = (Wk ++ (⟨#[9]⟩ : ByteArray)).data.toList ++ (adL a1.data.toList (⟨#[9]⟩ : ByteArray).data.toList (z.data.toList.drop (p + 1)) true ++ tailF a1.data.toList (⟨#[9]⟩ : ByteArray).data.toList ((zs.map (fun y => y.data.toList)).drop (j + 1)))) := hide (by
                  rw [ByteArray.toList_data_append, List.append_assoc, ← List.append_assoc (⟨#[9]⟩ : ByteArray).data.toList, ← HTL.out h9]; exact HT2.out)
                have hW3 : (Wk ++ (⟨#[9]⟩ : ByteArray)).size ≤ 2100 := by rw [← len_data]; exact pre_le _ _ _ HT3.out hTl
                clear HT2 HTL HDR HZC h9
                go_wp2
                refine ⟨?_, by first | (simp [intOf]; done) | (simp [intOf]; omega)⟩
                first
                  | exact ⟨p + 1, Wk ++ (⟨#[9]⟩ : ByteArray), by go_num, rfl, by omega, hW3, HT3, by first | rfl | trivial⟩
                  | ((repeat apply Exists.intro); exact ⟨⟨p + 1, Wk ++ (⟨#[9]⟩ : ByteArray), by go_num, rfl, by omega, hW3, HT3, by first | rfl | trivial⟩, rfl⟩)
              · have e9 : ((z[p].toNat : Int) == 9) = false := by simp; omega
                have hlst : adL a1.data.toList (⟨#[9]⟩ : ByteArray).data.toList (z.data.toList.drop p) true = z.data.toList.drop p := ad_stop _ _ _ (fun d hd => HZC.out d (List.mem_of_mem_drop hd)) (by rw [HDR.out]; intro d hd; cases hd; exact h9)
                have HT3 : Hid (T = (Wk ++ z.extract p z.size).data.toList ++ tailF a1.data.toList (⟨#[9]⟩ : ByteArray).data.toList ((zs.map (fun y => y.data.toList)).drop (j + 1))) := hide (by
                  rw [ByteArray.toList_data_append, rest_data, List.append_assoc, ← hlst]; exact HT2.out)
                have hW3 : (Wk ++ z.extract p z.size).size ≤ 2100 := by rw [← len_data]; exact pre_le _ _ _ HT3.out hTl
                clear hlst HT2 HZC HTL HDR h9
                go_wp2
                refine ⟨?_, by first | (simp [intOf]; done) | (simp [intOf]; omega)⟩
                first
                  | exact ⟨j + 1, Wk ++ z.extract p z.size, by go_num, rfl, by omega, by omega, hW3, HT3, by first | rfl | trivial⟩
                  | ((repeat apply Exists.intro); exact ⟨⟨j + 1, Wk ++ z.extract p z.size, by go_num, rfl, by omega, by omega, hW3, HT3, by first | rfl | trivial⟩, rfl⟩)
            · obtain rfl : p = z.size := by omega
              have HTL := 0
              have hlst : adL a1.data.toList (⟨#[9]⟩ : ByteArray).data.toList (z.data.toList.drop z.size) true = [] := by rw [List.drop_of_length_le (by rw [len_data]; omega)]; rfl
              have HT3 : Hid (T = Wk.data.toList ++ tailF a1.data.toList (⟨#[9]⟩ : ByteArray).data.toList ((zs.map (fun y => y.data.toList)).drop (j + 1))) := hide (by
                have h := HT2.out
                rwa [hlst, List.nil_append] at h)
              clear hlst HT2 HZC HTL
              go_wp2
              refine ⟨?_, by first | (simp [intOf]; done) | (simp [intOf]; omega)⟩
              first
                | exact ⟨j + 1, Wk, by go_num, rfl, by omega, by omega, hWk, HT3, by first | rfl | trivial⟩
                | ((repeat apply Exists.intro); exact ⟨⟨j + 1, Wk, by go_num, rfl, by omega, by omega, hWk, HT3, by first | rfl | trivial⟩, rfl⟩)
        · obtain rfl : j = zs.length := by omega
          have HW : Hid ((⟨(adL a1.data.toList (unL a2.data.toList) a0.data.toList false).toArray⟩ : ByteArray) = W) := hide (by
            have h1 := HT.out
            rw [List.drop_of_length_le (by simp)] at h1
            have h2 : T = W.data.toList := by rw [h1]; simp [tailF]
            rw [HE.out, HTD.out, h2])
          clear HT HTD HE HCL HCZ HQ HSZ
          go_wp2_with fail
          refine (adaptx_any a0 a1 a2 W _ (by omega) (by omega) (by omega) HW.out).mono ?_
          rintro e w3 ⟨rfl, hb3⟩
          go_wp2_with fail
          refine (awake24_any _).mono ?_
          rintro e w6 ⟨rfl, hb6⟩
          go_wp2
          go_ret
          exact ⟨rfl, (by repeat (first | exact bl_refl _ | assumption | refine bl_alloc ?_ _ | refine bl_drewN ?_ _ | refine bl_drew ?_ | refine bl_trans ?_ (by assumption)))⟩
    · have HE : Hid (unL a2.data.toList = a2.data.toList) := hide (by unfold unL; rw [if_neg (by intro h; have := len_data a2; rw [h] at this; simp at this; omega)])
      have hV : a2.size ≤ 20 := hs2
      obtain ⟨T, hTd⟩ : ∃ T, adL a1.data.toList a2.data.toList a0.data.toList false = T := ⟨_, rfl⟩
      have hTl : T.length ≤ 2100 := by
        have := ad_size a1.data.toList a2.data.toList a0.data.toList false (by rw [len_data]; omega) (by rw [len_data]; omega)
        rw [hTd, len_data] at this
        omega
      have HTD := hide hTd
      clear hTd
      have hne := ne_bytes a2 (by omega)
      go_enter Try.func4, Try.ntmps4
      go_wp2_with fail
      refine (parts_any a0 _ (by omega)).mono ?_
      rintro e w1 ⟨v, zs, rfl, hb1, hv, HZ⟩
      have hzl : zs.length ≤ 101 := by
        have h1 := sp_many a0.data.toList []
        rw [← HZ.out, List.length_map, len_data] at h1
        omega
      have HCL := hide (sp_clean a0.data.toList [] (by simp))
      have HSZ := hide (sp_len a0.data.toList [])
      rw [← HZ.out] at HCL HSZ
      rcases own_form hv with ⟨_, h0, hx0⟩ | ⟨g, c, rfl, hg, hgl, hnc, hcm, hcs⟩
      · exfalso
        obtain ⟨x, r, hx, _⟩ := sp_acc a0.data.toList []
        rw [← HZ.out] at hx
        cases zs with
        | nil => cases hx
        | cons z r => cases h0
      have hn0 : 0 < zs.length := by
        obtain ⟨x, r, hx, _⟩ := sp_acc a0.data.toList []
        rw [← HZ.out] at hx
        cases zs with
        | nil => cases hx
        | cons z r => simp
      have hcz : ∀ j (hj : j < zs.length), w1.cell? ⟨g, j, none⟩ = some (.string zs[j]) := fun j hj => hcs j _ (by rw [List.getElem?_map, List.getElem?_eq_getElem hj]; rfl)
      have hq : ∀ j (hj : j < zs.length), (zs.map (fun y => y.data.toList)).drop j = zs[j].data.toList :: (zs.map (fun y => y.data.toList)).drop (j + 1) := by
        intro j hj
        rw [List.drop_eq_getElem_cons (by simpa using hj)]; simp
      have HCZ := hide hcz
      have HQ := hide hq
      have hc0 := hcz 0 hn0
      have hq0 := hq 0 hn0
      rw [List.drop_zero] at hq0
      have hmem : zs[0].data.toList ∈ zs.map (fun y => y.data.toList) := List.mem_map.2 ⟨zs[0], List.getElem_mem _, rfl⟩
      have HT1 : Hid (T = zs[0].data.toList ++ tailF a1.data.toList a2.data.toList ((zs.map (fun y => y.data.toList)).drop 1)) := hide (by
        rw [← HTD.out, ad_join _ _ _ false zs[0].data.toList ((zs.map (fun y => y.data.toList)).drop 1) (by rw [← HZ.out]; exact hq0), ad_clean _ _ zs[0].data.toList (HCL.out _ hmem)])
      have hz0s : zs[0].size ≤ 2100 := by rw [← len_data]; exact pre_le _ _ _ HT1.out hTl
      have hgw : g < w1.heap.size := hgl
      clear hcz hq hq0 hmem hcs hv HZ
      generalize zs[0] = z0 at *
      go_wp2_with fail
      go_loopw [9, 10] (fun v9 v10 wr => ∃ (j : Nat) (W : ByteArray), v10 = .int .i64 j ∧ v9 = .string W ∧ 1 ≤ j ∧ j ≤ zs.length ∧ W.size ≤ 2100 ∧ Hid (T = W.data.toList ++ tailF a1.data.toList a2.data.toList ((zs.map (fun y => y.data.toList)).drop j)) ∧ w1 = wr)
        (fun _ i _ => zs.length - (intOf i).toNat)
      case atStart => exact ⟨1, z0, rfl, rfl, Nat.le_refl _, hn0, hz0s, HT1, rfl⟩
      case round =>
        obtain ⟨j, W, rfl, rfl, hj1, hjn, hW, HT, rfl⟩ := hrel
        clear hc0 HT1 hz0s
        by_cases hlt : j < zs.length
        · have hcj := HCZ.out j hlt
          have hqj := HQ.out j hlt
          have hmem : zs[j].data.toList ∈ zs.map (fun y => y.data.toList) := List.mem_map.2 ⟨zs[j], List.getElem_mem _, rfl⟩
          have HZC := hide (HCL.out _ hmem)
          have hzz : zs[j].size ≤ 100 := by
            have h1 := HSZ.out _ hmem
            rw [len_data, len_data] at h1
            simp at h1
            omega
          have HT2 : Hid (T = (W ++ (⟨#[10]⟩ : ByteArray) ++ a1).data.toList ++ (adL a1.data.toList a2.data.toList (zs[j].data.toList.drop 0) true ++ tailF a1.data.toList a2.data.toList ((zs.map (fun y => y.data.toList)).drop (j + 1)))) := hide (by
            rw [HT.out, hqj, tail_cons, ByteArray.toList_data_append, ByteArray.toList_data_append, List.drop_zero]; simp)
          have hW2 : (W ++ (⟨#[10]⟩ : ByteArray) ++ a1).size ≤ 2100 := by rw [← len_data]; exact pre_le _ _ _ HT2.out hTl
          have hW1 : (W ++ (⟨#[10]⟩ : ByteArray)).size ≤ 2101 := by rw [ByteArray.size_append]; show W.size + 1 ≤ 2101; omega
          clear hqj hmem HT
          generalize zs[j] = z at *
          go_wp2
          go_loopw [9, 11] (fun v9 v11 wr => ∃ (p : Nat) (Wk : ByteArray), v11 = .int .i64 p ∧ v9 = .string Wk ∧ p ≤ z.size ∧ Wk.size ≤ 2100 ∧ Hid (T = Wk.data.toList ++ (adL a1.data.toList a2.data.toList (z.data.toList.drop p) true ++ tailF a1.data.toList a2.data.toList ((zs.map (fun y => y.data.toList)).drop (j + 1)))) ∧ w1 = wr)
            (fun _ i _ => z.size - (intOf i).toNat)
          case atStart => exact ⟨0, _, rfl, rfl, Nat.zero_le _, hW2, HT2, rfl⟩
          case round =>
            obtain ⟨p, Wk, rfl, rfl, hp, hWk, HT2, rfl⟩ := hrel
            clear hW2 hW1
            by_cases hpz : p < z.size
            · have hpl : p < z.data.toList.length := by simpa using hpz
              have HTL := hide (ad_tab a1.data.toList a2.data.toList z.data.toList p hpl)
              have hsk : z.data.toList[p] = z[p] := rfl
              have hdr : z.data.toList.drop p = z[p] :: z.data.toList.drop (p + 1) := List.drop_eq_getElem_cons hpl
              have HDR := hide hdr
              rw [hsk] at HTL
              clear hsk hdr
              by_cases h9 : z[p].toNat = 9
              · have e9 : ((z[p].toNat : Int) == 9) = true := by simp; omega
                have HT3 : Hid (T = (Wk ++ a2).data.toList ++ (adL a1.data.toList a2.data.toList (z.data.toList.drop (p + 1)) true ++ tailF a1.data.toList a2.data.toList ((zs.map (fun y => y.data.toList)).drop (j + 1)))) := hide (by
                  rw [ByteArray.toList_data_append, List.append_assoc, ← List.append_assoc a2.data.toList, ← HTL.out h9]; exact HT2.out)
                have hW3 : (Wk ++ a2).size ≤ 2100 := by rw [← len_data]; exact pre_le _ _ _ HT3.out hTl
                clear HT2 HTL HDR HZC h9
                go_wp2
                refine ⟨?_, by first | (simp [intOf]; done) | (simp [intOf]; omega)⟩
                first
                  | exact ⟨p + 1, Wk ++ a2, by go_num, rfl, by omega, hW3, HT3, by first | rfl | trivial⟩
                  | ((repeat apply Exists.intro); exact ⟨⟨p + 1, Wk ++ a2, by go_num, rfl, by omega, hW3, HT3, by first | rfl | trivial⟩, rfl⟩)
              · have e9 : ((z[p].toNat : Int) == 9) = false := by simp; omega
                have hlst : adL a1.data.toList a2.data.toList (z.data.toList.drop p) true = z.data.toList.drop p := ad_stop _ _ _ (fun d hd => HZC.out d (List.mem_of_mem_drop hd)) (by rw [HDR.out]; intro d hd; cases hd; exact h9)
                have HT3 : Hid (T = (Wk ++ z.extract p z.size).data.toList ++ tailF a1.data.toList a2.data.toList ((zs.map (fun y => y.data.toList)).drop (j + 1))) := hide (by
                  rw [ByteArray.toList_data_append, rest_data, List.append_assoc, ← hlst]; exact HT2.out)
                have hW3 : (Wk ++ z.extract p z.size).size ≤ 2100 := by rw [← len_data]; exact pre_le _ _ _ HT3.out hTl
                clear hlst HT2 HZC HTL HDR h9
                go_wp2
                refine ⟨?_, by first | (simp [intOf]; done) | (simp [intOf]; omega)⟩
                first
                  | exact ⟨j + 1, Wk ++ z.extract p z.size, by go_num, rfl, by omega, by omega, hW3, HT3, by first | rfl | trivial⟩
                  | ((repeat apply Exists.intro); exact ⟨⟨j + 1, Wk ++ z.extract p z.size, by go_num, rfl, by omega, by omega, hW3, HT3, by first | rfl | trivial⟩, rfl⟩)
            · obtain rfl : p = z.size := by omega
              have HTL := 0
              have hlst : adL a1.data.toList a2.data.toList (z.data.toList.drop z.size) true = [] := by rw [List.drop_of_length_le (by rw [len_data]; omega)]; rfl
              have HT3 : Hid (T = Wk.data.toList ++ tailF a1.data.toList a2.data.toList ((zs.map (fun y => y.data.toList)).drop (j + 1))) := hide (by
                have h := HT2.out
                rwa [hlst, List.nil_append] at h)
              clear hlst HT2 HZC HTL
              go_wp2
              refine ⟨?_, by first | (simp [intOf]; done) | (simp [intOf]; omega)⟩
              first
                | exact ⟨j + 1, Wk, by go_num, rfl, by omega, by omega, hWk, HT3, by first | rfl | trivial⟩
                | ((repeat apply Exists.intro); exact ⟨⟨j + 1, Wk, by go_num, rfl, by omega, by omega, hWk, HT3, by first | rfl | trivial⟩, rfl⟩)
        · obtain rfl : j = zs.length := by omega
          have HW : Hid ((⟨(adL a1.data.toList (unL a2.data.toList) a0.data.toList false).toArray⟩ : ByteArray) = W) := hide (by
            have h1 := HT.out
            rw [List.drop_of_length_le (by simp)] at h1
            have h2 : T = W.data.toList := by rw [h1]; simp [tailF]
            rw [HE.out, HTD.out, h2])
          clear HT HTD HE HCL HCZ HQ HSZ
          go_wp2_with fail
          refine (adaptx_any a0 a1 a2 W _ (by omega) (by omega) (by omega) HW.out).mono ?_
          rintro e w3 ⟨rfl, hb3⟩
          go_wp2_with fail
          refine (awake24_any _).mono ?_
          rintro e w6 ⟨rfl, hb6⟩
          go_wp2
          go_ret
          exact ⟨rfl, (by repeat (first | exact bl_refl _ | assumption | refine bl_alloc ?_ _ | refine bl_drewN ?_ _ | refine bl_drew ?_ | refine bl_trans ?_ (by assumption)))⟩
  · have hs1 : 100 < a0.size ∨ 20 < a1.size ∨ 20 < a2.size := by omega
    go_enter Try.func4, Try.ntmps4
    go_wp2_with fail
    all_goals
      refine (awake24_any _).mono ?_
      rintro e w1 ⟨rfl, hb1⟩
      go_wp2
      go_ret
      exact ⟨rfl, hb1⟩

set_option maxRecDepth 100000 in
theorem lifted (os : Os) (started : os.Started) (H : Type) (enc : TypeId × Value → H) :
    ReturnsInHanded {} Try.checked os 4 .any (Rows.leadLinesSpec.pre6 enc Try.prog Try.f4 Rows.leadLinesRow.domain false) (Rows.leadLinesSpec.post enc Try.prog Try.f4 false true false false) := by
  refine returnsInHanded_of_change (C := Try.checked) own started (by kernel_rfl) Try.func4
    (ChangeSpec.witness6 (enc := enc) (C := Try.checked) false ⟨#[], #[.string ByteArray.empty, .string ByteArray.empty, .string ByteArray.empty], []⟩ 8 (by kernel_rfl) (by kernel_rfl) (by kernel_rfl) (by kernel_rfl)) ?_
  intro W base args ds gs before hval0 hW hcnd _
  have hval : ∀ (j : Nat) t v, Try.f4.params[j]? = some t → args[j]? = some v → Value.okWide Try.prog W .any base t v := hval0
  have hW' := hW
  obtain ⟨p, q, hA0, hV, rfl, hfz, hnd⟩ := hW
  have hA : DataW.TrodAll enc Try.prog W 0 (fun _ => true) true Try.f4.params.toList args.toList ds p := hA0
  rw [Try.params4] at hA hval
  obtain ⟨v0, vs0, d0, ds0, p0, q0, hargs, rfl, rfl, h0, r0⟩ := trodAll_cons hA
  obtain ⟨v1, vs1, d1, ds1, p1, q1, rfl, rfl, rfl, h1, r1⟩ := trodAll_cons r0
  obtain ⟨v2, vs2, d2, ds2, p2, q2, rfl, rfl, rfl, h2, r2⟩ := trodAll_cons r1
  obtain ⟨rfl, rfl, rfl⟩ := trodAll_nil r2
  obtain rfl : args = #[v0, v1, v2] := by cases args; simp_all
  obtain ⟨rfl, rfl⟩ := trodVars_none hV
  have k0 := h0
  have lt0 : ∀ x ∈ p0, x.block < W.heap.size := by obtain ⟨m, hm⟩ := k0; exact DataW.trod_lt m _ _ _ hm
  obtain ⟨a0, rfl, hd0, hp0, w0⟩ := open_string Try.underlying9 (hval 0 9 v0 rfl rfl) h0
  have k1 := h1
  have lt1 : ∀ x ∈ p1, x.block < W.heap.size := by obtain ⟨m, hm⟩ := k1; exact DataW.trod_lt m _ _ _ hm
  obtain ⟨a1, rfl, hd1, hp1, w1⟩ := open_string Try.underlying9 (hval 1 9 v1 rfl rfl) h1
  have k2 := h2
  have lt2 : ∀ x ∈ p2, x.block < W.heap.size := by obtain ⟨m, hm⟩ := k2; exact DataW.trod_lt m _ _ _ hm
  obtain ⟨a2, rfl, hd2, hp2, w2⟩ := open_string Try.underlying9 (hval 2 9 v2 rfl rfl) h2
  clear hA0 hval0
  refine (walk a0 a1 a2 W w0 w1 w2).mono fun e W' ⟨he, bel⟩ => ?_
  subst he
  exact ⟨_, rfl, _, _, _, [], _, [], hW', trodAll_mk1 (shut_bool Try.underlying4 _), (trodAll_cons_mk (Below.trod laidOut (by kernel_rfl) (of_decide_eq_true (by kernel_rfl)) k0 bel lt0) (trodAll_cons_mk (Below.trod laidOut (by kernel_rfl) (of_decide_eq_true (by kernel_rfl)) k1 bel lt1) (trodAll_cons_mk (Below.trod laidOut (by kernel_rfl) (of_decide_eq_true (by kernel_rfl)) k2 bel lt2) trodAll_mk0))), rfl, bel.frame _, fun h => by cases h⟩

theorem over : Rows.leadLinesRow.holds Try.pinned (OpenSpec.ofChange Rows.leadLinesSpec) :=
  OpenClaim.holds_of_wide 4 Try.f4 rfl rfl rfl rfl rfl rfl rfl ⟨rfl, rfl, rfl, rfl, rfl⟩ rfl rfl rfl rfl rfl (by kernel_rfl) Try.func4 (by kernel_rfl)
    (of_decide_eq_true (by kernel_rfl)) (by unfold Func.isWrapper; first | (rw [if_pos (by decide +kernel)]; kernel_rfl) | (rw [if_neg (by decide +kernel)]; exact ⟨rfl, rfl⟩))
    (fun os started H enc _ => lifted os started H enc)

theorem proved : Rows.LeadLinesSaid := over
end Go.Proofs.Ytdlagabepilcfaa.leadLines
