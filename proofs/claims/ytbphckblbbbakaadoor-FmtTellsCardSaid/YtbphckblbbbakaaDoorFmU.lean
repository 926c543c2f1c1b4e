/- Contract: what stands behind a colon is read (reader.behindColon). Condition: a text that is not too long. -/
import Derived.Test.YtbphckblbbbakaaDoorFmT
namespace Go.Proofs.YtbphckblbbbakaaDoor
open Go.ChangeShapes Go.WideShapes Go.ChangeAt Go.RowKit
attribute [local go_sem ↓] Go.wp_at_zero Go.wp_at_succ
set_option maxRecDepth 100000
set_option linter.unusedVariables false
theorem until_e {w : World} {b k : Nat} {s : ByteArray} {g : List UInt8} (h : RdC w b s k g) (hk : k ≤ s.size) (hs : s.size ≤ 1000000) (hg : g.length ≤ 1000000) (en : UInt8) (ei : Int) (he : (en.toNat : Int) = ei) (z : Option (List UInt8 × List UInt8) × List UInt8) (hz : untG en (s.data.toList.drop k) g = z) :
    Calls Tryd.prog 57 #[.pointer (some ⟨b, 0, none⟩), .int .u8 ei] w (UtPost w b k s.size z) := he ▸ until_any h hk hs hg en z hz
theorem has_drop {s : ByteArray} {k : Nat} (c : UInt8) {ci : Int} (hc : (c.toNat : Int) = ci) (h : hasB s k ci = true) : k < s.size ∧ s.data.toList.drop k = c :: s.data.toList.drop (k + 1) := by
  unfold hasB at h
  split at h
  · rename_i hk
    refine ⟨hk, ?_⟩
    rw [drop_at s k hk, show s[k] = c from UInt8.toNat_inj.1 (by have := beq_iff_eq.1 h; omega)]
  · cases h
theorem has_not {s : ByteArray} {k : Nat} {c : UInt8} {ci : Int} (hc : (c.toNat : Int) = ci) (h : hasB s k ci = false) (l : List UInt8) : s.data.toList.drop k ≠ c :: l := by
  intro hd
  have hk : k < s.size := by
    have : 0 < (s.data.toList.drop k).length := by rw [hd]; simp
    rw [List.length_drop, Array.length_toList] at this
    show k < s.data.size
    omega
  rw [drop_at s k hk] at hd
  injection hd with hd _
  unfold hasB at h
  rw [dif_pos hk, hd, hc] at h
  simp at h
theorem colon_other {l g : List UInt8} (h1 : ∀ q, l ≠ 47 :: q) (h2 : ∀ q, l ≠ 43 :: q) (h3 : ∀ q, l ≠ 63 :: q) (h4 : ∀ q, l ≠ 45 :: q) : colonF l g = elseF l g := by
  unfold colonF
  split
  · exact absurd rfl (h1 _)
  · exact absurd rfl (h2 _)
  · exact absurd rfl (h3 _)
  · exact absurd rfl (h4 _)
  · rfl
theorem untG_suf {e : UInt8} {l g : List UInt8} {t r : List UInt8} {g' : List UInt8} (h : untG e l g = (some (t, r), g')) : r <:+ l := (unt_len h).2.2.2
theorem suf_drop {s : ByteArray} {k : Nat} {r : List UInt8} (h : r <:+ s.data.toList.drop k) : s.data.toList.drop (s.size - r.length) = r ∧ s.size - r.length ≤ s.size ∧ k ≤ s.size - r.length ∨ s.size < k := by
  by_cases hk : s.size < k
  · exact .inr hk
  left
  have h2 := h.trans (List.drop_suffix k _)
  have e : s.data.toList.length = s.size := Array.length_toList
  have hl := h.length_le
  rw [List.length_drop, e] at hl
  have hl2 := h2.length_le
  rw [e] at hl2
  refine ⟨?_, Nat.sub_le _ _, ?_⟩
  · have := List.suffix_iff_eq_drop.1 h2
    rw [e] at this
    exact this.symm
  · omega
theorem untG_g {e : UInt8} {l g : List UInt8} : (untG e l g).2.length ≤ g.length + 1 := by
  unfold untG; split
  · simp
  split
  · simp
  · simp
set_option maxHeartbeats 8000000 in
theorem colon_any {w : World} {b k : Nat} {s : ByteArray} {g : List UInt8} (h : RdC w b s k g) (hk : k ≤ s.size) (hs : s.size ≤ 1000000) (hg : g.length ≤ 900000) (z : Option (Fm × List UInt8) × List UInt8) (hz : colonF (s.data.toList.drop k) g = z) :
    Calls Tryd.prog 45 #[.pointer (some ⟨b, 0, none⟩)] w (RdPost w b s.size z.1 z.2) := by
  have H := hide h
  have hbl := h.lt
  clear h
  rcases hr1 : hasB s k 47 with _ | _
  rotate_left
  · obtain ⟨hk1, hd⟩ := has_drop 47 rfl hr1
    rw [hd] at hz
    have hz2 : ((turnedF (s.data.toList.drop (k + 1))).map (fun p => ((⟨2, 0, p.1, nilB, nilB⟩ : Fm), p.2)), g) = z := hz
    obtain ⟨y, hy⟩ : ∃ y, (turnedF (s.data.toList.drop (k + 1))).map (fun p => ((⟨2, 0, p.1, nilB, nilB⟩ : Fm), p.2)) = y := ⟨_, rfl⟩
    rw [hy] at hz2
    subst hz2
    have HY := hide hy
    have HK := hide (show k + 1 ≤ s.size from hk1)
    have HR := hide hr1
    clear hz hd hy hr1
    go_enter Tryd.func45, Tryd.ntmps45
    go_wp2_with fail
    have hba := bl_alloc (bl_refl w) (.cells #[.int .i64 0, .int .i64 0, .int .i64 0, .string ⟨#[]⟩, .string ⟨#[]⟩] 41)
    have HM0 := hide (rdr_bl hba H.out.pos H.out.gone)
    have HR0 := hide (fmr_new w)
    clear hba
    obtain ⟨w0, hw0⟩ : ∃ w0, w.alloc (.cells #[.int .i64 0, .int .i64 0, .int .i64 0, .string ⟨#[]⟩, .string ⟨#[]⟩] 41) = w0 := ⟨_, rfl⟩
    rw [hw0] at HM0 HR0 ⊢
    clear hw0
    refine (spot_take (HM0.out.at H.out).sp ((HM0.out.at H.out).froz _) 47 true HR.out hs).mono ?_
    rintro e w1 ⟨rfl, hm⟩
    have HM1 := hide (HM0.out.trans ((show Mvd w0 w1 b 0 (k + 1) from hm).rd HM0.out.gone))
    have HR1 := hide (HR0.out.grown hm.grown (Nat.ne_of_gt hbl))
    clear hm HM0 HR0
    rcases y with _ | ⟨f, r⟩
    · go_wp2_with fail
      refine (turned_any (HM1.out.at H.out) HK.out hs none HY.out).mono ?_
      rintro e w2 ⟨d, k2, rfl, hk2, hm⟩
      have HM2 := hide (HM1.out.trans hm)
      have HR2 := hide (HR1.out.grown hm.grown (Nat.ne_of_gt hbl))
      clear hm HM1 HR1
      unfold agF
      obtain ⟨⟨e0, e1, e2, e3, e4⟩, f0, f1, f2, f3, f4⟩ := HR2.out.five
      go_wp2
      (try simp only [Exit.inBlock, Exit.then])
      refine bodyPost_ret (v := .tuple #[agF d, .bool false]) ?_ rfl ⟨d, k2, rfl, hk2, ?_⟩
      · rw [results_cell_tmp rfl]
        unfold agF
        (try unfold nilB)
        go_simp
      · exact HM2.out.blB (by repeat (first | refine Below.setCell ?_ (by simp) _ | with_reducible exact Below.refl _ _)) hbl
    · go_wp2_with fail
      refine (turned_any (HM1.out.at H.out) HK.out hs (some (f, r)) HY.out).mono ?_
      rintro e w2 ⟨rfl, hm⟩
      have HM2 := hide (HM1.out.trans hm)
      have HR2 := hide (HR1.out.grown hm.grown (Nat.ne_of_gt hbl))
      clear hm HM1 HR1
      unfold agF
      obtain ⟨⟨e0, e1, e2, e3, e4⟩, f0, f1, f2, f3, f4⟩ := HR2.out.five
      go_wp2
      (try simp only [Exit.inBlock, Exit.then])
      refine bodyPost_ret (v := .tuple #[agF f, .bool true]) ?_ rfl ⟨rfl, ?_⟩
      · rw [results_cell_tmp rfl]
        unfold agF
        (try unfold nilB)
        go_simp
      · exact HM2.out.blB (by repeat (first | refine Below.setCell ?_ (by simp) _ | with_reducible exact Below.refl _ _)) hbl
  rcases hr2 : hasB s k 43 with _ | _
  rotate_left
  · obtain ⟨hk1, hd⟩ := has_drop 43 rfl hr2
    rw [hd, show ∀ l g, colonF (43 :: l) g = (match untG 125 l g with
      | (some (t, r), g) => (some (⟨3, 0, 0, mkB t, nilB⟩, r), g)
      | (none, g) => (none, g)) from fun _ _ => rfl] at hz
    obtain ⟨y, hy⟩ : ∃ y, untG 125 (s.data.toList.drop (k + 1)) g = y := ⟨_, rfl⟩
    rw [hy] at hz
    have HY := hide hy
    have HK := hide (show k + 1 ≤ s.size from hk1)
    have HRa := hide hr1
    have HRb := hide hr2
    have HG := hide (show g.length ≤ 1000000 by omega)
    clear hd hy hr1 hr2
    rcases y with ⟨_ | ⟨t, r⟩, g2⟩
    · subst hz
      go_enter Tryd.func45, Tryd.ntmps45
      go_wp2_with fail
      have hba := bl_alloc (bl_refl w) (.cells #[.int .i64 0, .int .i64 0, .int .i64 0, .string ⟨#[]⟩, .string ⟨#[]⟩] 41)
      have HM0 := hide (rdr_bl hba H.out.pos H.out.gone)
      have HR0 := hide (fmr_new w)
      clear hba
      obtain ⟨w0, hw0⟩ : ∃ w0, w.alloc (.cells #[.int .i64 0, .int .i64 0, .int .i64 0, .string ⟨#[]⟩, .string ⟨#[]⟩] 41) = w0 := ⟨_, rfl⟩
      rw [hw0] at HM0 HR0 ⊢
      clear hw0
      refine (spot_take (HM0.out.at H.out).sp ((HM0.out.at H.out).froz _) 47 false HRa.out hs).mono ?_
      rintro e w1 ⟨rfl, hm⟩
      have HM1 := hide (HM0.out.trans ((show Mvd w0 w1 b 0 (k) from hm).rd HM0.out.gone))
      have HR1 := hide (HR0.out.grown hm.grown (Nat.ne_of_gt hbl))
      clear hm HM0 HR0
      go_wp2_with fail
      refine (spot_take (HM1.out.at H.out).sp ((HM1.out.at H.out).froz _) 43 true HRb.out hs).mono ?_
      rintro e w2 ⟨rfl, hm⟩
      have HM2 := hide (HM1.out.trans ((show Mvd w1 w2 b 0 (k + 1) from hm).rd HM1.out.gone))
      have HR2 := hide (HR1.out.grown hm.grown (Nat.ne_of_gt hbl))
      clear hm HM1 HR1
      go_wp2_with fail
      refine (until_e (HM2.out.at H.out) HK.out hs HG.out 125 125 rfl _ HY.out).mono ?_
      rintro e w3 ⟨rfl, hm⟩
      have HM3 := hide (HM2.out.trans hm)
      have HR3 := hide (HR2.out.grown hm.grown (Nat.ne_of_gt hbl))
      clear hm HM2 HR2
      obtain ⟨⟨e0, e1, e2, e3, e4⟩, f0, f1, f2, f3, f4⟩ := HR3.out.five
      go_wp2
      (try simp only [Exit.inBlock, Exit.then])
      refine bodyPost_ret (v := .tuple #[agF ⟨3, 0, 0, nilB, nilB⟩, .bool false]) ?_ rfl ⟨_, k + 1, rfl, HK.out, ?_⟩
      · rw [results_cell_tmp rfl]
        unfold agF
        (try unfold nilB)
        go_simp
      · exact HM3.out.blB (by repeat (first | refine Below.setCell ?_ (by simp) _ | with_reducible exact Below.refl _ _)) hbl
    · subst hz
      go_enter Tryd.func45, Tryd.ntmps45
      go_wp2_with fail
      have hba := bl_alloc (bl_refl w) (.cells #[.int .i64 0, .int .i64 0, .int .i64 0, .string ⟨#[]⟩, .string ⟨#[]⟩] 41)
      have HM0 := hide (rdr_bl hba H.out.pos H.out.gone)
      have HR0 := hide (fmr_new w)
      clear hba
      obtain ⟨w0, hw0⟩ : ∃ w0, w.alloc (.cells #[.int .i64 0, .int .i64 0, .int .i64 0, .string ⟨#[]⟩, .string ⟨#[]⟩] 41) = w0 := ⟨_, rfl⟩
      rw [hw0] at HM0 HR0 ⊢
      clear hw0
      refine (spot_take (HM0.out.at H.out).sp ((HM0.out.at H.out).froz _) 47 false HRa.out hs).mono ?_
      rintro e w1 ⟨rfl, hm⟩
      have HM1 := hide (HM0.out.trans ((show Mvd w0 w1 b 0 (k) from hm).rd HM0.out.gone))
      have HR1 := hide (HR0.out.grown hm.grown (Nat.ne_of_gt hbl))
      clear hm HM0 HR0
      go_wp2_with fail
      refine (spot_take (HM1.out.at H.out).sp ((HM1.out.at H.out).froz _) 43 true HRb.out hs).mono ?_
      rintro e w2 ⟨rfl, hm⟩
      have HM2 := hide (HM1.out.trans ((show Mvd w1 w2 b 0 (k + 1) from hm).rd HM1.out.gone))
      have HR2 := hide (HR1.out.grown hm.grown (Nat.ne_of_gt hbl))
      clear hm HM1 HR1
      go_wp2_with fail
      refine (until_e (HM2.out.at H.out) HK.out hs HG.out 125 125 rfl _ HY.out).mono ?_
      rintro e w3 ⟨rfl, hm⟩
      have HM3 := hide (HM2.out.trans hm)
      have HR3 := hide (HR2.out.grown hm.grown (Nat.ne_of_gt hbl))
      clear hm HM2 HR2
      obtain ⟨⟨e0, e1, e2, e3, e4⟩, f0, f1, f2, f3, f4⟩ := HR3.out.five
      go_wp2
      (try simp only [Exit.inBlock, Exit.then])
      refine bodyPost_ret (v := .tuple #[agF ⟨3, 0, 0, mkB t, nilB⟩, .bool true]) ?_ rfl ⟨rfl, ?_⟩
      · rw [results_cell_tmp rfl]
        unfold agF
        (try unfold nilB)
        go_simp
      · exact HM3.out.blB (by repeat (first | refine Below.setCell ?_ (by simp) _ | with_reducible exact Below.refl _ _)) hbl
  rcases hr3 : hasB s k 63 with _ | _
  rotate_left
  · obtain ⟨hk1, hd⟩ := has_drop 63 rfl hr3
    rw [hd, show ∀ l g, colonF (63 :: l) g = (match untG 58 l g with
      | (some (t, r), g) => match untG 125 r g with
        | (some (u, r), g) => (some (⟨5, 0, 0, mkB t, mkB u⟩, r), g)
        | (none, g) => (none, g)
      | (none, g) => (none, g)) from fun _ _ => rfl] at hz
    obtain ⟨y, hy⟩ : ∃ y, untG 58 (s.data.toList.drop (k + 1)) g = y := ⟨_, rfl⟩
    rw [hy] at hz
    have HY := hide hy
    have HK := hide (show k + 1 ≤ s.size from hk1)
    have HRa := hide hr1
    have HRb := hide hr2
    have HRc := hide hr3
    have HG := hide (show g.length ≤ 1000000 by omega)
    have hg2 : y.2.length ≤ 1000000 := by have := untG_g (e := 58) (l := s.data.toList.drop (k + 1)) (g := g); rw [hy] at this; omega
    have hsf : ∀ t r g', y = (some (t, r), g') → s.data.toList.drop (s.size - r.length) = r ∧ s.size - r.length ≤ s.size := fun t r g' q => by
      have h1 := untG_suf (hy.trans q)
      rcases suf_drop h1 with h2 | h2
      · exact ⟨h2.1, h2.2.1⟩
      · omega
    have HSF := hide hsf
    have HG2 := hide hg2
    clear hd hy hr1 hr2 hr3 hsf hg2
    rcases y with ⟨_ | ⟨t, r⟩, g2⟩
    · subst hz
      go_enter Tryd.func45, Tryd.ntmps45
      go_wp2_with fail
      have hba := bl_alloc (bl_refl w) (.cells #[.int .i64 0, .int .i64 0, .int .i64 0, .string ⟨#[]⟩, .string ⟨#[]⟩] 41)
      have HM0 := hide (rdr_bl hba H.out.pos H.out.gone)
      have HR0 := hide (fmr_new w)
      clear hba
      obtain ⟨w0, hw0⟩ : ∃ w0, w.alloc (.cells #[.int .i64 0, .int .i64 0, .int .i64 0, .string ⟨#[]⟩, .string ⟨#[]⟩] 41) = w0 := ⟨_, rfl⟩
      rw [hw0] at HM0 HR0 ⊢
      clear hw0
      refine (spot_take (HM0.out.at H.out).sp ((HM0.out.at H.out).froz _) 47 false HRa.out hs).mono ?_
      rintro e w1 ⟨rfl, hm⟩
      have HM1 := hide (HM0.out.trans ((show Mvd w0 w1 b 0 (k) from hm).rd HM0.out.gone))
      have HR1 := hide (HR0.out.grown hm.grown (Nat.ne_of_gt hbl))
      clear hm HM0 HR0
      go_wp2_with fail
      refine (spot_take (HM1.out.at H.out).sp ((HM1.out.at H.out).froz _) 43 false HRb.out hs).mono ?_
      rintro e w2 ⟨rfl, hm⟩
      have HM2 := hide (HM1.out.trans ((show Mvd w1 w2 b 0 (k) from hm).rd HM1.out.gone))
      have HR2 := hide (HR1.out.grown hm.grown (Nat.ne_of_gt hbl))
      clear hm HM1 HR1
      go_wp2_with fail
      refine (spot_take (HM2.out.at H.out).sp ((HM2.out.at H.out).froz _) 63 true HRc.out hs).mono ?_
      rintro e w3 ⟨rfl, hm⟩
      have HM3 := hide (HM2.out.trans ((show Mvd w2 w3 b 0 (k + 1) from hm).rd HM2.out.gone))
      have HR3 := hide (HR2.out.grown hm.grown (Nat.ne_of_gt hbl))
      clear hm HM2 HR2
      go_wp2_with fail
      refine (until_e (HM3.out.at H.out) HK.out hs HG.out 58 58 rfl _ HY.out).mono ?_
      rintro e w4 ⟨rfl, hm⟩
      have HM4 := hide (HM3.out.trans hm)
      have HR4 := hide (HR3.out.grown hm.grown (Nat.ne_of_gt hbl))
      clear hm HM3 HR3
      obtain ⟨⟨e0, e1, e2, e3, e4⟩, f0, f1, f2, f3, f4⟩ := HR4.out.five
      go_wp2
      (try simp only [Exit.inBlock, Exit.then])
      refine bodyPost_ret (v := .tuple #[agF ⟨0, 0, 0, nilB, nilB⟩, .bool false]) ?_ rfl ⟨_, k + 1, rfl, HK.out, ?_⟩
      · rw [results_cell_tmp rfl]
        unfold agF
        (try unfold nilB)
        go_simp
      · exact HM4.out.blB (by repeat (first | refine Below.setCell ?_ (by simp) _ | with_reducible exact Below.refl _ _)) hbl
    · dsimp only at hz
      obtain ⟨y2, hy2⟩ : ∃ y2, untG 125 r g2 = y2 := ⟨_, rfl⟩
      rw [hy2] at hz
      obtain ⟨hdr, hle⟩ := HSF.out t r g2 rfl
      rw [← hdr] at hy2
      have HY2 := hide hy2
      have HLE := hide hle
      clear hy2 hdr hle HSF
      rcases y2 with ⟨_ | ⟨u, r2⟩, g3⟩
      · subst hz
        go_enter Tryd.func45, Tryd.ntmps45
        go_wp2_with fail
        have hba := bl_alloc (bl_refl w) (.cells #[.int .i64 0, .int .i64 0, .int .i64 0, .string ⟨#[]⟩, .string ⟨#[]⟩] 41)
        have HM0 := hide (rdr_bl hba H.out.pos H.out.gone)
        have HR0 := hide (fmr_new w)
        clear hba
        obtain ⟨w0, hw0⟩ : ∃ w0, w.alloc (.cells #[.int .i64 0, .int .i64 0, .int .i64 0, .string ⟨#[]⟩, .string ⟨#[]⟩] 41) = w0 := ⟨_, rfl⟩
        rw [hw0] at HM0 HR0 ⊢
        clear hw0
        refine (spot_take (HM0.out.at H.out).sp ((HM0.out.at H.out).froz _) 47 false HRa.out hs).mono ?_
        rintro e w1 ⟨rfl, hm⟩
        have HM1 := hide (HM0.out.trans ((show Mvd w0 w1 b 0 (k) from hm).rd HM0.out.gone))
        have HR1 := hide (HR0.out.grown hm.grown (Nat.ne_of_gt hbl))
        clear hm HM0 HR0
        go_wp2_with fail
        refine (spot_take (HM1.out.at H.out).sp ((HM1.out.at H.out).froz _) 43 false HRb.out hs).mono ?_
        rintro e w2 ⟨rfl, hm⟩
        have HM2 := hide (HM1.out.trans ((show Mvd w1 w2 b 0 (k) from hm).rd HM1.out.gone))
        have HR2 := hide (HR1.out.grown hm.grown (Nat.ne_of_gt hbl))
        clear hm HM1 HR1
        go_wp2_with fail
        refine (spot_take (HM2.out.at H.out).sp ((HM2.out.at H.out).froz _) 63 true HRc.out hs).mono ?_
        rintro e w3 ⟨rfl, hm⟩
        have HM3 := hide (HM2.out.trans ((show Mvd w2 w3 b 0 (k + 1) from hm).rd HM2.out.gone))
        have HR3 := hide (HR2.out.grown hm.grown (Nat.ne_of_gt hbl))
        clear hm HM2 HR2
        go_wp2_with fail
        refine (until_e (HM3.out.at H.out) HK.out hs HG.out 58 58 rfl _ HY.out).mono ?_
        rintro e w4 ⟨rfl, hm⟩
        have HM4 := hide (HM3.out.trans hm)
        have HR4 := hide (HR3.out.grown hm.grown (Nat.ne_of_gt hbl))
        clear hm HM3 HR3
        go_wp2_with fail
        refine (until_e (HM4.out.at H.out) HLE.out hs HG2.out 125 125 rfl _ HY2.out).mono ?_
        rintro e w5 ⟨rfl, hm⟩
        have HM5 := hide (HM4.out.trans hm)
        have HR5 := hide (HR4.out.grown hm.grown (Nat.ne_of_gt hbl))
        clear hm HM4 HR4
        obtain ⟨⟨e0, e1, e2, e3, e4⟩, f0, f1, f2, f3, f4⟩ := HR5.out.five
        go_wp2
        (try simp only [Exit.inBlock, Exit.then])
        refine bodyPost_ret (v := .tuple #[agF ⟨5, 0, 0, mkB t, nilB⟩, .bool false]) ?_ rfl ⟨_, s.size - r.length, rfl, HLE.out, ?_⟩
        · rw [results_cell_tmp rfl]
          unfold agF
          (try unfold nilB)
          go_simp
        · exact HM5.out.blB (by repeat (first | refine Below.setCell ?_ (by simp) _ | with_reducible exact Below.refl _ _)) hbl
      · subst hz
        go_enter Tryd.func45, Tryd.ntmps45
        go_wp2_with fail
        have hba := bl_alloc (bl_refl w) (.cells #[.int .i64 0, .int .i64 0, .int .i64 0, .string ⟨#[]⟩, .string ⟨#[]⟩] 41)
        have HM0 := hide (rdr_bl hba H.out.pos H.out.gone)
        have HR0 := hide (fmr_new w)
        clear hba
        obtain ⟨w0, hw0⟩ : ∃ w0, w.alloc (.cells #[.int .i64 0, .int .i64 0, .int .i64 0, .string ⟨#[]⟩, .string ⟨#[]⟩] 41) = w0 := ⟨_, rfl⟩
        rw [hw0] at HM0 HR0 ⊢
        clear hw0
        refine (spot_take (HM0.out.at H.out).sp ((HM0.out.at H.out).froz _) 47 false HRa.out hs).mono ?_
        rintro e w1 ⟨rfl, hm⟩
        have HM1 := hide (HM0.out.trans ((show Mvd w0 w1 b 0 (k) from hm).rd HM0.out.gone))
        have HR1 := hide (HR0.out.grown hm.grown (Nat.ne_of_gt hbl))
        clear hm HM0 HR0
        go_wp2_with fail
        refine (spot_take (HM1.out.at H.out).sp ((HM1.out.at H.out).froz _) 43 false HRb.out hs).mono ?_
        rintro e w2 ⟨rfl, hm⟩
        have HM2 := hide (HM1.out.trans ((show Mvd w1 w2 b 0 (k) from hm).rd HM1.out.gone))
        have HR2 := hide (HR1.out.grown hm.grown (Nat.ne_of_gt hbl))
        clear hm HM1 HR1
        go_wp2_with fail
        refine (spot_take (HM2.out.at H.out).sp ((HM2.out.at H.out).froz _) 63 true HRc.out hs).mono ?_
        rintro e w3 ⟨rfl, hm⟩
        have HM3 := hide (HM2.out.trans ((show Mvd w2 w3 b 0 (k + 1) from hm).rd HM2.out.gone))
        have HR3 := hide (HR2.out.grown hm.grown (Nat.ne_of_gt hbl))
        clear hm HM2 HR2
        go_wp2_with fail
        refine (until_e (HM3.out.at H.out) HK.out hs HG.out 58 58 rfl _ HY.out).mono ?_
        rintro e w4 ⟨rfl, hm⟩
        have HM4 := hide (HM3.out.trans hm)
        have HR4 := hide (HR3.out.grown hm.grown (Nat.ne_of_gt hbl))
        clear hm HM3 HR3
        go_wp2_with fail
        refine (until_e (HM4.out.at H.out) HLE.out hs HG2.out 125 125 rfl _ HY2.out).mono ?_
        rintro e w5 ⟨rfl, hm⟩
        have HM5 := hide (HM4.out.trans hm)
        have HR5 := hide (HR4.out.grown hm.grown (Nat.ne_of_gt hbl))
        clear hm HM4 HR4
        obtain ⟨⟨e0, e1, e2, e3, e4⟩, f0, f1, f2, f3, f4⟩ := HR5.out.five
        go_wp2
        (try simp only [Exit.inBlock, Exit.then])
        refine bodyPost_ret (v := .tuple #[agF ⟨5, 0, 0, mkB t, mkB u⟩, .bool true]) ?_ rfl ⟨rfl, ?_⟩
        · rw [results_cell_tmp rfl]
          unfold agF
          (try unfold nilB)
          go_simp
        · exact HM5.out.blB (by repeat (first | refine Below.setCell ?_ (by simp) _ | with_reducible exact Below.refl _ _)) hbl
  rcases hr4 : hasB s k 45 with _ | _
  rotate_left
  · obtain ⟨hk1, hd⟩ := has_drop 45 rfl hr4
    rw [hd, show ∀ l g, colonF (45 :: l) g = elseF l g from fun _ _ => rfl] at hz
    clear hd
    unfold elseF at hz
    obtain ⟨y, hy⟩ : ∃ y, untG 125 (s.data.toList.drop (k + 1)) g = y := ⟨_, rfl⟩
    rw [hy] at hz
    have HY := hide hy
    have HK := hide (show k + 1 ≤ s.size by omega)
    have HRa := hide hr1
    have HRb := hide hr2
    have HRc := hide hr3
    have HRd := hide hr4
    have HG := hide (show g.length ≤ 1000000 by omega)
    clear hy hr1 hr2 hr3 hr4
    rcases y with ⟨_ | ⟨t, r⟩, g2⟩
    · subst hz
      go_enter Tryd.func45, Tryd.ntmps45
      go_wp2_with fail
      have hba := bl_alloc (bl_refl w) (.cells #[.int .i64 0, .int .i64 0, .int .i64 0, .string ⟨#[]⟩, .string ⟨#[]⟩] 41)
      have HM0 := hide (rdr_bl hba H.out.pos H.out.gone)
      have HR0 := hide (fmr_new w)
      clear hba
      obtain ⟨w0, hw0⟩ : ∃ w0, w.alloc (.cells #[.int .i64 0, .int .i64 0, .int .i64 0, .string ⟨#[]⟩, .string ⟨#[]⟩] 41) = w0 := ⟨_, rfl⟩
      rw [hw0] at HM0 HR0 ⊢
      clear hw0
      refine (spot_take (HM0.out.at H.out).sp ((HM0.out.at H.out).froz _) 47 false HRa.out hs).mono ?_
      rintro e w1 ⟨rfl, hm⟩
      have HM1 := hide (HM0.out.trans ((show Mvd w0 w1 b 0 (k) from hm).rd HM0.out.gone))
      have HR1 := hide (HR0.out.grown hm.grown (Nat.ne_of_gt hbl))
      clear hm HM0 HR0
      go_wp2_with fail
      refine (spot_take (HM1.out.at H.out).sp ((HM1.out.at H.out).froz _) 43 false HRb.out hs).mono ?_
      rintro e w2 ⟨rfl, hm⟩
      have HM2 := hide (HM1.out.trans ((show Mvd w1 w2 b 0 (k) from hm).rd HM1.out.gone))
      have HR2 := hide (HR1.out.grown hm.grown (Nat.ne_of_gt hbl))
      clear hm HM1 HR1
      go_wp2_with fail
      refine (spot_take (HM2.out.at H.out).sp ((HM2.out.at H.out).froz _) 63 false HRc.out hs).mono ?_
      rintro e w3 ⟨rfl, hm⟩
      have HM3 := hide (HM2.out.trans ((show Mvd w2 w3 b 0 (k) from hm).rd HM2.out.gone))
      have HR3 := hide (HR2.out.grown hm.grown (Nat.ne_of_gt hbl))
      clear hm HM2 HR2
      go_wp2_with fail
      refine (spot_take (HM3.out.at H.out).sp ((HM3.out.at H.out).froz _) 45 true HRd.out hs).mono ?_
      rintro e w4 ⟨rfl, hm⟩
      have HM4 := hide (HM3.out.trans ((show Mvd w3 w4 b 0 (k + 1) from hm).rd HM3.out.gone))
      have HR4 := hide (HR3.out.grown hm.grown (Nat.ne_of_gt hbl))
      clear hm HM3 HR3
      go_wp2_with fail
      refine (until_e (HM4.out.at H.out) HK.out hs HG.out 125 125 rfl _ HY.out).mono ?_
      rintro e w5 ⟨rfl, hm⟩
      have HM5 := hide (HM4.out.trans hm)
      have HR5 := hide (HR4.out.grown hm.grown (Nat.ne_of_gt hbl))
      clear hm HM4 HR4
      obtain ⟨⟨e0, e1, e2, e3, e4⟩, f0, f1, f2, f3, f4⟩ := HR5.out.five
      go_wp2
      (try simp only [Exit.inBlock, Exit.then])
      refine bodyPost_ret (v := .tuple #[agF ⟨4, 0, 0, nilB, nilB⟩, .bool false]) ?_ rfl ⟨_, k + 1, rfl, HK.out, ?_⟩
      · rw [results_cell_tmp rfl]
        unfold agF
        (try unfold nilB)
        go_simp
      · exact HM5.out.blB (by repeat (first | refine Below.setCell ?_ (by simp) _ | with_reducible exact Below.refl _ _)) hbl
    · subst hz
      go_enter Tryd.func45, Tryd.ntmps45
      go_wp2_with fail
      have hba := bl_alloc (bl_refl w) (.cells #[.int .i64 0, .int .i64 0, .int .i64 0, .string ⟨#[]⟩, .string ⟨#[]⟩] 41)
      have HM0 := hide (rdr_bl hba H.out.pos H.out.gone)
      have HR0 := hide (fmr_new w)
      clear hba
      obtain ⟨w0, hw0⟩ : ∃ w0, w.alloc (.cells #[.int .i64 0, .int .i64 0, .int .i64 0, .string ⟨#[]⟩, .string ⟨#[]⟩] 41) = w0 := ⟨_, rfl⟩
      rw [hw0] at HM0 HR0 ⊢
      clear hw0
      refine (spot_take (HM0.out.at H.out).sp ((HM0.out.at H.out).froz _) 47 false HRa.out hs).mono ?_
      rintro e w1 ⟨rfl, hm⟩
      have HM1 := hide (HM0.out.trans ((show Mvd w0 w1 b 0 (k) from hm).rd HM0.out.gone))
      have HR1 := hide (HR0.out.grown hm.grown (Nat.ne_of_gt hbl))
      clear hm HM0 HR0
      go_wp2_with fail
      refine (spot_take (HM1.out.at H.out).sp ((HM1.out.at H.out).froz _) 43 false HRb.out hs).mono ?_
      rintro e w2 ⟨rfl, hm⟩
      have HM2 := hide (HM1.out.trans ((show Mvd w1 w2 b 0 (k) from hm).rd HM1.out.gone))
      have HR2 := hide (HR1.out.grown hm.grown (Nat.ne_of_gt hbl))
      clear hm HM1 HR1
      go_wp2_with fail
      refine (spot_take (HM2.out.at H.out).sp ((HM2.out.at H.out).froz _) 63 false HRc.out hs).mono ?_
      rintro e w3 ⟨rfl, hm⟩
      have HM3 := hide (HM2.out.trans ((show Mvd w2 w3 b 0 (k) from hm).rd HM2.out.gone))
      have HR3 := hide (HR2.out.grown hm.grown (Nat.ne_of_gt hbl))
      clear hm HM2 HR2
      go_wp2_with fail
      refine (spot_take (HM3.out.at H.out).sp ((HM3.out.at H.out).froz _) 45 true HRd.out hs).mono ?_
      rintro e w4 ⟨rfl, hm⟩
      have HM4 := hide (HM3.out.trans ((show Mvd w3 w4 b 0 (k + 1) from hm).rd HM3.out.gone))
      have HR4 := hide (HR3.out.grown hm.grown (Nat.ne_of_gt hbl))
      clear hm HM3 HR3
      go_wp2_with fail
      refine (until_e (HM4.out.at H.out) HK.out hs HG.out 125 125 rfl _ HY.out).mono ?_
      rintro e w5 ⟨rfl, hm⟩
      have HM5 := hide (HM4.out.trans hm)
      have HR5 := hide (HR4.out.grown hm.grown (Nat.ne_of_gt hbl))
      clear hm HM4 HR4
      obtain ⟨⟨e0, e1, e2, e3, e4⟩, f0, f1, f2, f3, f4⟩ := HR5.out.five
      go_wp2
      (try simp only [Exit.inBlock, Exit.then])
      refine bodyPost_ret (v := .tuple #[agF ⟨4, 0, 0, nilB, mkB t⟩, .bool true]) ?_ rfl ⟨rfl, ?_⟩
      · rw [results_cell_tmp rfl]
        unfold agF
        (try unfold nilB)
        go_simp
      · exact HM5.out.blB (by repeat (first | refine Below.setCell ?_ (by simp) _ | with_reducible exact Below.refl _ _)) hbl
  · rw [colon_other (has_not rfl hr1) (has_not rfl hr2) (has_not rfl hr3) (has_not rfl hr4)] at hz
    unfold elseF at hz
    obtain ⟨y, hy⟩ : ∃ y, untG 125 (s.data.toList.drop (k)) g = y := ⟨_, rfl⟩
    rw [hy] at hz
    have HY := hide hy
    have HK := hide (show k ≤ s.size by omega)
    have HRa := hide hr1
    have HRb := hide hr2
    have HRc := hide hr3
    have HRd := hide hr4
    have HG := hide (show g.length ≤ 1000000 by omega)
    clear hy hr1 hr2 hr3 hr4
    rcases y with ⟨_ | ⟨t, r⟩, g2⟩
    · subst hz
      go_enter Tryd.func45, Tryd.ntmps45
      go_wp2_with fail
      have hba := bl_alloc (bl_refl w) (.cells #[.int .i64 0, .int .i64 0, .int .i64 0, .string ⟨#[]⟩, .string ⟨#[]⟩] 41)
      have HM0 := hide (rdr_bl hba H.out.pos H.out.gone)
      have HR0 := hide (fmr_new w)
      clear hba
      obtain ⟨w0, hw0⟩ : ∃ w0, w.alloc (.cells #[.int .i64 0, .int .i64 0, .int .i64 0, .string ⟨#[]⟩, .string ⟨#[]⟩] 41) = w0 := ⟨_, rfl⟩
      rw [hw0] at HM0 HR0 ⊢
      clear hw0
      refine (spot_take (HM0.out.at H.out).sp ((HM0.out.at H.out).froz _) 47 false HRa.out hs).mono ?_
      rintro e w1 ⟨rfl, hm⟩
      have HM1 := hide (HM0.out.trans ((show Mvd w0 w1 b 0 (k) from hm).rd HM0.out.gone))
      have HR1 := hide (HR0.out.grown hm.grown (Nat.ne_of_gt hbl))
      clear hm HM0 HR0
      go_wp2_with fail
      refine (spot_take (HM1.out.at H.out).sp ((HM1.out.at H.out).froz _) 43 false HRb.out hs).mono ?_
      rintro e w2 ⟨rfl, hm⟩
      have HM2 := hide (HM1.out.trans ((show Mvd w1 w2 b 0 (k) from hm).rd HM1.out.gone))
      have HR2 := hide (HR1.out.grown hm.grown (Nat.ne_of_gt hbl))
      clear hm HM1 HR1
      go_wp2_with fail
      refine (spot_take (HM2.out.at H.out).sp ((HM2.out.at H.out).froz _) 63 false HRc.out hs).mono ?_
      rintro e w3 ⟨rfl, hm⟩
      have HM3 := hide (HM2.out.trans ((show Mvd w2 w3 b 0 (k) from hm).rd HM2.out.gone))
      have HR3 := hide (HR2.out.grown hm.grown (Nat.ne_of_gt hbl))
      clear hm HM2 HR2
      go_wp2_with fail
      refine (spot_take (HM3.out.at H.out).sp ((HM3.out.at H.out).froz _) 45 false HRd.out hs).mono ?_
      rintro e w4 ⟨rfl, hm⟩
      have HM4 := hide (HM3.out.trans ((show Mvd w3 w4 b 0 (k) from hm).rd HM3.out.gone))
      have HR4 := hide (HR3.out.grown hm.grown (Nat.ne_of_gt hbl))
      clear hm HM3 HR3
      go_wp2_with fail
      refine (until_e (HM4.out.at H.out) HK.out hs HG.out 125 125 rfl _ HY.out).mono ?_
      rintro e w5 ⟨rfl, hm⟩
      have HM5 := hide (HM4.out.trans hm)
      have HR5 := hide (HR4.out.grown hm.grown (Nat.ne_of_gt hbl))
      clear hm HM4 HR4
      obtain ⟨⟨e0, e1, e2, e3, e4⟩, f0, f1, f2, f3, f4⟩ := HR5.out.five
      go_wp2
      (try simp only [Exit.inBlock, Exit.then])
      refine bodyPost_ret (v := .tuple #[agF ⟨4, 0, 0, nilB, nilB⟩, .bool false]) ?_ rfl ⟨_, k, rfl, HK.out, ?_⟩
      · rw [results_cell_tmp rfl]
        unfold agF
        (try unfold nilB)
        go_simp
      · exact HM5.out.blB (by repeat (first | refine Below.setCell ?_ (by simp) _ | with_reducible exact Below.refl _ _)) hbl
    · subst hz
      go_enter Tryd.func45, Tryd.ntmps45
      go_wp2_with fail
      have hba := bl_alloc (bl_refl w) (.cells #[.int .i64 0, .int .i64 0, .int .i64 0, .string ⟨#[]⟩, .string ⟨#[]⟩] 41)
      have HM0 := hide (rdr_bl hba H.out.pos H.out.gone)
      have HR0 := hide (fmr_new w)
      clear hba
      obtain ⟨w0, hw0⟩ : ∃ w0, w.alloc (.cells #[.int .i64 0, .int .i64 0, .int .i64 0, .string ⟨#[]⟩, .string ⟨#[]⟩] 41) = w0 := ⟨_, rfl⟩
      rw [hw0] at HM0 HR0 ⊢
      clear hw0
      refine (spot_take (HM0.out.at H.out).sp ((HM0.out.at H.out).froz _) 47 false HRa.out hs).mono ?_
      rintro e w1 ⟨rfl, hm⟩
      have HM1 := hide (HM0.out.trans ((show Mvd w0 w1 b 0 (k) from hm).rd HM0.out.gone))
      have HR1 := hide (HR0.out.grown hm.grown (Nat.ne_of_gt hbl))
      clear hm HM0 HR0
      go_wp2_with fail
      refine (spot_take (HM1.out.at H.out).sp ((HM1.out.at H.out).froz _) 43 false HRb.out hs).mono ?_
      rintro e w2 ⟨rfl, hm⟩
      have HM2 := hide (HM1.out.trans ((show Mvd w1 w2 b 0 (k) from hm).rd HM1.out.gone))
      have HR2 := hide (HR1.out.grown hm.grown (Nat.ne_of_gt hbl))
      clear hm HM1 HR1
      go_wp2_with fail
      refine (spot_take (HM2.out.at H.out).sp ((HM2.out.at H.out).froz _) 63 false HRc.out hs).mono ?_
      rintro e w3 ⟨rfl, hm⟩
      have HM3 := hide (HM2.out.trans ((show Mvd w2 w3 b 0 (k) from hm).rd HM2.out.gone))
      have HR3 := hide (HR2.out.grown hm.grown (Nat.ne_of_gt hbl))
      clear hm HM2 HR2
      go_wp2_with fail
      refine (spot_take (HM3.out.at H.out).sp ((HM3.out.at H.out).froz _) 45 false HRd.out hs).mono ?_
      rintro e w4 ⟨rfl, hm⟩
      have HM4 := hide (HM3.out.trans ((show Mvd w3 w4 b 0 (k) from hm).rd HM3.out.gone))
      have HR4 := hide (HR3.out.grown hm.grown (Nat.ne_of_gt hbl))
      clear hm HM3 HR3
      go_wp2_with fail
      refine (until_e (HM4.out.at H.out) HK.out hs HG.out 125 125 rfl _ HY.out).mono ?_
      rintro e w5 ⟨rfl, hm⟩
      have HM5 := hide (HM4.out.trans hm)
      have HR5 := hide (HR4.out.grown hm.grown (Nat.ne_of_gt hbl))
      clear hm HM4 HR4
      obtain ⟨⟨e0, e1, e2, e3, e4⟩, f0, f1, f2, f3, f4⟩ := HR5.out.five
      go_wp2
      (try simp only [Exit.inBlock, Exit.then])
      refine bodyPost_ret (v := .tuple #[agF ⟨4, 0, 0, nilB, mkB t⟩, .bool true]) ?_ rfl ⟨rfl, ?_⟩
      · rw [results_cell_tmp rfl]
        unfold agF
        (try unfold nilB)
        go_simp
      · exact HM5.out.blB (by repeat (first | refine Below.setCell ?_ (by simp) _ | with_reducible exact Below.refl _ _)) hbl
end Go.Proofs.YtbphckblbbbakaaDoor
