/- Contract: a part of a format that begins with a dollar is read (reader.part). Condition: a text that is not too long. -/
import Derived.Test.YtbphckblbbbakaaDoorFmU
namespace Go.Proofs.YtbphckblbbbakaaDoor
open Go.ChangeShapes Go.WideShapes Go.ChangeAt Go.RowKit
attribute [local go_sem ↓] Go.wp_at_zero Go.wp_at_succ
set_option maxRecDepth 100000
set_option linter.unusedVariables false
theorem part_no {l g : List UInt8} (h : ∀ q, l ≠ 36 :: q) : partF l g = (none, g) := by
  cases l with
  | nil => rfl
  | cons c l => exact part_not (fun e => h l (by rw [e])) l g
theorem part_dol {l g : List UInt8} (h : ∀ q, l ≠ 123 :: q) : partF (36 :: l) g = dolF (numF l) g := by
  unfold partF
  split
  · rename_i hq; injection hq with _ hq; exact absurd hq (h _)
  · rename_i hq; injection hq with _ hq; subst hq; rfl
  · rename_i h1; exact absurd rfl (h1 _)
theorem br_no {n : Nat} {r g : List UInt8} (h1 : ∀ q, r ≠ 125 :: q) (h2 : ∀ q, r ≠ 58 :: q) : brF (some (n, r)) g = (none, g) := by
  unfold brF
  split
  · rename_i hq; injection hq with hq; injection hq with _ hq; exact absurd hq (h1 _)
  · rename_i hq; injection hq with hq; injection hq with _ hq; exact absurd hq (h2 _)
  · rfl
set_option maxHeartbeats 8000000 in
theorem part_any {w : World} {b k : Nat} {s : ByteArray} {g : List UInt8} (h : RdC w b s k g) (hk : k ≤ s.size) (hs : s.size ≤ 1000000) (hg : g.length ≤ 900000) (z : Option (Fm × List UInt8) × List UInt8) (hz : partF (s.data.toList.drop k) g = z) :
    Calls Tryd.prog 32 #[.pointer (some ⟨b, 0, none⟩)] w (RdPost w b s.size z.1 z.2) := by
  have H := hide h
  have hbl := h.lt
  clear h
  rcases hr1 : hasB s k 36 with _ | _
  · rw [part_no (has_not rfl hr1)] at hz
    have HRa := hide hr1
    clear hr1
    subst hz
    go_enter Tryd.func32, Tryd.ntmps32
    go_wp2_with fail
    have hba := bl_alloc (bl_refl w) (.cells #[.int .i64 0, .int .i64 0, .int .i64 0, .string ⟨#[]⟩, .string ⟨#[]⟩] 41)
    have HM0 := hide (rdr_bl hba H.out.pos H.out.gone)
    have HR0 := hide (fmr_new w)
    clear hba
    obtain ⟨w0, hw0⟩ : ∃ w0, w.alloc (.cells #[.int .i64 0, .int .i64 0, .int .i64 0, .string ⟨#[]⟩, .string ⟨#[]⟩] 41) = w0 := ⟨_, rfl⟩
    rw [hw0] at HM0 HR0 ⊢
    clear hw0
    refine (spot_take (HM0.out.at H.out).sp ((HM0.out.at H.out).froz _) 36 false HRa.out hs).mono ?_
    rintro e w1 ⟨rfl, hm⟩
    have HM1 := hide (HM0.out.trans ((show Mvd w0 w1 b 0 (k) from hm).rd HM0.out.gone))
    have HR1 := hide (HR0.out.grown hm.grown (Nat.ne_of_gt hbl))
    clear hm HM0 HR0
    obtain ⟨⟨e0, e1, e2, e3, e4⟩, f0, f1, f2, f3, f4⟩ := HR1.out.five
    go_wp2
    (try simp only [Exit.inBlock, Exit.then])
    refine bodyPost_ret (v := .tuple #[agF ⟨0, 0, 0, nilB, nilB⟩, .bool false]) ?_ rfl ⟨_, k, rfl, hk, ?_⟩
    · rw [results_cell_tmp rfl]
      unfold agF
      (try unfold nilB)
      go_simp
    · exact HM1.out.blB (by repeat (first | refine Below.setCell ?_ (by simp) _ | with_reducible exact Below.refl _ _)) hbl
  obtain ⟨hk1, hd⟩ := has_drop 36 rfl hr1
  rw [hd] at hz
  have HRa := hide hr1
  clear hr1
  rcases hr2 : hasB s (k + 1) 123 with _ | _
  · rw [part_dol (has_not rfl hr2)] at hz
    have HRb := hide hr2
    obtain ⟨y, hy⟩ : ∃ y, numF (s.data.toList.drop (k + 1)) = y := ⟨_, rfl⟩
    rw [hy] at hz
    have HN := hide hy
    clear hr2 hd hy
    rcases y with _ | ⟨n, r⟩
    · subst hz
      go_enter Tryd.func32, Tryd.ntmps32
      go_wp2_with fail
      have hba := bl_alloc (bl_refl w) (.cells #[.int .i64 0, .int .i64 0, .int .i64 0, .string ⟨#[]⟩, .string ⟨#[]⟩] 41)
      have HM0 := hide (rdr_bl hba H.out.pos H.out.gone)
      have HR0 := hide (fmr_new w)
      clear hba
      obtain ⟨w0, hw0⟩ : ∃ w0, w.alloc (.cells #[.int .i64 0, .int .i64 0, .int .i64 0, .string ⟨#[]⟩, .string ⟨#[]⟩] 41) = w0 := ⟨_, rfl⟩
      rw [hw0] at HM0 HR0 ⊢
      clear hw0
      refine (spot_take (HM0.out.at H.out).sp ((HM0.out.at H.out).froz _) 36 true HRa.out hs).mono ?_
      rintro e w1 ⟨rfl, hm⟩
      have HM1 := hide (HM0.out.trans ((show Mvd w0 w1 b 0 (k + 1) from hm).rd HM0.out.gone))
      have HR1 := hide (HR0.out.grown hm.grown (Nat.ne_of_gt hbl))
      clear hm HM0 HR0
      go_wp2_with fail
      refine (spot_take (HM1.out.at H.out).sp ((HM1.out.at H.out).froz _) 123 false HRb.out hs).mono ?_
      rintro e w2 ⟨rfl, hm⟩
      have HM2 := hide (HM1.out.trans ((show Mvd w1 w2 b 0 (k + 1) from hm).rd HM1.out.gone))
      have HR2 := hide (HR1.out.grown hm.grown (Nat.ne_of_gt hbl))
      clear hm HM1 HR1
      go_wp2_with fail
      refine (spot_number (HM2.out.at H.out).sp ((HM2.out.at H.out).froz _) hk1 hs _ HN.out).mono ?_
      rintro e w3 ⟨rfl, hm⟩
      have HM3 := hide (HM2.out.trans (hm.rd HM2.out.gone))
      have HR3 := hide (HR2.out.grown hm.grown (Nat.ne_of_gt hbl))
      clear hm HM2 HR2
      obtain ⟨⟨e0, e1, e2, e3, e4⟩, f0, f1, f2, f3, f4⟩ := HR3.out.five
      go_wp2
      (try simp only [Exit.inBlock, Exit.then])
      refine bodyPost_ret (v := .tuple #[agF ⟨0, 0, 0, nilB, nilB⟩, .bool false]) ?_ rfl ⟨_, k + 1, rfl, hk1, ?_⟩
      · rw [results_cell_tmp rfl]
        unfold agF
        (try unfold nilB)
        go_simp
      · exact HM3.out.blB (by repeat (first | refine Below.setCell ?_ (by simp) _ | with_reducible exact Below.refl _ _)) hbl
    · subst hz
      go_enter Tryd.func32, Tryd.ntmps32
      go_wp2_with fail
      have hba := bl_alloc (bl_refl w) (.cells #[.int .i64 0, .int .i64 0, .int .i64 0, .string ⟨#[]⟩, .string ⟨#[]⟩] 41)
      have HM0 := hide (rdr_bl hba H.out.pos H.out.gone)
      have HR0 := hide (fmr_new w)
      clear hba
      obtain ⟨w0, hw0⟩ : ∃ w0, w.alloc (.cells #[.int .i64 0, .int .i64 0, .int .i64 0, .string ⟨#[]⟩, .string ⟨#[]⟩] 41) = w0 := ⟨_, rfl⟩
      rw [hw0] at HM0 HR0 ⊢
      clear hw0
      refine (spot_take (HM0.out.at H.out).sp ((HM0.out.at H.out).froz _) 36 true HRa.out hs).mono ?_
      rintro e w1 ⟨rfl, hm⟩
      have HM1 := hide (HM0.out.trans ((show Mvd w0 w1 b 0 (k + 1) from hm).rd HM0.out.gone))
      have HR1 := hide (HR0.out.grown hm.grown (Nat.ne_of_gt hbl))
      clear hm HM0 HR0
      go_wp2_with fail
      refine (spot_take (HM1.out.at H.out).sp ((HM1.out.at H.out).froz _) 123 false HRb.out hs).mono ?_
      rintro e w2 ⟨rfl, hm⟩
      have HM2 := hide (HM1.out.trans ((show Mvd w1 w2 b 0 (k + 1) from hm).rd HM1.out.gone))
      have HR2 := hide (HR1.out.grown hm.grown (Nat.ne_of_gt hbl))
      clear hm HM1 HR1
      go_wp2_with fail
      refine (spot_number (HM2.out.at H.out).sp ((HM2.out.at H.out).froz _) hk1 hs _ HN.out).mono ?_
      rintro e w3 ⟨rfl, hm⟩
      have HM3 := hide (HM2.out.trans (hm.rd HM2.out.gone))
      have HR3 := hide (HR2.out.grown hm.grown (Nat.ne_of_gt hbl))
      clear hm HM2 HR2
      obtain ⟨⟨e0, e1, e2, e3, e4⟩, f0, f1, f2, f3, f4⟩ := HR3.out.five
      go_wp2
      (try simp only [Exit.inBlock, Exit.then])
      refine bodyPost_ret (v := .tuple #[agF ⟨1, n, 0, nilB, nilB⟩, .bool true]) ?_ rfl ⟨rfl, ?_⟩
      · rw [results_cell_tmp rfl]
        unfold agF
        (try unfold nilB)
        go_simp
      · exact HM3.out.blB (by repeat (first | refine Below.setCell ?_ (by simp) _ | with_reducible exact Below.refl _ _)) hbl
  obtain ⟨hk2, hd2⟩ := has_drop 123 rfl hr2
  rw [hd2, show ∀ l g, partF (36 :: 123 :: l) g = brF (numF l) g from fun _ _ => rfl] at hz
  have HRb := hide hr2
  have HK2 := hide (show k + 1 + 1 ≤ s.size from hk2)
  obtain ⟨y, hy⟩ : ∃ y, numF (s.data.toList.drop (k + 1 + 1)) = y := ⟨_, rfl⟩
  rw [hy] at hz
  have HN := hide hy
  clear hr2 hd hd2
  rcases y with _ | ⟨n, r⟩
  · subst hz
    clear hy
    go_enter Tryd.func32, Tryd.ntmps32
    go_wp2_with fail
    have hba := bl_alloc (bl_refl w) (.cells #[.int .i64 0, .int .i64 0, .int .i64 0, .string ⟨#[]⟩, .string ⟨#[]⟩] 41)
    have HM0 := hide (rdr_bl hba H.out.pos H.out.gone)
    have HR0 := hide (fmr_new w)
    clear hba
    obtain ⟨w0, hw0⟩ : ∃ w0, w.alloc (.cells #[.int .i64 0, .int .i64 0, .int .i64 0, .string ⟨#[]⟩, .string ⟨#[]⟩] 41) = w0 := ⟨_, rfl⟩
    rw [hw0] at HM0 HR0 ⊢
    clear hw0
    refine (spot_take (HM0.out.at H.out).sp ((HM0.out.at H.out).froz _) 36 true HRa.out hs).mono ?_
    rintro e w1 ⟨rfl, hm⟩
    have HM1 := hide (HM0.out.trans ((show Mvd w0 w1 b 0 (k + 1) from hm).rd HM0.out.gone))
    have HR1 := hide (HR0.out.grown hm.grown (Nat.ne_of_gt hbl))
    clear hm HM0 HR0
    go_wp2_with fail
    refine (spot_take (HM1.out.at H.out).sp ((HM1.out.at H.out).froz _) 123 true HRb.out hs).mono ?_
    rintro e w2 ⟨rfl, hm⟩
    have HM2 := hide (HM1.out.trans ((show Mvd w1 w2 b 0 (k + 1 + 1) from hm).rd HM1.out.gone))
    have HR2 := hide (HR1.out.grown hm.grown (Nat.ne_of_gt hbl))
    clear hm HM1 HR1
    go_wp2_with fail
    refine (spot_number (HM2.out.at H.out).sp ((HM2.out.at H.out).froz _) HK2.out hs _ HN.out).mono ?_
    rintro e w3 ⟨rfl, hm⟩
    have HM3 := hide (HM2.out.trans (hm.rd HM2.out.gone))
    have HR3 := hide (HR2.out.grown hm.grown (Nat.ne_of_gt hbl))
    clear hm HM2 HR2
    obtain ⟨⟨e0, e1, e2, e3, e4⟩, f0, f1, f2, f3, f4⟩ := HR3.out.five
    go_wp2
    (try simp only [Exit.inBlock, Exit.then])
    refine bodyPost_ret (v := .tuple #[agF ⟨0, 0, 0, nilB, nilB⟩, .bool false]) ?_ rfl ⟨_, k + 1 + 1, rfl, HK2.out, ?_⟩
    · rw [results_cell_tmp rfl]
      unfold agF
      (try unfold nilB)
      go_simp
    · exact HM3.out.blB (by repeat (first | refine Below.setCell ?_ (by simp) _ | with_reducible exact Below.refl _ _)) hbl
  have hsf := suf_drop (num_lt hy).2.2
  obtain ⟨hdr, hle, _⟩ := hsf.resolve_right (by omega)
  obtain ⟨n9, _⟩ := num_lt hy
  obtain ⟨p, hp⟩ : ∃ p, s.size - r.length = p := ⟨_, rfl⟩
  rw [hp] at hdr hle
  rw [← hdr] at hz
  have HP := hide hp
  have HLE := hide hle
  clear hy hp hsf
  rcases hr3 : hasB s p 125 with _ | _
  rotate_left
  · obtain ⟨hk3, hd3⟩ := has_drop 125 rfl hr3
    rw [hd3, show ∀ n l g, brF (some (n, 125 :: l)) g = (some (⟨1, n, 0, nilB, nilB⟩, l), g) from fun _ _ _ => rfl] at hz
    have hlen : s.size - (s.data.toList.drop (p + 1)).length = p + 1 := by rw [List.length_drop, Array.length_toList]; show s.size - (s.size - (p + 1)) = _; omega
    have HLEN := hide hlen
    have HRc := hide hr3
    clear hr3 hd3 hdr hle hlen
    subst hz
    go_enter Tryd.func32, Tryd.ntmps32
    go_wp2_with fail
    have hba := bl_alloc (bl_refl w) (.cells #[.int .i64 0, .int .i64 0, .int .i64 0, .string ⟨#[]⟩, .string ⟨#[]⟩] 41)
    have HM0 := hide (rdr_bl hba H.out.pos H.out.gone)
    have HR0 := hide (fmr_new w)
    clear hba
    obtain ⟨w0, hw0⟩ : ∃ w0, w.alloc (.cells #[.int .i64 0, .int .i64 0, .int .i64 0, .string ⟨#[]⟩, .string ⟨#[]⟩] 41) = w0 := ⟨_, rfl⟩
    rw [hw0] at HM0 HR0 ⊢
    clear hw0
    refine (spot_take (HM0.out.at H.out).sp ((HM0.out.at H.out).froz _) 36 true HRa.out hs).mono ?_
    rintro e w1 ⟨rfl, hm⟩
    have HM1 := hide (HM0.out.trans ((show Mvd w0 w1 b 0 (k + 1) from hm).rd HM0.out.gone))
    have HR1 := hide (HR0.out.grown hm.grown (Nat.ne_of_gt hbl))
    clear hm HM0 HR0
    go_wp2_with fail
    refine (spot_take (HM1.out.at H.out).sp ((HM1.out.at H.out).froz _) 123 true HRb.out hs).mono ?_
    rintro e w2 ⟨rfl, hm⟩
    have HM2 := hide (HM1.out.trans ((show Mvd w1 w2 b 0 (k + 1 + 1) from hm).rd HM1.out.gone))
    have HR2 := hide (HR1.out.grown hm.grown (Nat.ne_of_gt hbl))
    clear hm HM1 HR1
    go_wp2_with fail
    refine (spot_number (HM2.out.at H.out).sp ((HM2.out.at H.out).froz _) HK2.out hs _ HN.out).mono ?_
    rintro e w3 ⟨rfl, hm⟩
    have HM3 := hide (HM2.out.trans (hm.rd HM2.out.gone))
    have HR3 := hide (HR2.out.grown hm.grown (Nat.ne_of_gt hbl))
    clear hm HM2 HR2
    rw [HP.out] at HM3
    go_wp2_with fail
    refine (spot_take (HM3.out.at H.out).sp ((HM3.out.at H.out).froz _) 125 true HRc.out hs).mono ?_
    rintro e w4 ⟨rfl, hm⟩
    have HM4 := hide (HM3.out.trans ((show Mvd w3 w4 b 0 (p + 1) from hm).rd HM3.out.gone))
    have HR4 := hide (HR3.out.grown hm.grown (Nat.ne_of_gt hbl))
    clear hm HM3 HR3
    rw [← HLEN.out] at HM4
    obtain ⟨⟨e0, e1, e2, e3, e4⟩, f0, f1, f2, f3, f4⟩ := HR4.out.five
    go_wp2
    (try simp only [Exit.inBlock, Exit.then])
    refine bodyPost_ret (v := .tuple #[agF ⟨1, n, 0, nilB, nilB⟩, .bool true]) ?_ rfl ⟨rfl, ?_⟩
    · rw [results_cell_tmp rfl]
      unfold agF
      (try unfold nilB)
      go_simp
    · exact HM4.out.blB (by repeat (first | refine Below.setCell ?_ (by simp) _ | with_reducible exact Below.refl _ _)) hbl
  rcases hr4 : hasB s p 58 with _ | _
  · rw [br_no (has_not rfl hr3) (has_not rfl hr4)] at hz
    have HRc := hide hr3
    have HRd := hide hr4
    clear hr3 hr4 hdr hle
    subst hz
    go_enter Tryd.func32, Tryd.ntmps32
    go_wp2_with fail
    have hba := bl_alloc (bl_refl w) (.cells #[.int .i64 0, .int .i64 0, .int .i64 0, .string ⟨#[]⟩, .string ⟨#[]⟩] 41)
    have HM0 := hide (rdr_bl hba H.out.pos H.out.gone)
    have HR0 := hide (fmr_new w)
    clear hba
    obtain ⟨w0, hw0⟩ : ∃ w0, w.alloc (.cells #[.int .i64 0, .int .i64 0, .int .i64 0, .string ⟨#[]⟩, .string ⟨#[]⟩] 41) = w0 := ⟨_, rfl⟩
    rw [hw0] at HM0 HR0 ⊢
    clear hw0
    refine (spot_take (HM0.out.at H.out).sp ((HM0.out.at H.out).froz _) 36 true HRa.out hs).mono ?_
    rintro e w1 ⟨rfl, hm⟩
    have HM1 := hide (HM0.out.trans ((show Mvd w0 w1 b 0 (k + 1) from hm).rd HM0.out.gone))
    have HR1 := hide (HR0.out.grown hm.grown (Nat.ne_of_gt hbl))
    clear hm HM0 HR0
    go_wp2_with fail
    refine (spot_take (HM1.out.at H.out).sp ((HM1.out.at H.out).froz _) 123 true HRb.out hs).mono ?_
    rintro e w2 ⟨rfl, hm⟩
    have HM2 := hide (HM1.out.trans ((show Mvd w1 w2 b 0 (k + 1 + 1) from hm).rd HM1.out.gone))
    have HR2 := hide (HR1.out.grown hm.grown (Nat.ne_of_gt hbl))
    clear hm HM1 HR1
    go_wp2_with fail
    refine (spot_number (HM2.out.at H.out).sp ((HM2.out.at H.out).froz _) HK2.out hs _ HN.out).mono ?_
    rintro e w3 ⟨rfl, hm⟩
    have HM3 := hide (HM2.out.trans (hm.rd HM2.out.gone))
    have HR3 := hide (HR2.out.grown hm.grown (Nat.ne_of_gt hbl))
    clear hm HM2 HR2
    rw [HP.out] at HM3
    go_wp2_with fail
    refine (spot_take (HM3.out.at H.out).sp ((HM3.out.at H.out).froz _) 125 false HRc.out hs).mono ?_
    rintro e w4 ⟨rfl, hm⟩
    have HM4 := hide (HM3.out.trans ((show Mvd w3 w4 b 0 (p) from hm).rd HM3.out.gone))
    have HR4 := hide (HR3.out.grown hm.grown (Nat.ne_of_gt hbl))
    clear hm HM3 HR3
    go_wp2_with fail
    refine (spot_take (HM4.out.at H.out).sp ((HM4.out.at H.out).froz _) 58 false HRd.out hs).mono ?_
    rintro e w5 ⟨rfl, hm⟩
    have HM5 := hide (HM4.out.trans ((show Mvd w4 w5 b 0 (p) from hm).rd HM4.out.gone))
    have HR5 := hide (HR4.out.grown hm.grown (Nat.ne_of_gt hbl))
    clear hm HM4 HR4
    obtain ⟨⟨e0, e1, e2, e3, e4⟩, f0, f1, f2, f3, f4⟩ := HR5.out.five
    go_wp2
    (try simp only [Exit.inBlock, Exit.then])
    refine bodyPost_ret (v := .tuple #[agF ⟨0, 0, 0, nilB, nilB⟩, .bool false]) ?_ rfl ⟨_, p, rfl, HLE.out, ?_⟩
    · rw [results_cell_tmp rfl]
      unfold agF
      (try unfold nilB)
      go_simp
    · exact HM5.out.blB (by repeat (first | refine Below.setCell ?_ (by simp) _ | with_reducible exact Below.refl _ _)) hbl
  obtain ⟨hk4, hd4⟩ := has_drop 58 rfl hr4
  rw [hd4, show ∀ n l g, brF (some (n, 58 :: l)) g = (match colonF l g with
      | (some (f, r), g) => (some ({ f with n := n }, r), g)
      | (none, g) => (none, g)) from fun _ _ _ => rfl] at hz
  obtain ⟨y, hy⟩ : ∃ y, colonF (s.data.toList.drop (p + 1)) g = y := ⟨_, rfl⟩
  rw [hy] at hz
  have HC := hide hy
  have HRc := hide hr3
  have HRd := hide hr4
  have HK4 := hide (show p + 1 ≤ s.size from hk4)
  clear hr3 hr4 hd4 hdr hle hy
  rcases y with ⟨_ | ⟨f, r2⟩, g2⟩
  · subst hz
    go_enter Tryd.func32, Tryd.ntmps32
    go_wp2_with fail
    have hba := bl_alloc (bl_refl w) (.cells #[.int .i64 0, .int .i64 0, .int .i64 0, .string ⟨#[]⟩, .string ⟨#[]⟩] 41)
    have HM0 := hide (rdr_bl hba H.out.pos H.out.gone)
    have HR0 := hide (fmr_new w)
    clear hba
    obtain ⟨w0, hw0⟩ : ∃ w0, w.alloc (.cells #[.int .i64 0, .int .i64 0, .int .i64 0, .string ⟨#[]⟩, .string ⟨#[]⟩] 41) = w0 := ⟨_, rfl⟩
    rw [hw0] at HM0 HR0 ⊢
    clear hw0
    refine (spot_take (HM0.out.at H.out).sp ((HM0.out.at H.out).froz _) 36 true HRa.out hs).mono ?_
    rintro e w1 ⟨rfl, hm⟩
    have HM1 := hide (HM0.out.trans ((show Mvd w0 w1 b 0 (k + 1) from hm).rd HM0.out.gone))
    have HR1 := hide (HR0.out.grown hm.grown (Nat.ne_of_gt hbl))
    clear hm HM0 HR0
    go_wp2_with fail
    refine (spot_take (HM1.out.at H.out).sp ((HM1.out.at H.out).froz _) 123 true HRb.out hs).mono ?_
    rintro e w2 ⟨rfl, hm⟩
    have HM2 := hide (HM1.out.trans ((show Mvd w1 w2 b 0 (k + 1 + 1) from hm).rd HM1.out.gone))
    have HR2 := hide (HR1.out.grown hm.grown (Nat.ne_of_gt hbl))
    clear hm HM1 HR1
    go_wp2_with fail
    refine (spot_number (HM2.out.at H.out).sp ((HM2.out.at H.out).froz _) HK2.out hs _ HN.out).mono ?_
    rintro e w3 ⟨rfl, hm⟩
    have HM3 := hide (HM2.out.trans (hm.rd HM2.out.gone))
    have HR3 := hide (HR2.out.grown hm.grown (Nat.ne_of_gt hbl))
    clear hm HM2 HR2
    rw [HP.out] at HM3
    go_wp2_with fail
    refine (spot_take (HM3.out.at H.out).sp ((HM3.out.at H.out).froz _) 125 false HRc.out hs).mono ?_
    rintro e w4 ⟨rfl, hm⟩
    have HM4 := hide (HM3.out.trans ((show Mvd w3 w4 b 0 (p) from hm).rd HM3.out.gone))
    have HR4 := hide (HR3.out.grown hm.grown (Nat.ne_of_gt hbl))
    clear hm HM3 HR3
    go_wp2_with fail
    refine (spot_take (HM4.out.at H.out).sp ((HM4.out.at H.out).froz _) 58 true HRd.out hs).mono ?_
    rintro e w5 ⟨rfl, hm⟩
    have HM5 := hide (HM4.out.trans ((show Mvd w4 w5 b 0 (p + 1) from hm).rd HM4.out.gone))
    have HR5 := hide (HR4.out.grown hm.grown (Nat.ne_of_gt hbl))
    clear hm HM4 HR4
    go_wp2_with fail
    refine (colon_any (HM5.out.at H.out) HK4.out hs hg _ HC.out).mono ?_
    rintro e w6 ⟨f, k9, rfl, hk9, hm⟩
    have HM6 := hide (HM5.out.trans hm)
    have HR6 := hide (HR5.out.grown hm.grown (Nat.ne_of_gt hbl))
    clear hm HM5 HR5
    unfold agF
    have hn0 : w.heap.size < w6.heap.size := (Array.getElem?_eq_some_iff.1 HR6.out).1
    have hn1 : w.heap.size ≤ w6.heap.size := Nat.le_of_lt hn0
    have hne : w.heap.size ≠ w6.heap.size := Nat.ne_of_lt hn0
    obtain ⟨⟨e0, e1, e2, e3, e4⟩, f0, f1, f2, f3, f4⟩ := HR6.out.five
    go_wp2
    (try simp only [Exit.inBlock, Exit.then])
    refine bodyPost_ret (v := .tuple #[agF ⟨f.k, n, f.c, f.th, f.el⟩, .bool false]) ?_ rfl ⟨_, k9, rfl, hk9, ?_⟩
    · rw [results_cell_tmp rfl]
      unfold agF
      go_simp
    · exact HM6.out.blB (by repeat (first | refine Below.setCell ?_ (by first | simp | (simp; omega)) _ | refine Below.alloc ?_ (by simp only [World.setCell, Array.size_modify]; exact hn1) _ | with_reducible exact Below.refl _ _)) hbl
  · subst hz
    go_enter Tryd.func32, Tryd.ntmps32
    go_wp2_with fail
    have hba := bl_alloc (bl_refl w) (.cells #[.int .i64 0, .int .i64 0, .int .i64 0, .string ⟨#[]⟩, .string ⟨#[]⟩] 41)
    have HM0 := hide (rdr_bl hba H.out.pos H.out.gone)
    have HR0 := hide (fmr_new w)
    clear hba
    obtain ⟨w0, hw0⟩ : ∃ w0, w.alloc (.cells #[.int .i64 0, .int .i64 0, .int .i64 0, .string ⟨#[]⟩, .string ⟨#[]⟩] 41) = w0 := ⟨_, rfl⟩
    rw [hw0] at HM0 HR0 ⊢
    clear hw0
    refine (spot_take (HM0.out.at H.out).sp ((HM0.out.at H.out).froz _) 36 true HRa.out hs).mono ?_
    rintro e w1 ⟨rfl, hm⟩
    have HM1 := hide (HM0.out.trans ((show Mvd w0 w1 b 0 (k + 1) from hm).rd HM0.out.gone))
    have HR1 := hide (HR0.out.grown hm.grown (Nat.ne_of_gt hbl))
    clear hm HM0 HR0
    go_wp2_with fail
    refine (spot_take (HM1.out.at H.out).sp ((HM1.out.at H.out).froz _) 123 true HRb.out hs).mono ?_
    rintro e w2 ⟨rfl, hm⟩
    have HM2 := hide (HM1.out.trans ((show Mvd w1 w2 b 0 (k + 1 + 1) from hm).rd HM1.out.gone))
    have HR2 := hide (HR1.out.grown hm.grown (Nat.ne_of_gt hbl))
    clear hm HM1 HR1
    go_wp2_with fail
    refine (spot_number (HM2.out.at H.out).sp ((HM2.out.at H.out).froz _) HK2.out hs _ HN.out).mono ?_
    rintro e w3 ⟨rfl, hm⟩
    have HM3 := hide (HM2.out.trans (hm.rd HM2.out.gone))
    have HR3 := hide (HR2.out.grown hm.grown (Nat.ne_of_gt hbl))
    clear hm HM2 HR2
    rw [HP.out] at HM3
    go_wp2_with fail
    refine (spot_take (HM3.out.at H.out).sp ((HM3.out.at H.out).froz _) 125 false HRc.out hs).mono ?_
    rintro e w4 ⟨rfl, hm⟩
    have HM4 := hide (HM3.out.trans ((show Mvd w3 w4 b 0 (p) from hm).rd HM3.out.gone))
    have HR4 := hide (HR3.out.grown hm.grown (Nat.ne_of_gt hbl))
    clear hm HM3 HR3
    go_wp2_with fail
    refine (spot_take (HM4.out.at H.out).sp ((HM4.out.at H.out).froz _) 58 true HRd.out hs).mono ?_
    rintro e w5 ⟨rfl, hm⟩
    have HM5 := hide (HM4.out.trans ((show Mvd w4 w5 b 0 (p + 1) from hm).rd HM4.out.gone))
    have HR5 := hide (HR4.out.grown hm.grown (Nat.ne_of_gt hbl))
    clear hm HM4 HR4
    go_wp2_with fail
    refine (colon_any (HM5.out.at H.out) HK4.out hs hg _ HC.out).mono ?_
    rintro e w6 ⟨rfl, hm⟩
    have HM6 := hide (HM5.out.trans hm)
    have HR6 := hide (HR5.out.grown hm.grown (Nat.ne_of_gt hbl))
    clear hm HM5 HR5
    unfold agF
    have hn0 : w.heap.size < w6.heap.size := (Array.getElem?_eq_some_iff.1 HR6.out).1
    have hn1 : w.heap.size ≤ w6.heap.size := Nat.le_of_lt hn0
    have hne : w.heap.size ≠ w6.heap.size := Nat.ne_of_lt hn0
    obtain ⟨⟨e0, e1, e2, e3, e4⟩, f0, f1, f2, f3, f4⟩ := HR6.out.five
    go_wp2
    (try simp only [Exit.inBlock, Exit.then])
    refine bodyPost_ret (v := .tuple #[agF ⟨f.k, n, f.c, f.th, f.el⟩, .bool true]) ?_ rfl ⟨rfl, ?_⟩
    · rw [results_cell_tmp rfl]
      unfold agF
      go_simp
    · exact HM6.out.blB (by repeat (first | refine Below.setCell ?_ (by first | simp | (simp; omega)) _ | refine Below.alloc ?_ (by simp only [World.setCell, Array.size_modify]; exact hn1) _ | with_reducible exact Below.refl _ _)) hbl
end Go.Proofs.YtbphckblbbbakaaDoor
