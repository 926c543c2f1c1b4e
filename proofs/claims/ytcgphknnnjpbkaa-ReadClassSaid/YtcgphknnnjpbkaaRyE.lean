/- Contract: rxtree.may (a counter behind a pointer), rxtree.May. Condition: a tree that is not too big. -/
import Derived.Test.YtcgphknnnjpbkaaRyD
namespace Go.Proofs.Ytcgphknnnjpbkaa
open Go.ChangeShapes Go.WideShapes Go.ChangeAt Go.RowKit
open SetM
attribute [local go_sem ↓] Go.wp_at_zero Go.wp_at_succ
set_option maxRecDepth 100000
set_option linter.unusedVariables false
mutual
  def okM : Rt → Bool
    | .mk k ch nt _ rows mi ma lz _ l => mfB k ch nt rows mi ma lz && mkB k l && okL l
  def okL : List Rt → Bool
    | [] => true
    | t :: l => okM t && okL l
end
theorem okM_eq (t : Rt) : okM t = (mfB t.k t.ch t.nt t.rows t.mi t.ma t.lz && mkB t.k t.kids && okL t.kids) := by cases t; rw [okM]; rfl
theorem okL_app (l m : List Rt) : okL (l ++ m) = (okL l && okL m) := by
  induction l with
  | nil => simp [okL]
  | cons a l ih => simp only [List.cons_append, okL, ih, Bool.and_assoc]
theorem okL_snoc (l : List Rt) (k : Nat) (h : k < l.length) : okL (l.take (k + 1)) = (okL (l.take k) && okM l[k]) := by
  rw [List.take_succ_eq_append_getElem h, okL_app]; simp [okL]
theorem okL_kid (l : List Rt) (k : Nat) (h : k < l.length) (ho : okL l = true) : okM l[k] = true := by
  have h1 : okL l = (okL (l.take (k + 1)) && okL (l.drop (k + 1))) := by rw [← okL_app, List.take_append_drop]
  rw [ho, okL_snoc l k h] at h1
  simp at h1
  exact h1.1.2
theorem dL_kid (l : List Rt) (k : Nat) (h : k < l.length) : dM l[k] ≤ dL l := by
  have h1 := dL_snoc l k h
  have h2 : dL l = max (dL (l.take (k + 1))) (dL (l.drop (k + 1))) := by rw [← dL_app, List.take_append_drop]
  omega
theorem pL_upto (l : List Rt) (k : Nat) (h : k < l.length) : pL (l.take k) + pM l[k] ≤ pL l := by
  have h1 := pL_snoc l k h
  have h2 : pL l = pL (l.take (k + 1)) + pL (l.drop (k + 1)) := by rw [← pL_app, List.take_append_drop]
  omega
/-- Of what was there only a counter has changed. -/
structure Cnt (w w' : World) (b : Nat) (L : Int) : Prop where
  grown : w.grownBy w' (some b)
  pos : w'.cell? ⟨b, 0, none⟩ = some (.int .i64 L)
  froz : ∀ q, w'.frozen? ⟨b, q, none⟩ = w.frozen? ⟨b, q, none⟩
theorem cnt_bl {w w' : World} {b : Nat} {L : Int} (hb : Below w.heap.size w w') (h : w.cell? ⟨b, 0, none⟩ = some (.int .i64 L)) : Cnt w w' b L := by
  have hl := World.block_lt_of_cell? _ _ h
  exact ⟨⟨hb.os, hb.tape, hb.output, hb.size, fun i hi _ => hb.block i hi⟩, cell_later hb h, fun q => hb.frozen (p := ⟨b, q, none⟩) hl⟩
theorem Cnt.lt {w w' : World} {b : Nat} {L : Int} (h : Cnt w w' b L) : b < w'.heap.size := World.block_lt_of_cell? _ _ h.pos
theorem Cnt.trans {w w1 w2 : World} {b : Nat} {L L2 : Int} (h : Cnt w w1 b L) (g : Cnt w1 w2 b L2) : Cnt w w2 b L2 :=
  ⟨⟨g.grown.os.trans h.grown.os, g.grown.tape.trans h.grown.tape, g.grown.output.trans h.grown.output, Nat.le_trans h.grown.size g.grown.size, fun i hi hn => (g.grown.block i (Nat.lt_of_lt_of_le hi h.grown.size) hn).trans (h.grown.block i hi hn)⟩,
    g.pos, fun q => (g.froz q).trans (h.froz q)⟩
theorem Cnt.bl {w w1 w2 : World} {b : Nat} {L : Int} (h : Cnt w w1 b L) (hb : Below w1.heap.size w1 w2) : Cnt w w2 b L := h.trans (cnt_bl hb h.pos)
theorem Cnt.set {w w1 : World} {b : Nat} {L : Int} (h : Cnt w w1 b L) (L' : Int) : Cnt w (w1.setCell ⟨b, 0, none⟩ (.int .i64 L')) b L' :=
  ⟨grown_set h.grown _ _, World.cell?_setCell_same _ _ _ h.pos, fun q => by rw [World.frozen?_setCell]; exact h.froz q⟩
theorem Cnt.cell {w w' : World} {b : Nat} {L : Int} (h : Cnt w w' b L) {n o : Nat} {v : Value} (hn : n ≠ b) (hc : w.cell? ⟨n, o, none⟩ = some v) : w'.cell? ⟨n, o, none⟩ = some v := by
  have hl := World.block_lt_of_cell? _ _ hc
  have hk := h.grown.block n hl (by intro e; injection e with e; exact hn e)
  rw [← hc]
  simp only [World.cell?, hk]
theorem Cnt.below {w0 w w' : World} {b : Nat} {L : Int} (h : Cnt w w' b L) (hb : Below w0.heap.size w0 w) (hg : w0.heap.size ≤ b) : Below w0.heap.size w0 w' :=
  bl_grown hb h.grown (fun k hk => by injection hk with hk; omega)
/-- Is a tree let, of so many groups within one another and parts? -/
def cnB (t : Rt) (g L : Int) : Bool := decide ((pM t : Int) ≤ L) && decide ((dM t : Int) ≤ g) && okM t
def McPost (r : Bool) (L : Int) (p : Nat) (w : World) (b : Nat) (e : Ending) (w' : World) : Prop := ∃ L', e = .returned (.bool r) ∧ Cnt w w' b L' ∧ Hid (r = true → L' = L - (p : Int))
theorem cnB_of {t : Rt} {g L : Int} (h1 : (pM t : Int) ≤ L) (h2 : (dM t : Int) ≤ g) (h3 : okM t = true) : cnB t g L = true := by unfold cnB; simp [h1, h2, h3]
theorem cnB_to {t : Rt} {g L : Int} (h : cnB t g L = true) : (pM t : Int) ≤ L ∧ (dM t : Int) ≤ g ∧ okM t = true := by unfold cnB at h; simp at h; exact ⟨h.1.1, h.1.2, h.2⟩
theorem cnB_no {t : Rt} {g L : Int} {r : Bool} (hr : cnB t g L = r) (h : (pM t : Int) ≤ L → (dM t : Int) ≤ g → okM t = true → False) : r = false := by
  cases r
  · rfl
  · obtain ⟨h1, h2, h3⟩ := cnB_to hr
    exact (h h1 h2 h3).elim
theorem sM_ch (t : Rt) : t.ch.size ≤ sM t ∧ t.rows.length ≤ sM t ∧ (∀ s ∈ t.rows, s.1.size + s.2.size ≤ sM t) := by
  have h := sM_eq t
  have h1 := rwS_len t.rows
  refine ⟨by omega, by omega, fun s hs => ?_⟩
  have := rwS_in t.rows s hs
  omega
theorem dM_one (t : Rt) (h : t.k = 5 ∨ t.k = 6) : dM t = dL t.kids + 1 := by rw [dM_eq, if_pos h]
theorem dM_zero (t : Rt) (h : ¬ (t.k = 5 ∨ t.k = 6)) : dM t = dL t.kids := by rw [dM_eq, if_neg h, Nat.add_zero]
set_option maxHeartbeats 16000000 in
theorem maycnt_any {w0 : World} {t : Rt} (h : RxAt w0 t) : sM t ≤ 100000 → ∀ g L : Int, 0 ≤ g → g ≤ 1000 → 0 ≤ L → L ≤ 100000 → ∀ b w, Below w0.heap.size w0 w → w0.heap.size ≤ b → w.cell? ⟨b, 0, none⟩ = some (.int .i64 L) → w.frozen? ⟨b, 0, none⟩ = false → ∀ r, cnB t g L = r →
    Calls Try.prog 34 #[t.v, .int .i64 g, .pointer (some ⟨b, 0, none⟩)] w (McPost r L (pM t) w b) := by
  induction h with
  | mk t hr hk hs ih =>
    intro hz g L hg0 hg1 hL0 hL1 b w hb0 hbb hcb hfb r hrr
    have hrx := RxAt.mk t hr hk hs
    have hM := sM_eq t
    obtain ⟨q1, q2, q3⟩ := sM_ch t
    obtain ⟨mf, hmf⟩ : ∃ x, mfB t.k t.ch t.nt t.rows t.mi t.ma t.lz = x := ⟨_, rfl⟩
    obtain ⟨mk, hmk⟩ : ∃ x, mkB t.k t.kids = x := ⟨_, rfl⟩
    obtain ⟨z, hz5⟩ : ∃ x, decide (t.k = 5 ∨ t.k = 6) = x := ⟨_, rfl⟩
    have HMF := hide (fun W hb => (mayfields_any hrx (by omega) (by omega) (fun s hs => ⟨by have := q3 s hs; omega, by have := q3 s hs; omega⟩) W hb).mono (fun e w' (hh : SmPost _ W e w') => (show e = .returned (.bool mf) ∧ Below W.heap.size W w' from hmf ▸ hh)))
    have HMK := hide (fun W hb => (maykids_any hrx W hb).mono (fun e w' (hh : SmPost _ W e w') => (show e = .returned (.bool mk) ∧ Below W.heap.size W w' from hmk ▸ hh)))
    have HIS := hide (fun W => isg_any t.k z hz5 W)
    have HIH := hide (fun i hi g2 L2 h1 h2 h3 h4 W hb hbc hbf r2 hr2 => ih i hi (by have := sL_kid t.kids i hi; omega) g2 L2 h1 h2 h3 h4 b W hb hbb hbc hbf r2 hr2)
    have HK := hide hk
    have HB0 := hide hb0
    have HRX := hide hrx
    obtain ⟨A, c, hkv⟩ := ksat_len hk
    obtain ⟨RA, rc, hrv⟩ := rwat_len hr
    have hv : t.v = .agg #[.int .i64 t.k, .string t.ch, .bool t.nt, .slice RA t.rows.length rc, .int .i64 t.mi, .int .i64 t.ma, .bool t.lz, .slice A t.kids.length c] := by unfold Rt.v Rt.cs; rw [hkv, hrv]
    rw [hv] at HMF HMK ⊢
    rw [hkv] at HK
    have HNO := hide (fun h => cnB_no hrr h)
    have HYES := hide (fun h1 h2 h3 => (hrr.symm.trans (cnB_of (t := t) (g := g) (L := L) h1 h2 h3)))
    have hok := okM_eq t
    rw [hmf, hmk] at hok
    have HOK := hide hok
    have HPM := hide (pM_eq t)
    have HDM := hide (show (dM t : Int) = dL t.kids + (if z = true then 1 else 0) by
      cases z
      · rw [dM_zero t (of_decide_eq_false hz5)]; simp
      · rw [dM_one t (of_decide_eq_true hz5)]; simp)
    obtain ⟨pt, hpt⟩ : ∃ x, pM t = x := ⟨_, rfl⟩
    rw [hpt] at HNO HYES HPM ⊢
    obtain ⟨dt, hdt⟩ : ∃ x, dM t = x := ⟨_, rfl⟩
    rw [hdt] at HNO HYES HDM
    obtain ⟨ok, hokk⟩ : ∃ x, okM t = x := ⟨_, rfl⟩
    rw [hokk] at HNO HYES HOK
    obtain ⟨kids, hkids⟩ : ∃ kids, t.kids = kids := ⟨_, rfl⟩
    have HIH2 := hide (fun i (hi : i < kids.length) => (show ∃ h2 : i < t.kids.length, t.kids[i] = kids[i] by subst hkids; exact ⟨hi, rfl⟩))
    rw [hkids] at HMF HMK HK HOK HPM HDM ⊢
    clear hr hk hs ih hb0 hkv hrv hz hrx hM q1 q2 q3 hmf hmk hz5 hv hok hpt hdt hokk hkids
    generalize t.rows.length = rl at *
    generalize t.k = k at *
    generalize t.ch = ch at *
    generalize t.nt = nt at *
    generalize t.mi = mi at *
    generalize t.ma = ma at *
    generalize t.lz = lz at *
    unfold McPost
    have hbl : b < w.heap.size := World.block_lt_of_cell? _ _ hcb
    obtain ⟨W1, hW1⟩ : ∃ W1, (w.alloc (.cells #[.int .i64 k, .string ch, .bool nt, .slice RA rl rc, .int .i64 mi, .int .i64 ma, .bool lz, .slice A kids.length c] 26)).setCell ⟨b, 0, none⟩ (.int .i64 (L - 1)) = W1 := ⟨_, rfl⟩
    have hcb1 : (w.alloc (.cells #[.int .i64 k, .string ch, .bool nt, .slice RA rl rc, .int .i64 mi, .int .i64 ma, .bool lz, .slice A kids.length c] 26)).cell? ⟨b, 0, none⟩ = some (.int .i64 L) := cell_later (bl_alloc (bl_refl w) _) hcb
    have hfb1 : (w.alloc (.cells #[.int .i64 k, .string ch, .bool nt, .slice RA rl rc, .int .i64 mi, .int .i64 ma, .bool lz, .slice A kids.length c] 26)).frozen? ⟨b, 0, none⟩ = false := ((bl_alloc (bl_refl w) _).frozen (p := ⟨b, 0, none⟩) hbl).trans hfb
    have HC1 := hide (show Cnt w W1 b (L - 1) from by rw [← hW1]; exact ((cnt_bl (bl_alloc (bl_refl w) _) hcb).set (L - 1)))
    have FJ := hide (fun j u (hu : (#[.int .i64 k, .string ch, .bool nt, .slice RA rl rc, .int .i64 mi, .int .i64 ma, .bool lz, .slice A kids.length c] : Array Value).toList[j]? = some u) => (show W1.cell? ⟨w.heap.size, j, none⟩ = some u by
      rw [← hW1]
      refine (World.cell?_setCell_other _ _ _ _ (by intro e; injection e with e _; omega)).trans ?_
      have := cells_lit w _ 26 j u hu
      rw [addr_add, Nat.zero_add] at this
      exact this))
    have c0 : W1.cell? ⟨w.heap.size, 0, none⟩ = some (.int .i64 k) := FJ.out 0 _ rfl
    have c1 : W1.cell? ⟨w.heap.size, 1, none⟩ = some (.string ch) := FJ.out 1 _ rfl
    have c2 : W1.cell? ⟨w.heap.size, 2, none⟩ = some (.bool nt) := FJ.out 2 _ rfl
    have c3 : W1.cell? ⟨w.heap.size, 3, none⟩ = some (.slice RA rl rc) := FJ.out 3 _ rfl
    have c4 : W1.cell? ⟨w.heap.size, 4, none⟩ = some (.int .i64 mi) := FJ.out 4 _ rfl
    have c5 : W1.cell? ⟨w.heap.size, 5, none⟩ = some (.int .i64 ma) := FJ.out 5 _ rfl
    have c6 : W1.cell? ⟨w.heap.size, 6, none⟩ = some (.bool lz) := FJ.out 6 _ rfl
    have c7 : W1.cell? ⟨w.heap.size, 7, none⟩ = some (.slice A kids.length c) := FJ.out 7 _ rfl
    have cb : W1.cell? ⟨b, 0, none⟩ = some (.int .i64 (L - 1)) := HC1.out.pos
    have fb : W1.frozen? ⟨b, 0, none⟩ = false := (HC1.out.froz 0).trans hfb
    have e1 : IntKind.i64.wrap (L - 1) = L - 1 := by rw [IntKind.wrap_i64]; omega
    have hn1 : w.heap.size < W1.heap.size := World.block_lt_of_cell? _ _ c0
    have HFB := hide hfb
    clear FJ hfb
    rcases z with _ | _
    all_goals
      simp only [Bool.false_eq_true, if_false, if_true] at HDM
    · have G0 := hg0
      by_cases qL : L = 0
      case pos =>
        have d1 : decide (L - 1 < 0) = true := decide_eq_true (by omega)
        obtain rfl : r = false := HNO.out (fun h _ _ => by have := HPM.out; omega)
        clear qL HNO HYES
        go_enter Try.func34, Try.ntmps34
        go_wp2_with fail
        refine (HIS.out _).mono ?_
        rintro e _ ⟨rfl, rfl⟩
        go_wp2
        go_ret
        exact ⟨L - 1, rfl, HC1.out, hide (fun h => by cases h)⟩
      have d1 : decide (L - 1 < 0) = false := decide_eq_false (by omega)
      by_cases qG : g < 0
      case pos =>
        have d2 : decide (g < 0) = true := decide_eq_true qG
        obtain rfl : r = false := HNO.out (fun _ h _ => by have := HDM.out; omega)
        clear qL qG HNO HYES
        go_enter Try.func34, Try.ntmps34
        go_wp2_with fail
        refine (HIS.out _).mono ?_
        rintro e _ ⟨rfl, rfl⟩
        go_wp2
        go_ret
        exact ⟨L - 1, rfl, HC1.out, hide (fun h => by cases h)⟩
      have d2 : decide (g < 0) = false := decide_eq_false qG
      go_enter Try.func34, Try.ntmps34
      go_wp2_with fail
      refine (HIS.out _).mono ?_
      rintro e _ ⟨rfl, rfl⟩
      go_wp2_with fail
      refine (HMF.out _ (HC1.out.below HB0.out hbb)).mono ?_
      rintro e w2 ⟨rfl, hb2⟩
      have k0 : w2.cell? ⟨w.heap.size, 0, none⟩ = some (.int .i64 k) := cell_later hb2 c0
      have k1 : w2.cell? ⟨w.heap.size, 1, none⟩ = some (.string ch) := cell_later hb2 c1
      have k2 : w2.cell? ⟨w.heap.size, 2, none⟩ = some (.bool nt) := cell_later hb2 c2
      have k3 : w2.cell? ⟨w.heap.size, 3, none⟩ = some (.slice RA rl rc) := cell_later hb2 c3
      have k4 : w2.cell? ⟨w.heap.size, 4, none⟩ = some (.int .i64 mi) := cell_later hb2 c4
      have k5 : w2.cell? ⟨w.heap.size, 5, none⟩ = some (.int .i64 ma) := cell_later hb2 c5
      have k6 : w2.cell? ⟨w.heap.size, 6, none⟩ = some (.bool lz) := cell_later hb2 c6
      have k7 : w2.cell? ⟨w.heap.size, 7, none⟩ = some (.slice A kids.length c) := cell_later hb2 c7
      have HC2 := hide (HC1.out.bl hb2)
      clear hb2 c0 c1 c2 c3 c4 c5 c6 c7 cb
      cases mf with
      | false =>
        obtain rfl : r = false := HNO.out (fun _ _ h => by have := HOK.out; rw [h] at this; cases this)
        clear HNO HYES
        go_wp2
        go_ret
        exact ⟨L - 1, rfl, HC2.out, hide (fun h => by cases h)⟩
      | true =>
        go_wp2_with fail
        refine (HMK.out _ (HC2.out.below HB0.out hbb)).mono ?_
        rintro e w3 ⟨rfl, hb3⟩
        have m7 : w3.cell? ⟨w.heap.size, 7, none⟩ = some (.slice A kids.length c) := cell_later hb3 k7
        have HC3 := hide (HC2.out.bl hb3)
        clear hb3 k0 k1 k2 k3 k4 k5 k6 k7
        cases mk with
        | false =>
          obtain rfl : r = false := HNO.out (fun _ _ h => by have := HOK.out; rw [h] at this; cases this)
          clear HNO HYES
          go_wp2
          go_ret
          exact ⟨L - 1, rfl, HC3.out, hide (fun h => by cases h)⟩
        | true =>
          have HOK2 := hide (show ok = okL kids from by have := HOK.out; simpa using this)
          have HGG := hide (show 0 ≤ g ∧ g ≤ 1000 ∧ (dt : Int) = dL kids + (g - g) from ⟨by omega, by omega, by have := HDM.out; omega⟩)
          have HL := hide (show 0 ≤ L - 1 ∧ L - 1 ≤ 100000 by omega)
          clear d1 d2 qL qG e1 HOK HMF HMK HIS HDM hn1
          go_wp2
          go_loopw [40] (fun i wr => ∃ (k : Nat) (L1 : Int), i = .int .i64 k ∧ k ≤ kids.length ∧ Hid (0 ≤ L1 ∧ L1 ≤ 100000) ∧ Hid (L1 + 1 + pL (kids.take k) = L) ∧ Hid (okL (kids.take k) = true ∧ (dL (kids.take k) : Int) ≤ g) ∧ Hid (Cnt w wr b L1)) (fun i _ => kids.length - (intOf i).toNat)
          case atStart => exact ⟨0, L - 1, rfl, Nat.zero_le _, HL, hide (by simp [pL]), hide ⟨by simp [okL], by have := HGG.out; simp [dL]; omega⟩, HC3⟩
          case round =>
            obtain ⟨k, L1, rfl, hk, HLL, HJ, HD, HCN⟩ := hrel
            clear m7 HC3 HC2
            by_cases hlt : k < kids.length
            case neg =>
              obtain rfl : k = kids.length := by omega
              have gl : decide ((kids.length : Int) < (kids.length : Int)) = false := by simp
              have gl' : decide (kids.length < kids.length) = false := by simp
              have hj := HJ.out
              have hd := HD.out
              rw [List.take_length] at hj hd
              obtain rfl : r = true := HYES.out (by have := HPM.out; have := HLL.out; omega) (by have := HGG.out; omega) (HOK2.out.trans hd.1)
              have HE := hide (show L1 = L - (pt : Int) by have := HPM.out; omega)
              clear hj hd hlt HYES HNO
              go_wp2
              go_ret
              first
                | exact ⟨L1, rfl, HCN.out, hide (fun _ => HE.out)⟩
                | exact ⟨rfl, L1, HCN.out, hide (fun _ => HE.out)⟩
                | exact ⟨rfl, L1, HCN.out, HE⟩
            have HBW := hide (HCN.out.below HB0.out hbb)
            obtain ⟨b1, o1, c1, hv1, hc1, hm1, hlb1, hcell⟩ := ksat_8 (ksat_below HK.out HBW.out) (by omega)
            injection hv1 with hv1 _ hv1c
            subst hv1 hv1c
            unfold maxLen at hm1
            obtain ⟨x0, x1, x2, x3, x4, x5, x6, x7⟩ := hcell k hlt
            obtain ⟨h2, he⟩ := HIH2.out k hlt
            have HC := fun W hb hbc hbf r2 hr2 => HIH.out k h2 (g) L1 HGG.out.1 HGG.out.2.1 HLL.out.1 HLL.out.2 W hb hbc hbf r2 hr2
            have hrx := HRX.out.kid k h2
            rw [he] at HC hrx
            have hsn := pL_snoc kids k hlt
            have hup := pL_upto kids k hlt
            have hsd := dL_snoc kids k hlt
            have hso := okL_snoc kids k hlt
            have hkd := dL_kid kids k hlt
            have hko := okL_kid kids k hlt
            clear hcell he h2
            obtain ⟨d, hd⟩ : ∃ d, kids[k] = d := ⟨_, rfl⟩
            rw [hd] at x0 x1 x2 x3 x4 x5 x6 x7 HC hsn hup hsd hso hkd hko hrx
            obtain ⟨rA, rc2, hrv⟩ := rwat_len hrx.rows
            obtain ⟨kA, kc, hkv⟩ := ksat_len hrx.ks
            rw [hrv] at x3
            rw [hkv] at x7
            obtain ⟨rk, hrk⟩ : ∃ x, cnB d (g) L1 = x := ⟨_, rfl⟩
            have HRN := hide (show rk = false → r = false from fun h => HNO.out (fun h1 h2 h3 => by
              have := cnB_of (t := d) (g := g) (L := L1) (by have := HPM.out; have := HJ.out; omega) (by have := HGG.out; omega) (hko (HOK2.out.symm.trans h3))
              rw [hrk, h] at this
              cases this))
            have HRY := hide (show rk = true → (0 ≤ L1 - (pM d : Int) ∧ L1 - (pM d : Int) ≤ 100000) ∧ L1 - (pM d : Int) + 1 + pL (kids.take (k + 1)) = L ∧ okL (kids.take (k + 1)) = true ∧ (dL (kids.take (k + 1)) : Int) ≤ g from fun h => by
              rw [h] at hrk
              obtain ⟨h1, h2, h3⟩ := cnB_to hrk
              have := HJ.out
              have := HD.out
              have := HLL.out
              refine ⟨by omega, by omega, ?_, by omega⟩
              rw [hso, h3, HD.out.1]; rfl)
            have HC2 := hide (fun W hb hbc hbf => HC W hb hbc hbf rk hrk)
            unfold Rt.v Rt.cs McPost at HC2
            rw [hrv, hkv] at HC2
            generalize pM d = pd at *
            have gl : decide ((k : Int) < (kids.length : Int)) = true := decide_eq_true (by omega)
            have gl' : decide (k < kids.length) = true := decide_eq_true hlt
            have e5 : IntKind.i64.wrap ((k : Int) + 1) = (k : Int) + 1 := by rw [IntKind.wrap_i64]; omega
            have i1 : (0 : Int) ≤ (k : Int) := by omega
            have i2 : (k : Int) < (kids.length : Int) := by omega
            have HK1 := hide (show k + 1 ≤ kids.length by omega)
            clear hd hsn hup hsd hso hkd hko HC hrx hrv hkv hrk HNO HYES
            have hba := bl_alloc (bl_refl wr) (.cells #[.int .i64 d.k, .string d.ch, .bool d.nt, .slice rA d.rows.length rc2, .int .i64 d.mi, .int .i64 d.ma, .bool d.lz, .slice kA d.kids.length kc] 26)
            have HCA := hide (HCN.out.bl hba)
            have HBA2 := hide (bl_trans HBW.out hba)
            clear hba
            go_wp2_with fail
            refine (HC2.out _ HBA2.out HCA.out.pos ((HCA.out.froz 0).trans HFB.out)).mono ?_
            rintro e w2 ⟨L2, rfl, hcn2, hl2⟩
            have HCZ := hide (HCA.out.trans hcn2)
            have HL2 := hide hl2
            clear hcn2 hl2 x0 x1 x2 x3 x4 x5 x6 x7
            cases rk with
            | false =>
              obtain rfl : r = false := HRN.out rfl
              go_wp2
              go_ret
              exact ⟨L2, rfl, HCZ.out, hide (fun h => by cases h)⟩
            | true =>
              obtain ⟨h1, h3, h4⟩ := HRY.out rfl
              have h5 := HL2.out rfl
              rw [h5] at HCZ
              have H1 := hide h1
              have H3 := hide h3
              have H4 := hide h4
              clear h1 h3 h4 h5 HRY HRN
              go_wp2
              refine ⟨?_, by first | (simp [intOf]; done) | (simp [intOf]; omega)⟩
              first
                | exact ⟨k + 1, _, by go_num, HK1.out, H1, H3, H4, HCZ⟩
                | ((repeat apply Exists.intro); exact ⟨⟨k + 1, _, by go_num, HK1.out, H1, H3, H4, HCZ⟩, rfl⟩)
    · have e2 : IntKind.i64.wrap (g - 1) = g - 1 := by rw [IntKind.wrap_i64]; omega
      by_cases qL : L = 0
      case pos =>
        have d1 : decide (L - 1 < 0) = true := decide_eq_true (by omega)
        obtain rfl : r = false := HNO.out (fun h _ _ => by have := HPM.out; omega)
        clear qL HNO HYES
        go_enter Try.func34, Try.ntmps34
        go_wp2_with fail
        refine (HIS.out _).mono ?_
        rintro e _ ⟨rfl, rfl⟩
        go_wp2
        go_ret
        exact ⟨L - 1, rfl, HC1.out, hide (fun h => by cases h)⟩
      have d1 : decide (L - 1 < 0) = false := decide_eq_false (by omega)
      by_cases qG : (g - 1) < 0
      case pos =>
        have d2 : decide ((g - 1) < 0) = true := decide_eq_true qG
        obtain rfl : r = false := HNO.out (fun _ h _ => by have := HDM.out; omega)
        clear qL qG HNO HYES
        go_enter Try.func34, Try.ntmps34
        go_wp2_with fail
        refine (HIS.out _).mono ?_
        rintro e _ ⟨rfl, rfl⟩
        go_wp2
        go_ret
        exact ⟨L - 1, rfl, HC1.out, hide (fun h => by cases h)⟩
      have d2 : decide ((g - 1) < 0) = false := decide_eq_false qG
      go_enter Try.func34, Try.ntmps34
      go_wp2_with fail
      refine (HIS.out _).mono ?_
      rintro e _ ⟨rfl, rfl⟩
      go_wp2_with fail
      refine (HMF.out _ (HC1.out.below HB0.out hbb)).mono ?_
      rintro e w2 ⟨rfl, hb2⟩
      have k0 : w2.cell? ⟨w.heap.size, 0, none⟩ = some (.int .i64 k) := cell_later hb2 c0
      have k1 : w2.cell? ⟨w.heap.size, 1, none⟩ = some (.string ch) := cell_later hb2 c1
      have k2 : w2.cell? ⟨w.heap.size, 2, none⟩ = some (.bool nt) := cell_later hb2 c2
      have k3 : w2.cell? ⟨w.heap.size, 3, none⟩ = some (.slice RA rl rc) := cell_later hb2 c3
      have k4 : w2.cell? ⟨w.heap.size, 4, none⟩ = some (.int .i64 mi) := cell_later hb2 c4
      have k5 : w2.cell? ⟨w.heap.size, 5, none⟩ = some (.int .i64 ma) := cell_later hb2 c5
      have k6 : w2.cell? ⟨w.heap.size, 6, none⟩ = some (.bool lz) := cell_later hb2 c6
      have k7 : w2.cell? ⟨w.heap.size, 7, none⟩ = some (.slice A kids.length c) := cell_later hb2 c7
      have HC2 := hide (HC1.out.bl hb2)
      clear hb2 c0 c1 c2 c3 c4 c5 c6 c7 cb
      cases mf with
      | false =>
        obtain rfl : r = false := HNO.out (fun _ _ h => by have := HOK.out; rw [h] at this; cases this)
        clear HNO HYES
        go_wp2
        go_ret
        exact ⟨L - 1, rfl, HC2.out, hide (fun h => by cases h)⟩
      | true =>
        go_wp2_with fail
        refine (HMK.out _ (HC2.out.below HB0.out hbb)).mono ?_
        rintro e w3 ⟨rfl, hb3⟩
        have m7 : w3.cell? ⟨w.heap.size, 7, none⟩ = some (.slice A kids.length c) := cell_later hb3 k7
        have HC3 := hide (HC2.out.bl hb3)
        clear hb3 k0 k1 k2 k3 k4 k5 k6 k7
        cases mk with
        | false =>
          obtain rfl : r = false := HNO.out (fun _ _ h => by have := HOK.out; rw [h] at this; cases this)
          clear HNO HYES
          go_wp2
          go_ret
          exact ⟨L - 1, rfl, HC3.out, hide (fun h => by cases h)⟩
        | true =>
          have HOK2 := hide (show ok = okL kids from by have := HOK.out; simpa using this)
          have HGG := hide (show 0 ≤ (g - 1) ∧ (g - 1) ≤ 1000 ∧ (dt : Int) = dL kids + (g - (g - 1)) from ⟨by omega, by omega, by have := HDM.out; omega⟩)
          have HL := hide (show 0 ≤ L - 1 ∧ L - 1 ≤ 100000 by omega)
          clear d1 d2 qL qG e1 HOK HMF HMK HIS HDM hn1
          go_wp2
          go_loopw [40] (fun i wr => ∃ (k : Nat) (L1 : Int), i = .int .i64 k ∧ k ≤ kids.length ∧ Hid (0 ≤ L1 ∧ L1 ≤ 100000) ∧ Hid (L1 + 1 + pL (kids.take k) = L) ∧ Hid (okL (kids.take k) = true ∧ (dL (kids.take k) : Int) ≤ (g - 1)) ∧ Hid (Cnt w wr b L1)) (fun i _ => kids.length - (intOf i).toNat)
          case atStart => exact ⟨0, L - 1, rfl, Nat.zero_le _, HL, hide (by simp [pL]), hide ⟨by simp [okL], by have := HGG.out; simp [dL]; omega⟩, HC3⟩
          case round =>
            obtain ⟨k, L1, rfl, hk, HLL, HJ, HD, HCN⟩ := hrel
            clear m7 HC3 HC2
            by_cases hlt : k < kids.length
            case neg =>
              obtain rfl : k = kids.length := by omega
              have gl : decide ((kids.length : Int) < (kids.length : Int)) = false := by simp
              have gl' : decide (kids.length < kids.length) = false := by simp
              have hj := HJ.out
              have hd := HD.out
              rw [List.take_length] at hj hd
              obtain rfl : r = true := HYES.out (by have := HPM.out; have := HLL.out; omega) (by have := HGG.out; omega) (HOK2.out.trans hd.1)
              have HE := hide (show L1 = L - (pt : Int) by have := HPM.out; omega)
              clear hj hd hlt HYES HNO
              go_wp2
              go_ret
              first
                | exact ⟨L1, rfl, HCN.out, hide (fun _ => HE.out)⟩
                | exact ⟨rfl, L1, HCN.out, hide (fun _ => HE.out)⟩
                | exact ⟨rfl, L1, HCN.out, HE⟩
            have HBW := hide (HCN.out.below HB0.out hbb)
            obtain ⟨b1, o1, c1, hv1, hc1, hm1, hlb1, hcell⟩ := ksat_8 (ksat_below HK.out HBW.out) (by omega)
            injection hv1 with hv1 _ hv1c
            subst hv1 hv1c
            unfold maxLen at hm1
            obtain ⟨x0, x1, x2, x3, x4, x5, x6, x7⟩ := hcell k hlt
            obtain ⟨h2, he⟩ := HIH2.out k hlt
            have HC := fun W hb hbc hbf r2 hr2 => HIH.out k h2 ((g - 1)) L1 HGG.out.1 HGG.out.2.1 HLL.out.1 HLL.out.2 W hb hbc hbf r2 hr2
            have hrx := HRX.out.kid k h2
            rw [he] at HC hrx
            have hsn := pL_snoc kids k hlt
            have hup := pL_upto kids k hlt
            have hsd := dL_snoc kids k hlt
            have hso := okL_snoc kids k hlt
            have hkd := dL_kid kids k hlt
            have hko := okL_kid kids k hlt
            clear hcell he h2
            obtain ⟨d, hd⟩ : ∃ d, kids[k] = d := ⟨_, rfl⟩
            rw [hd] at x0 x1 x2 x3 x4 x5 x6 x7 HC hsn hup hsd hso hkd hko hrx
            obtain ⟨rA, rc2, hrv⟩ := rwat_len hrx.rows
            obtain ⟨kA, kc, hkv⟩ := ksat_len hrx.ks
            rw [hrv] at x3
            rw [hkv] at x7
            obtain ⟨rk, hrk⟩ : ∃ x, cnB d ((g - 1)) L1 = x := ⟨_, rfl⟩
            have HRN := hide (show rk = false → r = false from fun h => HNO.out (fun h1 h2 h3 => by
              have := cnB_of (t := d) (g := (g - 1)) (L := L1) (by have := HPM.out; have := HJ.out; omega) (by have := HGG.out; omega) (hko (HOK2.out.symm.trans h3))
              rw [hrk, h] at this
              cases this))
            have HRY := hide (show rk = true → (0 ≤ L1 - (pM d : Int) ∧ L1 - (pM d : Int) ≤ 100000) ∧ L1 - (pM d : Int) + 1 + pL (kids.take (k + 1)) = L ∧ okL (kids.take (k + 1)) = true ∧ (dL (kids.take (k + 1)) : Int) ≤ (g - 1) from fun h => by
              rw [h] at hrk
              obtain ⟨h1, h2, h3⟩ := cnB_to hrk
              have := HJ.out
              have := HD.out
              have := HLL.out
              refine ⟨by omega, by omega, ?_, by omega⟩
              rw [hso, h3, HD.out.1]; rfl)
            have HC2 := hide (fun W hb hbc hbf => HC W hb hbc hbf rk hrk)
            unfold Rt.v Rt.cs McPost at HC2
            rw [hrv, hkv] at HC2
            generalize pM d = pd at *
            have gl : decide ((k : Int) < (kids.length : Int)) = true := decide_eq_true (by omega)
            have gl' : decide (k < kids.length) = true := decide_eq_true hlt
            have e5 : IntKind.i64.wrap ((k : Int) + 1) = (k : Int) + 1 := by rw [IntKind.wrap_i64]; omega
            have i1 : (0 : Int) ≤ (k : Int) := by omega
            have i2 : (k : Int) < (kids.length : Int) := by omega
            have HK1 := hide (show k + 1 ≤ kids.length by omega)
            clear hd hsn hup hsd hso hkd hko HC hrx hrv hkv hrk HNO HYES
            have hba := bl_alloc (bl_refl wr) (.cells #[.int .i64 d.k, .string d.ch, .bool d.nt, .slice rA d.rows.length rc2, .int .i64 d.mi, .int .i64 d.ma, .bool d.lz, .slice kA d.kids.length kc] 26)
            have HCA := hide (HCN.out.bl hba)
            have HBA2 := hide (bl_trans HBW.out hba)
            clear hba
            go_wp2_with fail
            refine (HC2.out _ HBA2.out HCA.out.pos ((HCA.out.froz 0).trans HFB.out)).mono ?_
            rintro e w2 ⟨L2, rfl, hcn2, hl2⟩
            have HCZ := hide (HCA.out.trans hcn2)
            have HL2 := hide hl2
            clear hcn2 hl2 x0 x1 x2 x3 x4 x5 x6 x7
            cases rk with
            | false =>
              obtain rfl : r = false := HRN.out rfl
              go_wp2
              go_ret
              exact ⟨L2, rfl, HCZ.out, hide (fun h => by cases h)⟩
            | true =>
              obtain ⟨h1, h3, h4⟩ := HRY.out rfl
              have h5 := HL2.out rfl
              rw [h5] at HCZ
              have H1 := hide h1
              have H3 := hide h3
              have H4 := hide h4
              clear h1 h3 h4 h5 HRY HRN
              go_wp2
              refine ⟨?_, by first | (simp [intOf]; done) | (simp [intOf]; omega)⟩
              first
                | exact ⟨k + 1, _, by go_num, HK1.out, H1, H3, H4, HCZ⟩
                | ((repeat apply Exists.intro); exact ⟨⟨k + 1, _, by go_num, HK1.out, H1, H3, H4, HCZ⟩, rfl⟩)
set_option maxHeartbeats 4000000 in
theorem rxmay_any {w0 : World} {t : Rt} (h : RxAt w0 t) (hz : sM t ≤ 100000) (w : World) (hb0 : Below w0.heap.size w0 w) : Calls Try.prog 16 #[t.v] w (SmPost (cnB t 16 512) w) := by
  obtain ⟨A, c, hkv⟩ := ksat_len h.ks
  obtain ⟨RA, rc, hrv⟩ := rwat_len h.rows
  obtain ⟨r, hr⟩ : ∃ r, cnB t 16 512 = r := ⟨_, rfl⟩
  have HC := hide (fun b W hb hbb hcb hfb => maycnt_any h hz 16 512 (by decide) (by decide) (by decide) (by decide) b W hb hbb hcb hfb r hr)
  have hv : t.v = .agg #[.int .i64 t.k, .string t.ch, .bool t.nt, .slice RA t.rows.length rc, .int .i64 t.mi, .int .i64 t.ma, .bool t.lz, .slice A t.kids.length c] := by unfold Rt.v Rt.cs; rw [hkv, hrv]
  unfold SmPost
  unfold McPost at HC
  rw [hv] at HC ⊢
  rw [hr]
  have HB0 := hide hb0
  have HS := hide hb0.size
  clear h hkv hrv hv hb0 hr hz
  generalize t.kids.length = kl at *
  generalize t.rows.length = rl at *
  generalize t.k = k at *
  generalize t.ch = ch at *
  generalize t.nt = nt at *
  generalize t.mi = mi at *
  generalize t.ma = ma at *
  generalize t.lz = lz at *
  have HBA := hide (fun o1 o2 => bl_alloc (bl_alloc (bl_refl w) o1) o2)
  go_enter Try.func16, Try.ntmps16
  go_wp2_with fail
  refine (HC.out _ _ (bl_trans HB0.out (HBA.out _ _)) (by have := HS.out; first | omega | (simp; omega)) (by first | (go_simp; done) | simp) (by first | (go_simp; done) | simp)).mono ?_
  rintro e w2 ⟨L2, rfl, hcn, _⟩
  have HB2 := hide (hcn.below (HBA.out _ _) (by first | omega | simp))
  clear hcn
  go_wp2
  go_ret
  exact ⟨rfl, HB2.out⟩
end Go.Proofs.Ytcgphknnnjpbkaa
