/- Contract: the laws' own bound on a tree (gimletlaw0.Rx). Condition: a bound that is not too big. -/
import Derived.Test.YtmfaeonlmfejdaaRxM
namespace Go.Proofs.Ytmfaeonlmfejdaa
open Go.ChangeShapes Go.WideShapes Go.ChangeAt Go.RowKit
open SetM
attribute [local go_sem ↓] Go.wp_at_zero Go.wp_at_succ
set_option maxRecDepth 100000
set_option linter.unusedVariables false
/-- How big rows, trees are. -/
def rwS : List Rw → Nat
  | [] => 0
  | s :: l => 1 + s.1.size + s.2.size + rwS l
mutual
  def sM : Rt → Nat
    | .mk _ c _ _ r _ _ _ _ l => 1 + c.size + rwS r + sL l
  def sL : List Rt → Nat
    | [] => 0
    | t :: l => sM t + sL l
end
theorem sM_eq (t : Rt) : sM t = 1 + t.ch.size + rwS t.rows + sL t.kids := by cases t; rw [sM]; rfl
theorem rwS_app (l m : List Rw) : rwS (l ++ m) = rwS l + rwS m := by
  induction l with
  | nil => simp [rwS]
  | cons a l ih => simp only [List.cons_append, rwS, ih]; omega
theorem sL_app (l m : List Rt) : sL (l ++ m) = sL l + sL m := by
  induction l with
  | nil => simp [sL]
  | cons a l ih => simp only [List.cons_append, sL, ih]; omega
theorem rwS_snoc (l : List Rw) (k : Nat) (h : k < l.length) : rwS (l.take (k + 1)) = rwS (l.take k) + (1 + l[k].1.size + l[k].2.size) := by
  rw [List.take_succ_eq_append_getElem h, rwS_app]; simp [rwS]
theorem sL_snoc (l : List Rt) (k : Nat) (h : k < l.length) : sL (l.take (k + 1)) = sL (l.take k) + sM l[k] := by
  rw [List.take_succ_eq_append_getElem h, sL_app]; simp [sL]
theorem sL_kid (l : List Rt) (k : Nat) (h : k < l.length) : sM l[k] ≤ sL l := by
  have h1 := sL_snoc l k h
  have h2 : sL l = sL (l.take (k + 1)) + sL (l.drop (k + 1)) := by rw [← sL_app, List.take_append_drop]
  omega
theorem rwS_len (l : List Rw) : l.length ≤ rwS l := by
  induction l with
  | nil => simp
  | cons a l ih => rw [rwS, List.length_cons]; omega
theorem rwS_in (l : List Rw) : ∀ s ∈ l, s.1.size + s.2.size ≤ rwS l := by
  induction l with
  | nil => intro s hs; cases hs
  | cons a l ih =>
    intro s hs
    rw [rwS]
    rcases List.mem_cons.1 hs with rfl | hs
    · omega
    · have := ih s hs; omega
mutual
  theorem pM_sM : ∀ t, pM t ≤ sM t
    | .mk k _ _ _ _ _ _ _ _ l => by rw [pM, sM]; have := pL_sL l; omega
  theorem pL_sL : ∀ l, pL l ≤ sL l
    | [] => by simp [pL]
    | t :: l => by rw [pL, sL]; have := pM_sM t; have := pL_sL l; omega
end
def GuPost (t : Rt) (n : Int) (w : World) (e : Ending) (w' : World) : Prop := ∃ r : Int, e = .returned (.int .i64 r) ∧ -1000 ≤ r ∧ r ≤ n ∧ Hid (0 ≤ r → r + sM t ≤ n) ∧ Below w.heap.size w w'
set_option maxHeartbeats 8000000 in
theorem rxl_any {w0 : World} {t : Rt} (h : RxAt w0 t) (hwf : WfX t) : ∀ n : Int, 0 ≤ n → n ≤ 1000 → ∀ w, Below w0.heap.size w0 w → Calls Try.prog 9 #[t.v, .int .i64 n] w (GuPost t n w) := by
  induction h with
  | mk t hr hk hs ih =>
    intro n hn0 hn1 w hb0
    have hM := sM_eq t
    have hK := hide hk
    have hR := hide hr
    have HB0 := hide hb0
    have HRX := hide (RxAt.mk t hr hk hs)
    obtain ⟨_, wf1, wf2, wf3, _, _, wf6⟩ := hwf
    have HIH := hide (fun i hi m h1 h2 W hb => ih i hi (wf6 _ (List.getElem_mem hi)) m h1 h2 W hb)
    obtain ⟨A, c, hkv⟩ := ksat_len hk
    obtain ⟨RA, rc, hrv⟩ := rwat_len hr
    unfold Rt.v Rt.cs
    rw [hkv, hrv]
    rw [hkv] at hK
    rw [hrv] at hR
    obtain ⟨kids, hkids⟩ : ∃ kids, t.kids = kids := ⟨_, rfl⟩
    obtain ⟨rows, hrows⟩ : ∃ rows, t.rows = rows := ⟨_, rfl⟩
    have HIH2 := hide (fun i (hi : i < kids.length) => (show ∃ h2 : i < t.kids.length, t.kids[i] = kids[i] by subst hkids; exact ⟨hi, rfl⟩))
    rw [hkids] at hM hK
    rw [hrows] at hM hR wf3
    have WF3 := hide wf3
    obtain ⟨ch, hch⟩ : ∃ ch, t.ch = ch := ⟨_, rfl⟩
    rw [hch] at hM wf2 ⊢
    have HM := hide hM
    unfold GuPost
    obtain ⟨st, hst⟩ : ∃ st, sM t = st := ⟨_, rfl⟩
    rw [hst] at HM ⊢
    generalize t.k = tk
    generalize t.nt = nt
    generalize t.mi = mi
    generalize t.ma = ma
    generalize t.lz = lz
    rw [hkids, hrows]
    unfold maxLen at wf2
    clear hr hk hs ih hb0 hkv hrv hkids hrows hM wf1 wf3 wf6 hch hst
    have hba := bl_alloc (bl_refl w) (.cells #[.int .i64 tk, .string ch, .bool nt, .slice RA rows.length rc, .int .i64 mi, .int .i64 ma, .bool lz, .slice A kids.length c] 25)
    have HBA := hide hba
    clear hba
    have f1 : (w.alloc (.cells #[.int .i64 tk, .string ch, .bool nt, .slice RA rows.length rc, .int .i64 mi, .int .i64 ma, .bool lz, .slice A kids.length c] 25)).cell? ⟨w.heap.size, 1, none⟩ = some (.string ch) := cells_lit w _ _ 1 _ rfl
    have f3 : (w.alloc (.cells #[.int .i64 tk, .string ch, .bool nt, .slice RA rows.length rc, .int .i64 mi, .int .i64 ma, .bool lz, .slice A kids.length c] 25)).cell? ⟨w.heap.size, 3, none⟩ = some (.slice RA rows.length rc) := cells_lit w _ _ 3 _ rfl
    have f7 : (w.alloc (.cells #[.int .i64 tk, .string ch, .bool nt, .slice RA rows.length rc, .int .i64 mi, .int .i64 ma, .bool lz, .slice A kids.length c] 25)).cell? ⟨w.heap.size, 7, none⟩ = some (.slice A kids.length c) := cells_lit w _ _ 7 _ rfl
    have F3 := hide f3
    have F7 := hide f7
    by_cases q1 : n ≤ ch.size
    · have g1 : decide (n ≤ (ch.size : Int)) = true := decide_eq_true q1
      go_enter Try.func9, Try.ntmps9
      go_wp2
      go_ret
      exact ⟨-1, rfl, by omega, by omega, hide (fun h => by omega), HBA.out⟩
    have g1 : decide (n ≤ (ch.size : Int)) = false := decide_eq_false q1
    by_cases q2 : n ≤ rows.length
    · have g2 : decide (n ≤ (rows.length : Int)) = true := decide_eq_true q2
      go_enter Try.func9, Try.ntmps9
      go_wp2
      go_ret
      exact ⟨-1, rfl, by omega, by omega, hide (fun h => by omega), HBA.out⟩
    have g2 : decide (n ≤ (rows.length : Int)) = false := decide_eq_false q2
    by_cases q3 : n ≤ kids.length
    · have g3 : decide (n ≤ (kids.length : Int)) = true := decide_eq_true q3
      go_enter Try.func9, Try.ntmps9
      go_wp2
      go_ret
      exact ⟨-1, rfl, by omega, by omega, hide (fun h => by omega), HBA.out⟩
    have g3 : decide (n ≤ (kids.length : Int)) = false := decide_eq_false q3
    have e1 : IntKind.i64.wrap (n - 1) = n - 1 := by rw [IntKind.wrap_i64]; omega
    have e2 : IntKind.i64.wrap (n - 1 - (ch.size : Int)) = n - 1 - ch.size := by rw [IntKind.wrap_i64]; omega
    have HN := hide (show 0 ≤ n - 1 - (ch.size : Int) by omega)
    clear q1 q2 q3
    go_enter Try.func9, Try.ntmps9
    go_wp2
    clear f1 f3 f7 g1 g2 g3 e1 e2
    go_loopw [1, 5] (fun m i wr => ∃ (k : Nat) (r : Int), i = .int .i64 k ∧ m = .int .i64 r ∧ k ≤ rows.length ∧ -1000 ≤ r ∧ r ≤ n - 1 - ch.size ∧ Hid (r + 1 + ch.size + rwS (rows.take k) = n) ∧ Hid (Below w.heap.size w wr) ∧ Hid (wr.cell? ⟨w.heap.size, 3, none⟩ = some (.slice RA rows.length rc)) ∧ Hid (wr.cell? ⟨w.heap.size, 7, none⟩ = some (.slice A kids.length c))) (fun _ i _ => rows.length - (intOf i).toNat)
    case atStart => exact ⟨0, n - 1 - ch.size, rfl, rfl, Nat.zero_le _, by have := HN.out; omega, Int.le_refl _, hide (by simp [rwS]; omega), HBA, F3, F7⟩
    case round =>
      obtain ⟨k, r, rfl, rfl, hk, hr0, hr1, HJ, HBL, G3, G7⟩ := hrel
      have c3 := G3.out
      have c7 := G7.out
      by_cases hlt : k < rows.length
      · have HBW := hide (bl_trans HB0.out HBL.out)
        obtain ⟨b1, o1, c1, hv1, hc1, hm1, hlb1, hcell⟩ := rwat_some (rwat_below hR.out HBW.out) (by omega)
        injection hv1 with hv1 _ hv1c
        subst hv1 hv1c
        unfold maxLen at hm1
        obtain ⟨x0, x1⟩ := hcell k hlt
        obtain ⟨z0, z1⟩ := WF3.out _ (List.getElem_mem hlt)
        have hsn := rwS_snoc rows k hlt
        clear hcell
        obtain ⟨a, ha⟩ : ∃ a, rows[k].1 = a := ⟨_, rfl⟩
        obtain ⟨b, hb⟩ : ∃ b, rows[k].2 = b := ⟨_, rfl⟩
        rw [ha, hb] at hsn
        rw [ha] at x0 z0
        rw [hb] at x1 z1
        unfold maxLen at z0 z1
        have HJ2 := hide (show (r - 1 - a.size - b.size) + 1 + ch.size + rwS (rows.take (k + 1)) = n by have := HJ.out; omega)
        have gl : decide ((k : Int) < (rows.length : Int)) = true := decide_eq_true (by omega)
        have gl' : decide (k < rows.length) = true := decide_eq_true hlt
        have e5 : IntKind.i64.wrap ((k : Int) + 1) = (k : Int) + 1 := by rw [IntKind.wrap_i64]; omega
        have i1 : (0 : Int) ≤ (k : Int) := by omega
        have i2 : (k : Int) < (rows.length : Int) := by omega
        clear ha hb hsn
        by_cases qa : r ≤ a.size
        · have ga : decide (r ≤ (a.size : Int)) = true := decide_eq_true qa
          clear HJ2 qa
          go_wp2
          go_ret
          exact ⟨-1, rfl, by omega, by omega, hide (fun h => by omega), HBL.out⟩
        have ga : decide (r ≤ (a.size : Int)) = false := decide_eq_false qa
        by_cases qb : r ≤ b.size
        · have gb : decide (r ≤ (b.size : Int)) = true := decide_eq_true qb
          clear HJ2 qa qb
          go_wp2
          go_ret
          exact ⟨-1, rfl, by omega, by omega, hide (fun h => by omega), HBL.out⟩
        have gb : decide (r ≤ (b.size : Int)) = false := decide_eq_false qb
        have e1 : IntKind.i64.wrap (r - 1) = r - 1 := by rw [IntKind.wrap_i64]; omega
        have e2 : IntKind.i64.wrap (r - 1 - (a.size : Int)) = r - 1 - a.size := by rw [IntKind.wrap_i64]; omega
        have e3 : IntKind.i64.wrap (r - 1 - (a.size : Int) - (b.size : Int)) = r - 1 - a.size - b.size := by rw [IntKind.wrap_i64]; omega
        have HBO := hide (show k + 1 ≤ rows.length ∧ -1000 ≤ r - 1 - (a.size : Int) - b.size ∧ r - 1 - (a.size : Int) - b.size ≤ n - 1 - ch.size by omega)
        clear qa qb
        go_wp2
        go_quiet (fail)
        have HB2 := hide (bl_drewN HBL.out nq)
        have G3' := hide (show (wr.drewN nq).cell? ⟨w.heap.size, 3, none⟩ = some (.slice (some ⟨b1, o1, none⟩) rows.length rc) from cell_later (bl_drewN (bl_refl wr) nq) c3)
        have G7' := hide (show (wr.drewN nq).cell? ⟨w.heap.size, 7, none⟩ = some (.slice A kids.length c) from cell_later (bl_drewN (bl_refl wr) nq) c7)
        clear x0 x1 c3 c7 e1 e2 e3 ga gb
        go_wp2
        refine ⟨?_, by first | (simp [intOf]; done) | (simp [intOf]; omega)⟩
        first
          | exact ⟨k + 1, _, by go_num, rfl, HBO.out.1, HBO.out.2.1, HBO.out.2.2, HJ2, HB2, G3', G7'⟩
          | ((repeat apply Exists.intro); exact ⟨⟨k + 1, _, by go_num, rfl, HBO.out.1, HBO.out.2.1, HBO.out.2.2, HJ2, HB2, G3', G7'⟩, rfl⟩)
      · obtain rfl : k = rows.length := by omega
        have gl : decide ((rows.length : Int) < (rows.length : Int)) = false := by simp
        have gl' : decide (rows.length < rows.length) = false := by simp
        have hj := HJ.out
        rw [List.take_length] at hj
        have HJR := hide hj
        have hr2 : r ≤ n := by omega
        clear hj hlt
        go_wp2
        go_loopw [1, 6] (fun m i wq => ∃ (k : Nat) (r2 : Int), i = .int .i64 k ∧ m = .int .i64 r2 ∧ k ≤ kids.length ∧ -1000 ≤ r2 ∧ r2 ≤ n ∧ Hid (0 ≤ r2 → r2 + 1 + ch.size + rwS rows + sL (kids.take k) ≤ n) ∧ Hid (Below w.heap.size w wq) ∧ Hid (wq.cell? ⟨w.heap.size, 7, none⟩ = some (.slice A kids.length c))) (fun _ i _ => kids.length - (intOf i).toNat)
        case atStart => exact ⟨0, r, rfl, rfl, Nat.zero_le _, hr0, hr2, hide (fun h => by have := HJR.out; simp [sL]; omega), HBL, G7⟩
        case round =>
          clear c3 c7 hr0 hr1 gl gl'
          obtain ⟨k, r2, rfl, rfl, hk2, hq0, hq1, HJ2, HBL2, G72⟩ := hrel
          have c7 := G72.out
          by_cases hneg : r2 < 0
          · have gn : decide ((0 : Int) ≤ r2) = false := decide_eq_false (by omega)
            rcases hgk : decide ((k : Int) < (kids.length : Int)) with _ | _
            all_goals
              have hgk' : decide (k < kids.length) = _ := (show decide (k < kids.length) = decide ((k : Int) < (kids.length : Int)) by apply decide_eq_decide.2; omega).trans hgk
              go_wp2
              go_ret
              exact ⟨r2, rfl, hq0, hq1, hide (fun h => by omega), HBL2.out⟩
          have gn : decide ((0 : Int) ≤ r2) = true := decide_eq_true (by omega)
          by_cases hlt : k < kids.length
          · have HBW := hide (bl_trans HB0.out HBL2.out)
            obtain ⟨b1, o1, c1, hv1, hc1, hm1, hlb1, hcell⟩ := ksat_8 (ksat_below hK.out HBW.out) (by omega)
            injection hv1 with hv1 _ hv1c
            subst hv1 hv1c
            unfold maxLen at hm1
            obtain ⟨x0, x1, x2, x3, x4, x5, x6, x7⟩ := hcell k hlt
            obtain ⟨h2, he⟩ := HIH2.out k hlt
            have HC := fun m h1 h3 W hb => HIH.out k h2 m h1 h3 W hb
            rw [he] at HC
            have hsn := sL_snoc kids k hlt
            clear hcell he h2
            obtain ⟨d, hd⟩ : ∃ d, kids[k] = d := ⟨_, rfl⟩
            rw [hd] at x0 x1 x2 x3 x4 x5 x6 x7 HC hsn
            unfold Rt.v Rt.cs GuPost at HC
            have HC2 := hide (HC r2 (by omega) (by omega))
            have gl : decide ((k : Int) < (kids.length : Int)) = true := decide_eq_true (by omega)
            have gl' : decide (k < kids.length) = true := decide_eq_true hlt
            have e5 : IntKind.i64.wrap ((k : Int) + 1) = (k : Int) + 1 := by rw [IntKind.wrap_i64]; omega
            have i1 : (0 : Int) ≤ (k : Int) := by omega
            have i2 : (k : Int) < (kids.length : Int) := by omega
            have HSN := hide hsn
            clear hd hsn HC
            go_wp2_with fail
            refine (HC2.out _ HBW.out).mono ?_
            rintro e w2 ⟨r3, rfl, hr30, hr31, hr32, hb2⟩
            have HB3 := hide (bl_trans HBL2.out hb2)
            have Z7 := hide (cell_later hb2 c7)
            have HJ3 := hide (show 0 ≤ r3 → r3 + 1 + ch.size + rwS rows + sL (kids.take (k + 1)) ≤ n from fun h => by
              have h1 := hr32.out h
              have h2 := HJ2.out (by omega)
              have h3 := HSN.out
              omega)
            have HBO := hide (show k + 1 ≤ kids.length ∧ -1000 ≤ r3 ∧ r3 ≤ n by omega)
            clear hb2 x0 x1 x2 x3 x4 x5 x6 x7 c7 hr32
            go_wp2
            refine ⟨?_, by first | (simp [intOf]; done) | (simp [intOf]; omega)⟩
            first
              | exact ⟨k + 1, r3, by go_num, rfl, HBO.out.1, HBO.out.2.1, HBO.out.2.2, HJ3, HB3, Z7⟩
              | ((repeat apply Exists.intro); exact ⟨⟨k + 1, r3, by go_num, rfl, HBO.out.1, HBO.out.2.1, HBO.out.2.2, HJ3, HB3, Z7⟩, rfl⟩)
          · obtain rfl : k = kids.length := by omega
            have gl : decide ((kids.length : Int) < (kids.length : Int)) = false := by simp
            have gl' : decide (kids.length < kids.length) = false := by simp
            have hj := HJ2.out
            rw [List.take_length] at hj
            have HE := hide (show 0 ≤ r2 → r2 + st ≤ n from fun h => by have := hj h; have := HM.out; omega)
            clear hj hlt hneg
            go_wp2
            go_ret
            exact ⟨r2, rfl, hq0, hq1, HE, HBL2.out⟩
end Go.Proofs.Ytmfaeonlmfejdaa
