/- Contracts: gimletref13.Seq, Alt. Condition: trees that are not too big. -/
import Derived.Test.YtcgphknnnjpbkaaRxN
import Derived.Test.YtcgphknnnjpbkaaRxF
namespace Go.Proofs.Ytcgphknnnjpbkaa
open Go.ChangeShapes Go.WideShapes Go.ChangeAt Go.RowKit
open SetM
attribute [local go_sem ↓] Go.wp_at_zero Go.wp_at_succ
set_option maxRecDepth 100000
set_option linter.unusedVariables false
theorem grown8 (w : World) {g : Nat} (o0 : Nat) (u0 : Value) (o1 : Nat) (u1 : Value) (o2 : Nat) (u2 : Value) (o3 : Nat) (u3 : Value) (o4 : Nat) (u4 : Value) (o5 : Nat) (u5 : Value) (o6 : Nat) (u6 : Value) (o7 : Nat) (u7 : Value) : w.grownBy ((((((((w.setCell ⟨g, o0, none⟩ u0).setCell ⟨g, o1, none⟩ u1).setCell ⟨g, o2, none⟩ u2).setCell ⟨g, o3, none⟩ u3).setCell ⟨g, o4, none⟩ u4).setCell ⟨g, o5, none⟩ u5).setCell ⟨g, o6, none⟩ u6).setCell ⟨g, o7, none⟩ u7) (some g) :=
  grown_set (grown_set (grown_set (grown_set (grown_set (grown_set (grown_set (grown_set (grown_refl w _) _ _) _ _) _ _) _ _) _ _) _ _) _ _) _ _
set_option maxHeartbeats 16000000 in
theorem rseq_any (v : Value) (l : List Rt) (w : World) (h : KsAt w v l) (hx : ∀ i (hi : i < l.length), RxAt w l[i]) (hz : sL l ≤ 100000) :
    Calls Try.prog 47 #[v] w (SqPost (seqX (flK 0 l)) w) := by
  obtain ⟨vA, vc, rfl⟩ := ksat_len h
  have HC := hide (fun o => rkids_any 0 _ l w (w.alloc o) h hx hz (bl_alloc (bl_refl w) o))
  unfold SqPost
  unfold KpPost at HC
  clear h hx hz
  go_enter Try.func47, Try.ntmps47
  go_wp2_with fail
  refine (HC.out _).mono ?_
  rintro e w2 ⟨v', L, rfl, hb2, hks, hfv, hrl, hel⟩
  obtain ⟨A, c, rfl⟩ := ksat_len hks
  have z0 : w2.cell? ⟨w.heap.size, 0, none⟩ = some (.int .i64 0) := cell_later hb2 (cells_lit w _ _ 0 _ rfl)
  have z1 : w2.cell? ⟨w.heap.size, 1, none⟩ = some (.string ⟨#[]⟩) := cell_later hb2 (cells_lit w _ _ 1 _ rfl)
  have z2 : w2.cell? ⟨w.heap.size, 2, none⟩ = some (.bool false) := cell_later hb2 (cells_lit w _ _ 2 _ rfl)
  have z3 : w2.cell? ⟨w.heap.size, 3, none⟩ = some (.slice none 0 0) := cell_later hb2 (cells_lit w _ _ 3 _ rfl)
  have z4 : w2.cell? ⟨w.heap.size, 4, none⟩ = some (.int .i64 0) := cell_later hb2 (cells_lit w _ _ 4 _ rfl)
  have z5 : w2.cell? ⟨w.heap.size, 5, none⟩ = some (.int .i64 0) := cell_later hb2 (cells_lit w _ _ 5 _ rfl)
  have z6 : w2.cell? ⟨w.heap.size, 6, none⟩ = some (.bool false) := cell_later hb2 (cells_lit w _ _ 6 _ rfl)
  have z7 : w2.cell? ⟨w.heap.size, 7, none⟩ = some (.slice none 0 0) := cell_later hb2 (cells_lit w _ _ 7 _ rfl)
  have hf1 : ∀ o, w2.frozen? ⟨w.heap.size, o, none⟩ = false := fun o => (hb2.frozen (p := ⟨w.heap.size, o, none⟩) (by simp)).trans (by go_simp)
  have HB2 := hide (bl_trans (bl_alloc (bl_refl w) _) hb2)
  have hn : w.heap.size + 1 ≤ (w.alloc (.cells #[.int .i64 0, .string ⟨#[]⟩, .bool false, .slice none 0 0, .int .i64 0, .int .i64 0, .bool false, .slice none 0 0] 26)).heap.size := by simp
  have HKS := hide hks
  have HFV := hide (hfv.mono hn)
  have HFL := hide (fun x hx => off_new (hrl x hx) (Nat.le_refl _))
  have HRL := hide (fun x hx => rx_below (hrl x hx) HB2.out)
  have HEL := hide hel
  have hsz : w.heap.size < w2.heap.size := by have := hb2.size; simp at this; omega
  have hlen : L.length = (flK 0 l).length := by rw [← hel, List.length_map]
  clear hb2 hks hfv hrl hel hn
  by_cases hl1 : L.length = 1
  · have g1 : ((L.length : Int) == 1) = true := beq_iff_eq.2 (by omega)
    have HX := hide (show seqX (flK 0 l) = (flK 0 l).headD (kdX 0 []) from if_pos (by omega))
    obtain ⟨b1, o1, c1', hv1, hc1, hm1, hlb1, hcell1⟩ := ksat_8 HKS.out (by omega)
    injection hv1 with hv1 _ hv1c
    subst hv1 hv1c
    unfold maxLen at hm1
    obtain ⟨q0, q1, q2, q3, q4, q5, q6, q7⟩ := hcell1 0 (by omega)
    have hmem : L[0] ∈ L := List.getElem_mem _
    have hxp := HRL.out _ hmem
    have hfp := HFL.out _ hmem
    have hE : er L[0] = (flK 0 l).headD (kdX 0 []) := by
      have := HEL.out
      rw [← this]
      cases L with
      | nil => simp at hl1
      | cons a r => rfl
    obtain ⟨p, hp⟩ : ∃ p, L[0] = p := ⟨_, rfl⟩
    rw [hp] at q0 q1 q2 q3 q4 q5 q6 q7 hxp hfp hE
    obtain ⟨pA, pc, hprv⟩ := rwat_len hxp.rows
    obtain ⟨pB, pd, hpkv⟩ := ksat_len hxp.ks
    have hv : p.v = .agg #[.int .i64 p.k, .string p.ch, .bool p.nt, .slice pA p.rows.length pc, .int .i64 p.mi, .int .i64 p.ma, .bool p.lz, .slice pB p.kids.length pd] := by unfold Rt.v Rt.cs; rw [hprv, hpkv]
    rw [hprv] at q3
    rw [hpkv] at q7
    simp only [Nat.zero_mul, Nat.add_zero] at q0 q1 q2 q3 q4 q5 q6 q7
    have HXP := hide hxp
    have HFP := hide hfp
    have HE := hide hE
    have HV := hide hv
    have i2 : (0 : Int) < (L.length : Int) := by omega
    clear hxp hfp hE hprv hpkv hp hmem hcell1 hv hlen
    go_wp2
    refine bodyPost_ret (v := .agg #[.int .i64 p.k, .string p.ch, .bool p.nt, .slice pA p.rows.length pc, .int .i64 p.mi, .int .i64 p.ma, .bool p.lz, .slice pB p.kids.length pd]) ?_ rfl ⟨p, by rw [HV.out], ?_, ?_, ?_⟩
    · rw [results_cell1 rfl]
      go_simp
    · exact bl8 HB2.out (Nat.le_refl _) _ _ _ _ _ _ _ _ _ _ _ _ _ _ _ _
    · exact rx_off HXP.out HFP.out (grown8 _ _ _ _ _ _ _ _ _ _ _ _ _ _ _ _ _)
    · rw [HE.out, HX.out]
  · have g1 : ((L.length : Int) == 1) = false := beq_eq_false_iff_ne.2 (by omega)
    have HX := hide (show seqX (flK 0 l) = kdX 0 (flK 0 l) from if_neg (by omega))
    clear hlen
    go_wp2
    refine bodyPost_ret (v := .agg #[.int .i64 0, .string ⟨#[]⟩, .bool false, .slice none 0 0, .int .i64 0, .int .i64 0, .bool false, .slice A L.length c]) ?_ rfl ⟨Rt.mk 0 ⟨#[]⟩ false (.slice none 0 0) [] 0 0 false (.slice A L.length c) L, rfl, ?_, ?_, ?_⟩
    · rw [results_cell1 rfl]
      go_simp
    · exact bl8 HB2.out (Nat.le_refl _) _ _ _ _ _ _ _ _ _ _ _ _ _ _ _ _
    · exact .mk _ (.inl ⟨rfl, rfl⟩) (ksat_kept HKS.out HFV.out (kept8 _ (Nat.lt_succ_self _) _ _ _ _ _ _ _ _ _ _ _ _ _ _ _ _)) (fun i hi => rx_off (HRL.out _ (List.getElem_mem hi)) (HFL.out _ (List.getElem_mem hi)) (grown8 _ _ _ _ _ _ _ _ _ _ _ _ _ _ _ _ _))
    · rw [HX.out, er_eq]
      show kdX 0 (L.map er) = _
      rw [HEL.out]
set_option maxHeartbeats 16000000 in
theorem ralt_any (v : Value) (l : List Rt) (w : World) (h : KsAt w v l) (hx : ∀ i (hi : i < l.length), RxAt w l[i]) (hz : sL l ≤ 100000) :
    Calls Try.prog 49 #[v] w (SqPost (altX (flK 1 l)) w) := by
  obtain ⟨vA, vc, rfl⟩ := ksat_len h
  have HC := hide (fun o => rkids_any 1 _ l w (w.alloc o) h hx hz (bl_alloc (bl_refl w) o))
  unfold SqPost
  unfold KpPost at HC
  clear h hx hz
  go_enter Try.func49, Try.ntmps49
  go_wp2_with fail
  refine (HC.out _).mono ?_
  rintro e w2 ⟨v', L, rfl, hb2, hks, hfv, hrl, hel⟩
  obtain ⟨A, c, rfl⟩ := ksat_len hks
  have z0 : w2.cell? ⟨w.heap.size, 0, none⟩ = some (.int .i64 0) := cell_later hb2 (cells_lit w _ _ 0 _ rfl)
  have z1 : w2.cell? ⟨w.heap.size, 1, none⟩ = some (.string ⟨#[]⟩) := cell_later hb2 (cells_lit w _ _ 1 _ rfl)
  have z2 : w2.cell? ⟨w.heap.size, 2, none⟩ = some (.bool false) := cell_later hb2 (cells_lit w _ _ 2 _ rfl)
  have z3 : w2.cell? ⟨w.heap.size, 3, none⟩ = some (.slice none 0 0) := cell_later hb2 (cells_lit w _ _ 3 _ rfl)
  have z4 : w2.cell? ⟨w.heap.size, 4, none⟩ = some (.int .i64 0) := cell_later hb2 (cells_lit w _ _ 4 _ rfl)
  have z5 : w2.cell? ⟨w.heap.size, 5, none⟩ = some (.int .i64 0) := cell_later hb2 (cells_lit w _ _ 5 _ rfl)
  have z6 : w2.cell? ⟨w.heap.size, 6, none⟩ = some (.bool false) := cell_later hb2 (cells_lit w _ _ 6 _ rfl)
  have z7 : w2.cell? ⟨w.heap.size, 7, none⟩ = some (.slice none 0 0) := cell_later hb2 (cells_lit w _ _ 7 _ rfl)
  have hf1 : ∀ o, w2.frozen? ⟨w.heap.size, o, none⟩ = false := fun o => (hb2.frozen (p := ⟨w.heap.size, o, none⟩) (by simp)).trans (by go_simp)
  have HB2 := hide (bl_trans (bl_alloc (bl_refl w) _) hb2)
  have hn : w.heap.size + 1 ≤ (w.alloc (.cells #[.int .i64 0, .string ⟨#[]⟩, .bool false, .slice none 0 0, .int .i64 0, .int .i64 0, .bool false, .slice none 0 0] 26)).heap.size := by simp
  have HKS := hide hks
  have HFV := hide (hfv.mono hn)
  have HFL := hide (fun x hx => off_new (hrl x hx) (Nat.le_refl _))
  have HRL := hide (fun x hx => rx_below (hrl x hx) HB2.out)
  have HEL := hide hel
  have hsz : w.heap.size < w2.heap.size := by have := hb2.size; simp at this; omega
  have hlen : L.length = (flK 1 l).length := by rw [← hel, List.length_map]
  clear hb2 hks hfv hrl hel hn
  by_cases hl0 : L.length = 0
  · have g0 : ((L.length : Int) == 0) = true := beq_iff_eq.2 (by omega)
    have HX := hide (show altX (flK 1 l) = kdX 0 [] from if_pos (by omega))
    clear hlen
    go_wp2
    refine bodyPost_ret (v := .agg #[.int .i64 0, .string ⟨#[]⟩, .bool false, .slice none 0 0, .int .i64 0, .int .i64 0, .bool false, .slice none 0 0]) ?_ rfl ⟨Rt.mk 0 ⟨#[]⟩ false (.slice none 0 0) [] 0 0 false (.slice none 0 0) [], rfl, ?_, ?_, ?_⟩
    · rw [results_cell1 rfl]
      go_simp
    · exact bl8 HB2.out (Nat.le_refl _) _ _ _ _ _ _ _ _ _ _ _ _ _ _ _ _
    · exact .mk _ (.inl ⟨rfl, rfl⟩) (.inl ⟨rfl, rfl⟩) (fun i hi => absurd hi (Nat.not_lt_zero _))
    · rw [HX.out, er_eq]; rfl
  have g0 : ((L.length : Int) == 0) = false := beq_eq_false_iff_ne.2 (by omega)
  by_cases hl1 : L.length = 1
  · have g1 : ((L.length : Int) == 1) = true := beq_iff_eq.2 (by omega)
    have HX := hide (show altX (flK 1 l) = (flK 1 l).headD (kdX 0 []) from (if_neg (by omega)).trans (if_pos (by omega)))
    obtain ⟨b1, o1, c1', hv1, hc1, hm1, hlb1, hcell1⟩ := ksat_8 HKS.out (by omega)
    injection hv1 with hv1 _ hv1c
    subst hv1 hv1c
    unfold maxLen at hm1
    obtain ⟨q0, q1, q2, q3, q4, q5, q6, q7⟩ := hcell1 0 (by omega)
    have hmem : L[0] ∈ L := List.getElem_mem _
    have hxp := HRL.out _ hmem
    have hfp := HFL.out _ hmem
    have hE : er L[0] = (flK 1 l).headD (kdX 0 []) := by
      have := HEL.out
      rw [← this]
      cases L with
      | nil => simp at hl1
      | cons a r => rfl
    obtain ⟨p, hp⟩ : ∃ p, L[0] = p := ⟨_, rfl⟩
    rw [hp] at q0 q1 q2 q3 q4 q5 q6 q7 hxp hfp hE
    obtain ⟨pA, pc, hprv⟩ := rwat_len hxp.rows
    obtain ⟨pB, pd, hpkv⟩ := ksat_len hxp.ks
    have hv : p.v = .agg #[.int .i64 p.k, .string p.ch, .bool p.nt, .slice pA p.rows.length pc, .int .i64 p.mi, .int .i64 p.ma, .bool p.lz, .slice pB p.kids.length pd] := by unfold Rt.v Rt.cs; rw [hprv, hpkv]
    rw [hprv] at q3
    rw [hpkv] at q7
    simp only [Nat.zero_mul, Nat.add_zero] at q0 q1 q2 q3 q4 q5 q6 q7
    have HXP := hide hxp
    have HFP := hide hfp
    have HE := hide hE
    have HV := hide hv
    have i2 : (0 : Int) < (L.length : Int) := by omega
    clear hxp hfp hE hprv hpkv hp hmem hcell1 hv hlen
    go_wp2
    refine bodyPost_ret (v := .agg #[.int .i64 p.k, .string p.ch, .bool p.nt, .slice pA p.rows.length pc, .int .i64 p.mi, .int .i64 p.ma, .bool p.lz, .slice pB p.kids.length pd]) ?_ rfl ⟨p, by rw [HV.out], ?_, ?_, ?_⟩
    · rw [results_cell1 rfl]
      go_simp
    · exact bl8 HB2.out (Nat.le_refl _) _ _ _ _ _ _ _ _ _ _ _ _ _ _ _ _
    · exact rx_off HXP.out HFP.out (grown8 _ _ _ _ _ _ _ _ _ _ _ _ _ _ _ _ _)
    · rw [HE.out, HX.out]
  · have g1 : ((L.length : Int) == 1) = false := beq_eq_false_iff_ne.2 (by omega)
    have HX := hide (show altX (flK 1 l) = kdX 1 (flK 1 l) from (if_neg (by omega)).trans (if_neg (by omega)))
    clear hlen
    go_wp2
    refine bodyPost_ret (v := .agg #[.int .i64 1, .string ⟨#[]⟩, .bool false, .slice none 0 0, .int .i64 0, .int .i64 0, .bool false, .slice A L.length c]) ?_ rfl ⟨Rt.mk 1 ⟨#[]⟩ false (.slice none 0 0) [] 0 0 false (.slice A L.length c) L, rfl, ?_, ?_, ?_⟩
    · rw [results_cell1 rfl]
      go_simp
    · exact bl8 HB2.out (Nat.le_refl _) _ _ _ _ _ _ _ _ _ _ _ _ _ _ _ _
    · exact .mk _ (.inl ⟨rfl, rfl⟩) (ksat_kept HKS.out HFV.out (kept8 _ (Nat.lt_succ_self _) _ _ _ _ _ _ _ _ _ _ _ _ _ _ _ _)) (fun i hi => rx_off (HRL.out _ (List.getElem_mem hi)) (HFL.out _ (List.getElem_mem hi)) (grown8 _ _ _ _ _ _ _ _ _ _ _ _ _ _ _ _ _))
    · rw [HX.out, er_eq]
      show kdX 1 (L.map er) = _
      rw [HEL.out]
end Go.Proofs.Ytcgphknnnjpbkaa
