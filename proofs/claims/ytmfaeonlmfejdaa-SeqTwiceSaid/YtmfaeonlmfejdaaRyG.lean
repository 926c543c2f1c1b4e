/- Contracts: gimletref13.May; awake of layer 13. Condition: a tree that is not too big. -/
import Derived.Test.YtmfaeonlmfejdaaRyF
namespace Go.Proofs.Ytmfaeonlmfejdaa
open Go.ChangeShapes Go.WideShapes Go.ChangeAt Go.RowKit
open SetM
attribute [local go_sem ↓] Go.wp_at_zero Go.wp_at_succ
set_option maxRecDepth 100000
set_option linter.unusedVariables false
mutual
  theorem sM_er : ∀ t, sM (er t) = sM t
    | .mk _ _ _ _ _ _ _ _ _ l => by rw [er, sM, sM, sL_er l]
  theorem sL_er : ∀ l, sL (erL l) = sL l
    | [] => by rw [erL]
    | t :: l => by rw [erL, sL, sL, sM_er t, sL_er l]
end
theorem seqk_map (p : Int → Bool) (l : List Rt) : (l.map er).all (fun t => p t.k) = l.all (fun t => p t.k) := by
  rw [List.all_map]
  congr 1
  funext t
  rw [Function.comp, er_eq]
  rfl
theorem mkB_er (k : Int) (l : List Rt) : mkB k (l.map er) = mkB k l := by
  unfold mkB
  rw [List.length_map, seqk_map seqkB, seqk_map altkB, seqk_map atomB]
mutual
  theorem okM_er : ∀ t, okM (er t) = okM t
    | .mk _ _ _ _ _ _ _ _ _ l => by rw [er, okM, okM, okL_er l, erL_map, mkB_er]
  theorem okL_er : ∀ l, okL (erL l) = okL l
    | [] => by rw [erL]
    | t :: l => by rw [erL, okL, okL, okM_er t, okL_er l]
end
theorem cnB_er {a b : Rt} (h : er a = b) (g L : Int) : cnB a g L = cnB b g L := by
  unfold cnB
  rw [← h, pM_er, dM_er, okM_er]
set_option maxHeartbeats 4000000 in
theorem rxrmay_any {w0 : World} {t : Rt} (h : RxAt w0 t) (hz : sM t ≤ 100000) (w : World) (hb0 : Below w0.heap.size w0 w) : Calls Try.prog 12 #[t.v] w (SmPost (cnB t 16 512) w) := by
  obtain ⟨A, c, hkv⟩ := ksat_len h.ks
  obtain ⟨RA, rc, hrv⟩ := rwat_len h.rows
  obtain ⟨r, hr⟩ : ∃ r, cnB t 16 512 = r := ⟨_, rfl⟩
  have hpm := pM_sM t
  have HP := hide (fun W hb => rparts_any h (by omega) W hb)
  have HD := hide (fun W hb => rdeep_any h (by omega) W hb)
  have HM := hide (fun W hb => rmay_any h hz W hb)
  have hv : t.v = .agg #[.int .i64 t.k, .string t.ch, .bool t.nt, .slice RA t.rows.length rc, .int .i64 t.mi, .int .i64 t.ma, .bool t.lz, .slice A t.kids.length c] := by unfold Rt.v Rt.cs; rw [hkv, hrv]
  unfold SmPost at *
  rw [hv] at HP HD HM ⊢
  rw [hr]
  unfold cnB at hr
  have HB0 := hide hb0
  clear h hkv hrv hv hb0 hz hpm
  generalize t.kids.length = kl at *
  generalize t.rows.length = rl at *
  generalize t.k = k at *
  generalize t.ch = ch at *
  generalize t.nt = nt at *
  generalize t.mi = mi at *
  generalize t.ma = ma at *
  generalize t.lz = lz at *
  generalize pM t = pt at *
  generalize dM t = dt at *
  generalize okM t = ok at *
  obtain ⟨W1, hW1⟩ : ∃ W1, w.alloc (.cells #[.int .i64 k, .string ch, .bool nt, .slice RA rl rc, .int .i64 mi, .int .i64 ma, .bool lz, .slice A kl c] 25) = W1 := ⟨_, rfl⟩
  have HBA := hide (show Below w.heap.size w W1 from by rw [← hW1]; exact bl_alloc (bl_refl w) _)
  have FJ := hide (fun W (hb : Below W1.heap.size W1 W) j u (hu : (#[Value.int .i64 k, .string ch, .bool nt, .slice RA rl rc, .int .i64 mi, .int .i64 ma, .bool lz, .slice A kl c] : Array Value).toList[j]? = some u) => (show W.cell? ⟨w.heap.size, j, none⟩ = some u by
    refine cell_later hb ?_
    rw [← hW1]
    have := cells_lit w _ 25 j u hu
    rw [addr_add, Nat.zero_add] at this
    exact this))
  have c0 := FJ.out _ (bl_refl _) 0 _ rfl
  have c1 := FJ.out _ (bl_refl _) 1 _ rfl
  have c2 := FJ.out _ (bl_refl _) 2 _ rfl
  have c3 := FJ.out _ (bl_refl _) 3 _ rfl
  have c4 := FJ.out _ (bl_refl _) 4 _ rfl
  have c5 := FJ.out _ (bl_refl _) 5 _ rfl
  have c6 := FJ.out _ (bl_refl _) 6 _ rfl
  have c7 := FJ.out _ (bl_refl _) 7 _ rfl
  have HR := hide hr
  clear hr
  go_enter Try.func12, Try.ntmps12
  go_wp2_with fail
  refine (HP.out _ (bl_trans HB0.out HBA.out)).mono ?_
  rintro e w2 ⟨rfl, hb2⟩
  have HB2 := hide hb2
  clear hb2 c0 c1 c2 c3 c4 c5 c6 c7
  have c0 := FJ.out _ HB2.out 0 _ rfl
  have c1 := FJ.out _ HB2.out 1 _ rfl
  have c2 := FJ.out _ HB2.out 2 _ rfl
  have c3 := FJ.out _ HB2.out 3 _ rfl
  have c4 := FJ.out _ HB2.out 4 _ rfl
  have c5 := FJ.out _ HB2.out 5 _ rfl
  have c6 := FJ.out _ HB2.out 6 _ rfl
  have c7 := FJ.out _ HB2.out 7 _ rfl
  by_cases qp : pt ≤ 512
  case neg =>
    obtain rfl : r = false := by rw [← HR.out]; simp; omega
    have z1 : decide ((pt : Int) ≤ 512) = false := decide_eq_false (by omega)
    have z2 : decide (pt ≤ 512) = false := decide_eq_false qp
    clear qp HR
    go_wp2
    go_ret
    exact ⟨rfl, bl_trans HBA.out HB2.out⟩
  have z1 : decide ((pt : Int) ≤ 512) = true := decide_eq_true (by omega)
  have z2 : decide (pt ≤ 512) = true := decide_eq_true qp
  go_wp2_with fail
  refine (HD.out _ (bl_trans HB0.out (bl_trans HBA.out HB2.out))).mono ?_
  rintro e w3 ⟨rfl, hb3⟩
  have HB3 := hide (bl_trans HB2.out hb3)
  clear hb3 c0 c1 c2 c3 c4 c5 c6 c7
  have c0 := FJ.out _ HB3.out 0 _ rfl
  have c1 := FJ.out _ HB3.out 1 _ rfl
  have c2 := FJ.out _ HB3.out 2 _ rfl
  have c3 := FJ.out _ HB3.out 3 _ rfl
  have c4 := FJ.out _ HB3.out 4 _ rfl
  have c5 := FJ.out _ HB3.out 5 _ rfl
  have c6 := FJ.out _ HB3.out 6 _ rfl
  have c7 := FJ.out _ HB3.out 7 _ rfl
  by_cases qd : dt ≤ 16
  case neg =>
    obtain rfl : r = false := by rw [← HR.out]; simp; omega
    have z3 : decide ((dt : Int) ≤ 16) = false := decide_eq_false (by omega)
    have z4 : decide (dt ≤ 16) = false := decide_eq_false qd
    clear qp HR qd
    go_wp2
    go_ret
    exact ⟨rfl, bl_trans HBA.out HB3.out⟩
  have z3 : decide ((dt : Int) ≤ 16) = true := decide_eq_true (by omega)
  have z4 : decide (dt ≤ 16) = true := decide_eq_true qd
  obtain rfl : r = ok := by rw [← HR.out, z1, z3]; rfl
  clear qp qd HR
  go_wp2_with fail
  refine (HM.out _ (bl_trans HB0.out (bl_trans HBA.out HB3.out))).mono ?_
  rintro e w4 ⟨rfl, hb4⟩
  have HB4 := hide (bl_trans HBA.out (bl_trans HB3.out hb4))
  clear hb4
  go_wp2
  go_ret
  exact ⟨rfl, HB4.out⟩
/-- One character. -/
def lfR (c : ByteArray) : Rt := .mk 2 c false (.slice none 0 0) [] 0 0 false (.slice none 0 0) []
theorem lf_rx (w : World) (c : ByteArray) : RxAt w (lfR c) := .mk _ (.inl ⟨rfl, rfl⟩) (.inl ⟨rfl, rfl⟩) (fun i hi => by simp [lfR, Rt.kids] at hi)
theorem er_lf (c : ByteArray) : er (lfR c) = lfR c := by rw [er_eq]; rfl
theorem char13_any (c : ByteArray) (w : World) : Calls Try.prog 28 #[.string c] w fun e w' => e = .returned (lfR c).v ∧ Below w.heap.size w w' := by
  have HBA := hide (fun o1 => bl_alloc (bl_refl w) o1)
  go_enter Try.func28, Try.ntmps28
  go_wp2
  refine bodyPost_ret (v := (lfR c).v) ?_ rfl ⟨rfl, ?_⟩
  · rw [results_cell1 rfl]
    unfold lfR Rt.v Rt.cs Rt.k Rt.ch Rt.nt Rt.rv Rt.mi Rt.ma Rt.lz Rt.kv
    go_simp
  · repeat (first | exact HBA.out _ | refine bl_set ?_ (Nat.le_refl _) _)
/-- A literal list of trees. -/
theorem ks_lit {w : World} {l : List Rt} {n : Nat} (hn : l.length = n) (h1 : n ≤ 1000) (arr : Array Value) (ha : arr.toList = flatX l) : KsAt (w.alloc (.cells arr 25)) (.slice (some ⟨w.heap.size, 0, none⟩) n n) l := by
  refine .inr ⟨⟨w.heap.size, 0, none⟩, n, by rw [hn], by omega, by unfold maxLen; omega, fun i hi j u hu => ?_⟩
  exact cells_lit w arr _ _ u (by rw [ha]; exact flatX_at l i hi j u hu)
end Go.Proofs.Ytmfaeonlmfejdaa
