/- Contract: deep.Rx, the copy of a tree. Condition: a tree that is not too big. -/
import Derived.Test.YtcgphknnnjpbkaaRxJ
namespace Go.Proofs.Ytcgphknnnjpbkaa
open Go.ChangeShapes Go.WideShapes Go.ChangeAt Go.RowKit
open SetM
attribute [local go_sem ↓] Go.wp_at_zero Go.wp_at_succ
set_option maxRecDepth 100000
set_option linter.unusedVariables false
theorem sM_pos (t : Rt) : 1 ≤ sM t := by rw [sM_eq]; omega
theorem sL_len (l : List Rt) : l.length ≤ sL l := by
  induction l with
  | nil => simp
  | cons a l ih => rw [sL, List.length_cons]; have := sM_pos a; omega
set_option maxHeartbeats 16000000 in
theorem deeprx_any {w0 : World} {t : Rt} (h : RxAt w0 t) : sM t ≤ 100000 → ∀ w, Below w0.heap.size w0 w → Calls Try.prog 54 #[t.v] w (DpPost t w) := by
  induction h with
  | mk t hr hk hs ih =>
    intro hz w hb0
    have hM := sM_eq t
    have hl1 := rwS_len t.rows
    have hl2 := sL_len t.kids
    have HRC := hide (fun W (hb : Below w0.heap.size w0 W) => listrows_any _ _ W (rwat_below hr hb) (by omega))
    have HKC := hide (fun W (hb : Below w0.heap.size w0 W) => eachrx_any _ _ w0 hk hs (by omega) (fun i hi W2 hb2 => ih i hi (by have := sL_kid t.kids i hi; omega) W2 hb2) W hb)
    have HB0 := hide hb0
    have HBO := hide (fun o1 o2 => bl_alloc (bl_alloc (bl_refl w) o1) o2)
    have hsz0 := hb0.size
    obtain ⟨A, c, hkv⟩ := ksat_len hk
    obtain ⟨RA, rc, hrv⟩ := rwat_len hr
    rw [hkv] at HKC
    rw [hrv] at HRC
    unfold DpPost
    unfold RwPost at HRC
    unfold EpPost at HKC
    rw [show t.v = .agg #[.int .i64 t.k, .string t.ch, .bool t.nt, .slice RA t.rows.length rc, .int .i64 t.mi, .int .i64 t.ma, .bool t.lz, .slice A t.kids.length c] by unfold Rt.v Rt.cs; rw [hkv, hrv]]
    have FJ := hide (fun o2 j u (hu : (#[Value.int .i64 t.k, .string t.ch, .bool t.nt, .slice RA t.rows.length rc, .int .i64 t.mi, .int .i64 t.ma, .bool t.lz, .slice A t.kids.length c] : Array Value).toList[j]? = some u) => cell_later (bl_alloc (bl_refl _) o2) (cells_lit w _ 26 j u hu))
    clear hr hk hs ih hb0 hz hM hl1 hl2 hkv hrv
    go_enter Try.func54, Try.ntmps54
    go_wp2_with fail
    refine (HRC.out _ (bl_trans HB0.out (HBO.out _ _))).mono ?_
    rintro e w2 ⟨rv', rfl, hb2, hrw, hfv⟩
    obtain ⟨nA, nc, rfl⟩ := rwat_len hrw
    have c0 : w2.cell? ⟨w.heap.size, 0, none⟩ = some (.int .i64 t.k) := cell_later hb2 (FJ.out _ 0 _ rfl)
    have c1 : w2.cell? ⟨w.heap.size, 1, none⟩ = some (.string t.ch) := cell_later hb2 (FJ.out _ 1 _ rfl)
    have c2 : w2.cell? ⟨w.heap.size, 2, none⟩ = some (.bool t.nt) := cell_later hb2 (FJ.out _ 2 _ rfl)
    have c3 : w2.cell? ⟨w.heap.size, 3, none⟩ = some (.slice RA t.rows.length rc) := cell_later hb2 (FJ.out _ 3 _ rfl)
    have c4 : w2.cell? ⟨w.heap.size, 4, none⟩ = some (.int .i64 t.mi) := cell_later hb2 (FJ.out _ 4 _ rfl)
    have c5 : w2.cell? ⟨w.heap.size, 5, none⟩ = some (.int .i64 t.ma) := cell_later hb2 (FJ.out _ 5 _ rfl)
    have c6 : w2.cell? ⟨w.heap.size, 6, none⟩ = some (.bool t.lz) := cell_later hb2 (FJ.out _ 6 _ rfl)
    have c7 : w2.cell? ⟨w.heap.size, 7, none⟩ = some (.slice A t.kids.length c) := cell_later hb2 (FJ.out _ 7 _ rfl)
    have z0 : w2.cell? ⟨w.heap.size + 1, 0, none⟩ = some (.int .i64 0) := cell_later hb2 (cells_lit2 _ _ _ 0 _ rfl (by simp))
    have z1 : w2.cell? ⟨w.heap.size + 1, 1, none⟩ = some (.string ⟨#[]⟩) := cell_later hb2 (cells_lit2 _ _ _ 1 _ rfl (by simp))
    have z2 : w2.cell? ⟨w.heap.size + 1, 2, none⟩ = some (.bool false) := cell_later hb2 (cells_lit2 _ _ _ 2 _ rfl (by simp))
    have z3 : w2.cell? ⟨w.heap.size + 1, 3, none⟩ = some (.slice none 0 0) := cell_later hb2 (cells_lit2 _ _ _ 3 _ rfl (by simp))
    have z4 : w2.cell? ⟨w.heap.size + 1, 4, none⟩ = some (.int .i64 0) := cell_later hb2 (cells_lit2 _ _ _ 4 _ rfl (by simp))
    have z5 : w2.cell? ⟨w.heap.size + 1, 5, none⟩ = some (.int .i64 0) := cell_later hb2 (cells_lit2 _ _ _ 5 _ rfl (by simp))
    have z6 : w2.cell? ⟨w.heap.size + 1, 6, none⟩ = some (.bool false) := cell_later hb2 (cells_lit2 _ _ _ 6 _ rfl (by simp))
    have z7 : w2.cell? ⟨w.heap.size + 1, 7, none⟩ = some (.slice none 0 0) := cell_later hb2 (cells_lit2 _ _ _ 7 _ rfl (by simp))
    have hf1 : ∀ o, w2.frozen? ⟨w.heap.size, o, none⟩ = false := fun o => (hb2.frozen (p := ⟨w.heap.size, o, none⟩) (by simp; omega)).trans (by go_simp)
    have hf2 : ∀ o, w2.frozen? ⟨w.heap.size + 1, o, none⟩ = false := fun o => (hb2.frozen (p := ⟨w.heap.size + 1, o, none⟩) (by simp)).trans (by go_simp)
    have HB2 := hide (bl_trans (HBO.out _ _) hb2)
    have HRW := hide hrw
    have HFV := hide (hfv.mono (show w.heap.size + 2 ≤ _ by simp))
    have hs2 : w.heap.size + 1 < w2.heap.size := by have := hb2.size; simp at this; omega
    clear hb2 hrw hfv FJ HRC
    go_wp2_with fail
    have HBS := hide (show Below w.heap.size w (w2.setCell ⟨w.heap.size, 3, none⟩ (.slice nA t.rows.length nc)) from bl_set HB2.out (Nat.le_refl _) _)
    refine (HKC.out _ (bl_trans HB0.out HBS.out)).mono ?_
    rintro e w3 ⟨kv', L, rfl, hb3, hks, hfk, hrl, hfl, hel⟩
    obtain ⟨kA, kc, rfl⟩ := ksat_len hks
    have d0 : w3.cell? ⟨w.heap.size, 0, none⟩ = some (.int .i64 t.k) := cell_later hb3 (by go_simp)
    have d1 : w3.cell? ⟨w.heap.size, 1, none⟩ = some (.string t.ch) := cell_later hb3 (by go_simp)
    have d2 : w3.cell? ⟨w.heap.size, 2, none⟩ = some (.bool t.nt) := cell_later hb3 (by go_simp)
    have d3 : w3.cell? ⟨w.heap.size, 3, none⟩ = some (.slice nA t.rows.length nc) := cell_later hb3 (by go_simp)
    have d4 : w3.cell? ⟨w.heap.size, 4, none⟩ = some (.int .i64 t.mi) := cell_later hb3 (by go_simp)
    have d5 : w3.cell? ⟨w.heap.size, 5, none⟩ = some (.int .i64 t.ma) := cell_later hb3 (by go_simp)
    have d6 : w3.cell? ⟨w.heap.size, 6, none⟩ = some (.bool t.lz) := cell_later hb3 (by go_simp)
    have d7 : w3.cell? ⟨w.heap.size, 7, none⟩ = some (.slice A t.kids.length c) := cell_later hb3 (by go_simp)
    have y0 : w3.cell? ⟨w.heap.size + 1, 0, none⟩ = some (.int .i64 0) := cell_later hb3 (by go_simp)
    have y1 : w3.cell? ⟨w.heap.size + 1, 1, none⟩ = some (.string ⟨#[]⟩) := cell_later hb3 (by go_simp)
    have y2 : w3.cell? ⟨w.heap.size + 1, 2, none⟩ = some (.bool false) := cell_later hb3 (by go_simp)
    have y3 : w3.cell? ⟨w.heap.size + 1, 3, none⟩ = some (.slice none 0 0) := cell_later hb3 (by go_simp)
    have y4 : w3.cell? ⟨w.heap.size + 1, 4, none⟩ = some (.int .i64 0) := cell_later hb3 (by go_simp)
    have y5 : w3.cell? ⟨w.heap.size + 1, 5, none⟩ = some (.int .i64 0) := cell_later hb3 (by go_simp)
    have y6 : w3.cell? ⟨w.heap.size + 1, 6, none⟩ = some (.bool false) := cell_later hb3 (by go_simp)
    have y7 : w3.cell? ⟨w.heap.size + 1, 7, none⟩ = some (.slice none 0 0) := cell_later hb3 (by go_simp)
    have g1 : ∀ o, w3.frozen? ⟨w.heap.size, o, none⟩ = false := fun o => (hb3.frozen (p := ⟨w.heap.size, o, none⟩) (by simp [World.setCell]; omega)).trans (by go_simp)
    have g2 : ∀ o, w3.frozen? ⟨w.heap.size + 1, o, none⟩ = false := fun o => (hb3.frozen (p := ⟨w.heap.size + 1, o, none⟩) (by simp [World.setCell]; omega)).trans (by go_simp)
    have HB3 := hide (bl_trans HBS.out hb3)
    have hsz3 : w.heap.size + 2 ≤ (w2.setCell ⟨w.heap.size, 3, none⟩ (.slice nA t.rows.length nc)).heap.size := by simp [World.setCell]; omega
    have HRW3 := hide (show RwAt w3 (.slice nA t.rows.length nc) t.rows from rwat_kept HRW.out HFV.out (kept_trans (kept_set w2 (show w.heap.size < w.heap.size + 2 by omega) _) (kept_below hb3)))
    have HKS := hide hks
    have HFK := hide (hfk.mono hsz3)
    have HRL := hide hrl
    have HFL := hide (fun x hx => (hfl x hx).mono hsz3)
    have HEL := hide hel
    clear hb3 hks hfk hrl hfl hel hsz3 hf1 hf2 c0 c1 c2 c3 c4 c5 c6 c7 z0 z1 z2 z3 z4 z5 z6 z7 HKC HRW
    go_wp2
    refine bodyPost_ret (v := .agg #[.int .i64 t.k, .string t.ch, .bool t.nt, .slice nA t.rows.length nc, .int .i64 t.mi, .int .i64 t.ma, .bool t.lz, .slice kA L.length kc]) ?_ rfl ⟨Rt.mk t.k t.ch t.nt (.slice nA t.rows.length nc) t.rows t.mi t.ma t.lz (.slice kA L.length kc) L, rfl, ?_, ?_, ?_, ?_⟩
    · rw [results_cell1 rfl]
      go_simp
    · exact bl8 (bl_set HB3.out (Nat.le_refl _) _) (Nat.le_succ _) _ _ _ _ _ _ _ _ _ _ _ _ _ _ _ _
    · have hkp := fun o0 u0 o1 u1 o2 u2 o3 u3 o4 u4 o5 u5 o6 u6 o7 u7 uu => kept_trans (kept_set w3 (p := ⟨w.heap.size, 7, none⟩) (n := w.heap.size + 2) (show w.heap.size < w.heap.size + 2 by omega) uu) (kept8 _ (show w.heap.size + 1 < w.heap.size + 2 by omega) o0 u0 o1 u1 o2 u2 o3 u3 o4 u4 o5 u5 o6 u6 o7 u7)
      exact .mk _ (rwat_kept HRW3.out HFV.out (hkp _ _ _ _ _ _ _ _ _ _ _ _ _ _ _ _ _)) (ksat_kept HKS.out HFK.out (hkp _ _ _ _ _ _ _ _ _ _ _ _ _ _ _ _ _)) (fun i hi => rx_kept (HRL.out _ (List.getElem_mem hi)) (HFL.out _ (List.getElem_mem hi)) (hkp _ _ _ _ _ _ _ _ _ _ _ _ _ _ _ _ _))
    · exact .mk _ (HFV.out.mono (by omega)) (HFK.out.mono (by omega)) (fun x hx => (HFL.out x hx).mono (by omega))
    · rw [er_eq t, er_eq]
      show Rt.mk _ _ _ _ _ _ _ _ _ (L.map er) = _
      rw [HEL.out]
      rfl
end Go.Proofs.Ytcgphknnnjpbkaa
