/- Contract: rxtree.flatten. Condition: trees that are not too big. -/
import Derived.Test.YtcgphknnnjpbkaaRxP
namespace Go.Proofs.Ytcgphknnnjpbkaa
open Go.ChangeShapes Go.WideShapes Go.ChangeAt Go.RowKit
open SetM
attribute [local go_sem ↓] Go.wp_at_zero Go.wp_at_succ
set_option maxRecDepth 100000
set_option linter.unusedVariables false
theorem sL_take (l : List Rt) (k : Nat) : sL (l.take k) ≤ sL l := by
  have h2 : sL l = sL (l.take k) + sL (l.drop k) := by rw [← sL_app, List.take_append_drop]
  omega
set_option maxHeartbeats 16000000 in
theorem flatten_any (kind : Int) (v : Value) (l : List Rt) (w : World) (h : KsAt w v l) (hx : ∀ i (hi : i < l.length), RxAt w l[i]) (hz : sL l ≤ 100000) :
    Calls Try.prog 35 #[.int .i64 kind, v] w (FpPost kind l w) := by
  obtain ⟨i0, hi0, hz0', hz1, hz2⟩ := info_parts info_rx
  obtain ⟨vA, vc, rfl⟩ := ksat_len h
  have H := hide h
  have HX := hide hx
  have hll := sL_len l
  have HDC := hide (fun i (hi : i < l.length) W (hb : Below w.heap.size w W) => deeprx_any (hx i hi) (by have := sL_kid l i hi; omega) W hb)
  have HZ := hide hz
  unfold FpPost
  unfold DpPost at HDC
  have hst : FInv (Fr w.heap.size) kind l w (.slice none 0 0) (.int .i64 0) w := ⟨0, [], none, 0, rfl, rfl, Nat.zero_le _, by simp, hide ⟨by simp [flatX], .inl ⟨rfl, rfl⟩⟩, hide (bl_refl w), hide (fun x hx => by cases hx), hide (by simp [flK])⟩
  have HST0 := hide hst
  clear h hx hst hz
  go_enter Try.func35, Try.ntmps35
  go_wp2
  go_loopw [5, 10] (fun s i wr => FInv (Fr w.heap.size) kind l w s i wr) (fun _ i _ => l.length - (intOf i).toNat)
  case atStart => exact HST0.out
  case round =>
    obtain ⟨k, L, A, c, rfl, rfl, hk, hlen, HROW, HBL, HALL, HE⟩ := hrel
    by_cases hlt : k < l.length
    · obtain ⟨b1, o1, c1', hv1, hc1, hm1, hlb1, hcell1⟩ := ksat_8 (ksat_below H.out HBL.out) (by omega)
      injection hv1 with hv1 _ hv1c
      subst hv1 hv1c
      unfold maxLen at hm1
      obtain ⟨x0, x1, x2, x3, x4, x5, x6, x7⟩ := hcell1 k hlt
      have HC := fun W hb => HDC.out k hlt W hb
      have hxp := HX.out k hlt
      clear hcell1
      obtain ⟨p, hp⟩ : ∃ p, l[k] = p := ⟨_, rfl⟩
      rw [hp] at x0 x1 x2 x3 x4 x5 x6 x7 HC hxp
      obtain ⟨pA, pc, hprv⟩ := rwat_len hxp.rows
      obtain ⟨pB, pd, hpkv⟩ := ksat_len hxp.ks
      rw [show p.v = .agg #[.int .i64 p.k, .string p.ch, .bool p.nt, .slice pA p.rows.length pc, .int .i64 p.mi, .int .i64 p.ma, .bool p.lz, .slice pB p.kids.length pd] by unfold Rt.v Rt.cs; rw [hprv, hpkv]] at HC
      rw [hprv] at x3
      rw [hpkv] at x7
      have HP := hide hp
      have HKL := hide hlt
      have hlk : p.kids.length ≤ 100000 := by
        have h1 := sL_kid l k hlt
        have h2 := sM_eq p
        have h3 := sL_len p.kids
        have h4 := HZ.out
        rw [hp] at h1
        omega
      have hlL : L.length ≤ 100000 := by have h4 := HZ.out; have := sL_take l k; omega
      have HLEN := hide hlen
      have HMM := hide (show p.kids.length ≤ sM (l[k]'hlt) ∧ 1 ≤ sM (l[k]'hlt) by
        rw [hp]
        have h2 := sM_eq p
        have h3 := sL_len p.kids
        omega)
      have HC2 := hide HC
      clear hxp hprv hpkv hp HC hlen
      have gl : decide (k < l.length) = true := decide_eq_true hlt
      have gl' : decide ((k : Int) < (l.length : Int)) = true := decide_eq_true (by omega)
      have e5 : IntKind.i64.wrap ((k : Int) + 1) = (k : Int) + 1 := by rw [IntKind.wrap_i64]; omega
      go_wp2_with fail
      refine (HC2.out _ (bl_trans HBL.out (bl_alloc (bl_refl wr) _))).mono ?_
      rintro e w2 ⟨t', rfl, hb2, hrx, hfr, her⟩
      obtain ⟨tA, tc, htrv⟩ := rwat_len hrx.rows
      obtain ⟨tB, td, htkv⟩ := ksat_len hrx.ks
      obtain ⟨ek, em, el⟩ := er_k her
      have HTK := hide htkv
      have HCS := hide (show t'.cs = [.int .i64 t'.k, .string t'.ch, .bool t'.nt, .slice tA t'.rows.length tc, .int .i64 t'.mi, .int .i64 t'.ma, .bool t'.lz, .slice tB t'.kids.length td] by unfold Rt.cs; rw [htrv, htkv])
      rw [show t'.v = .agg #[.int .i64 t'.k, .string t'.ch, .bool t'.nt, .slice tA t'.rows.length tc, .int .i64 t'.mi, .int .i64 t'.ma, .bool t'.lz, .slice tB t'.kids.length td] by unfold Rt.v Rt.cs; rw [htrv, htkv]]
      have c0 : w2.cell? ⟨wr.heap.size, 0, none⟩ = some (.int .i64 p.k) := cell_later hb2 (cells_lit wr _ _ 0 _ rfl)
      have c1 : w2.cell? ⟨wr.heap.size, 1, none⟩ = some (.string p.ch) := cell_later hb2 (cells_lit wr _ _ 1 _ rfl)
      have c2 : w2.cell? ⟨wr.heap.size, 2, none⟩ = some (.bool p.nt) := cell_later hb2 (cells_lit wr _ _ 2 _ rfl)
      have c3 : w2.cell? ⟨wr.heap.size, 3, none⟩ = some (.slice pA p.rows.length pc) := cell_later hb2 (cells_lit wr _ _ 3 _ rfl)
      have c4 : w2.cell? ⟨wr.heap.size, 4, none⟩ = some (.int .i64 p.mi) := cell_later hb2 (cells_lit wr _ _ 4 _ rfl)
      have c5 : w2.cell? ⟨wr.heap.size, 5, none⟩ = some (.int .i64 p.ma) := cell_later hb2 (cells_lit wr _ _ 5 _ rfl)
      have c6 : w2.cell? ⟨wr.heap.size, 6, none⟩ = some (.bool p.lz) := cell_later hb2 (cells_lit wr _ _ 6 _ rfl)
      have c7 : w2.cell? ⟨wr.heap.size, 7, none⟩ = some (.slice pB p.kids.length pd) := cell_later hb2 (cells_lit wr _ _ 7 _ rfl)
      have hg1 : ∀ o, w2.frozen? ⟨wr.heap.size, o, none⟩ = false := fun o => (hb2.frozen (p := ⟨wr.heap.size, o, none⟩) (by simp)).trans (by go_simp)
      have HB2 := hide (bl_trans (bl_alloc (bl_refl wr) _) hb2)
      have HFR := hide (hfr.mono (show wr.heap.size + 1 ≤ (wr.alloc _).heap.size by simp))
      have HRX := hide hrx
      have HER := hide her
      have HEK := hide ek
      have HEM := hide em
      have hlt7 : wr.heap.size < w2.heap.size := by have := hb2.size; simp at this; omega
      rw [← el] at hlk
      clear hb2 hrx hfr her htrv htkv em el x0 x1 x2 x3 x4 x5 x6 x7
      have HW3 := hide (fun o0 u0 o1 u1 o2 u2 o3 u3 o4 u4 o5 u5 o6 u6 o7 u7 => And.intro (bl8 (g := wr.heap.size) HB2.out (Nat.le_refl _) o0 u0 o1 u1 o2 u2 o3 u3 o4 u4 o5 u5 o6 u6 o7 u7) (kept8 w2 (Nat.lt_succ_self wr.heap.size) o0 u0 o1 u1 o2 u2 o3 u3 o4 u4 o5 u5 o6 u6 o7 u7))
      have hown1 := fun (W3 : World) (b3 : Below wr.heap.size wr W3) => own_below HROW.out b3
      have HOWN := hide hown1
      have hFinv := fun (M : List Rt) (W3 : World) (b3 : Below wr.heap.size wr W3) (hM : ∀ x ∈ M, RxAt W3 x ∧ Fr (wr.heap.size + 1) x) (v' : Value) (w4 : World) (ho : w4.ownsRow w.heap.size 26 8 v' (L.length + M.length) (flatX L ++ flatX M)) (hg : W3.grownBy w4 (Value.slice A L.length c).ownBlock)
          (h5 : v'.ownBlock = (Value.slice A L.length c).ownBlock ∨ ∃ k, v'.ownBlock = some k ∧ W3.heap.size ≤ k) (hm : M.length ≤ sM (l[k]'HKL.out)) (hE2 : M.map er = if (l[k]'HKL.out).k = kind then (l[k]'HKL.out).kids.map er else [er (l[k]'HKL.out)]) =>
        finv_step HKL.out (fun x hx => ⟨⟨rx_below (HALL.out x hx).1.1 b3, (HALL.out x hx).1.2⟩, (HALL.out x hx).2⟩) (fun x hx => ⟨⟨(hM x hx).1, fun g hg => off_fr (hM x hx).2 (Nat.lt_succ_of_lt (World.ownsRow.lt HROW.out g hg).2)⟩, (hM x hx).2.mono (Nat.le_succ_of_le HBL.out.size)⟩) ho hg h5 (bl_own (bl_trans HBL.out b3) (own_below HROW.out b3) hg (Nat.le_refl _)) HLEN.out hm HE.out hE2
      have HFINV := hide hFinv
      have HSZ := hide HBL.out.size
      have hone := one_cellX t'.kids (fun x hx => by obtain ⟨i, hi, rfl⟩ := List.mem_iff_getElem.1 hx; exact HRX.out.kid i hi)
      have HONE := hide hone
      have HONE1 := hide (one_cellX [t'] (fun x hx => by rw [List.mem_singleton] at hx; subst hx; exact HRX.out))
      have HSRC := hide (fun W (hkp : Kept (wr.heap.size + 1) w2 W) => (show Src W 8 tB t'.kids.length (flatX t'.kids) from by
        have h1 := HRX.out.ks
        obtain ⟨_, f1, f2, f3⟩ := HFR.out
        have h2 := ksat_kept h1 f2 hkp
        rw [HTK.out] at h2
        exact ksat_src h2))
      have HMK := hide (fun W (hkp : Kept (wr.heap.size + 1) w2 W) => (show ∀ x ∈ t'.kids, RxAt W x ∧ Fr (wr.heap.size + 1) x from fun x hx => by
        obtain ⟨i, hi, rfl⟩ := List.mem_iff_getElem.1 hx
        obtain ⟨_, f1, f2, f3⟩ := HFR.out
        exact ⟨rx_kept (HRX.out.kid i hi) (f3 _ hx) hkp, f3 _ hx⟩))
      have HM1 := hide (fun W (hkp : Kept (wr.heap.size + 1) w2 W) => (show ∀ x ∈ [t'], RxAt W x ∧ Fr (wr.heap.size + 1) x from fun x hx => by
        rw [List.mem_singleton] at hx
        subst hx
        exact ⟨rx_kept HRX.out HFR.out hkp, HFR.out⟩))
      clear hown1 hFinv hone
      by_cases hke : p.k = kind
      · have gk : (t'.k == kind) = true := by rw [ek, hke]; simp
        have HMM2 := hide (show t'.kids.length ≤ sM (l[k]'HKL.out) by have := HMM.out.1; have h9 := congrArg List.length HEM.out; simp at h9; omega)
        have HE2 := hide (show t'.kids.map er = if (l[k]'HKL.out).k = kind then (l[k]'HKL.out).kids.map er else [er (l[k]'HKL.out)] by rw [HP.out, if_pos hke, HEM.out])
        clear ek hke
        go_wp2_with (at_builtin; go_must (refine wpList_src5 _ rfl _ _ 24 rfl w.heap.size 26 i0 rt0.v 8 104 Try.underlying24 hi0 hz0' hz1 hz2 rfl (by decide) (.slice A L.length c) L.length (flatX L) rfl (HOWN.out _ (HW3.out _ _ _ _ _ _ _ _ _ _ _ _ _ _ _ _).1) tB t'.kids.length td (flatX t'.kids) rfl (HSRC.out _ (HW3.out _ _ _ _ _ _ _ _ _ _ _ _ _ _ _ _).2) HONE.out (by omega) (by decide) (Nat.le_trans HSZ.out (HW3.out _ _ _ _ _ _ _ _ _ _ _ _ _ _ _ _).1.size) ?_); intro v' w4 hv4 hg4 h5)
        have HST := hide (HFINV.out t'.kids _ (HW3.out _ _ _ _ _ _ _ _ _ _ _ _ _ _ _ _).1 (HMK.out _ (HW3.out _ _ _ _ _ _ _ _ _ _ _ _ _ _ _ _).2) v' w4 hv4 hg4 h5 HMM2.out HE2.out)
        clear hv4 hg4 h5
        go_wp2
        refine ⟨?_, by first | (simp [intOf]; done) | (simp [intOf]; omega)⟩
        exact HST.out
      · have gk : (t'.k == kind) = false := by rw [ek]; exact beq_eq_false_iff_ne.2 hke
        have HE2 := hide (show [t'].map er = if (l[k]'HKL.out).k = kind then (l[k]'HKL.out).kids.map er else [er (l[k]'HKL.out)] by rw [HP.out, if_neg hke]; simp [HER.out])
        have HFX := hide (show flatX [t'] = [.int .i64 t'.k, .string t'.ch, .bool t'.nt, .slice tA t'.rows.length tc, .int .i64 t'.mi, .int .i64 t'.ma, .bool t'.lz, .slice tB t'.kids.length td] by unfold flatX; simp [HCS.out])
        have hone1 := HONE1.out
        rw [HFX.out] at hone1
        have HO1 := hide hone1
        clear ek hke hone1
        go_wp2_with (at_builtin; go_must (refine wpList_src5 _ rfl _ _ 24 rfl w.heap.size 26 i0 rt0.v 8 104 Try.underlying24 hi0 hz0' hz1 hz2 rfl (by decide) (.slice A L.length c) L.length (flatX L) rfl (HOWN.out _ (bl_alloc (HW3.out _ _ _ _ _ _ _ _ _ _ _ _ _ _ _ _).1 _)) (some ⟨_, 0, none⟩) 1 1 [.int .i64 t'.k, .string t'.ch, .bool t'.nt, .slice tA t'.rows.length tc, .int .i64 t'.mi, .int .i64 t'.ma, .bool t'.lz, .slice tB t'.kids.length td] rfl (src_block (cs := #[.int .i64 t'.k, .string t'.ch, .bool t'.nt, .slice tA t'.rows.length tc, .int .i64 t'.mi, .int .i64 t'.ma, .bool t'.lz, .slice tB t'.kids.length td]) (heap_new (by simp [World.setCell])) rfl) HO1.out (by omega) (by decide) (Nat.le_trans HSZ.out (bl_alloc (HW3.out _ _ _ _ _ _ _ _ _ _ _ _ _ _ _ _).1 _).size) ?_); intro v' w4 hv4 hg4 h5)
        rw [← HFX.out] at hv4
        have HST := hide (HFINV.out [t'] _ (bl_alloc (HW3.out _ _ _ _ _ _ _ _ _ _ _ _ _ _ _ _).1 _) (HM1.out _ (kept_trans (HW3.out _ _ _ _ _ _ _ _ _ _ _ _ _ _ _ _).2 (kept_below (bl_alloc (bl_refl _) _)))) v' w4 hv4 hg4 h5 HMM.out.2 HE2.out)
        clear hv4 hg4 h5
        go_wp2
        refine ⟨?_, by first | (simp [intOf]; done) | (simp [intOf]; omega)⟩
        exact HST.out
    · obtain rfl : k = l.length := by omega
      have ho := HROW.out
      have gl : decide (l.length < l.length) = false := by simp
      have gl' : decide ((l.length : Int) < (l.length : Int)) = false := by simp
      have he := HE.out
      rw [List.take_length] at he
      have HE2 := hide he
      have HKS := hide (own_ksat ho)
      have HFV := hide (show FrV w.heap.size (.slice A L.length c) from fun x len d e => by
        rcases own_form ho with ⟨h1, _⟩ | ⟨g, c2, h1, h2, _⟩
        · rw [e] at h1; cases h1
        · rw [e] at h1; injection h1 with h1; injection h1 with h1; subst h1; exact h2)
      clear ho he
      go_wp2
      go_ret
      exact ⟨_, L, rfl, HBL.out, HKS.out, HFV.out, fun x hx => (HALL.out x hx).1.1, fun x hx => (HALL.out x hx).2, HE2.out⟩
end Go.Proofs.Ytcgphknnnjpbkaa
