/- Contract: rxtree.flatten. Condition: trees that are not too big. And 9 texts more. -/
import Derived.Test.YtcnliipkfccohabGreatS160
namespace Go.Proofs.YtcnliipkfccohabGreat
end Go.Proofs.YtcnliipkfccohabGreat
namespace Go.Proofs.YtcnliipkfccohabGreat.SetM
end Go.Proofs.YtcnliipkfccohabGreat.SetM
namespace Go.Proofs.YtcnliipkfccohabGreat.SpanM
end Go.Proofs.YtcnliipkfccohabGreat.SpanM
section
namespace Go.Proofs.YtcnliipkfccohabGreat
open Go.ChangeShapes Go.WideShapes Go.ChangeAt Go.RowKit
open SetM
attribute [local go_sem ↓] Go.wp_at_zero Go.wp_at_succ
set_option maxRecDepth 100000
set_option linter.unusedVariables false
theorem sL_take (l : List Rt) (k : Nat) : sL (l.take k) ≤ sL l := by
  have h2 : sL l = sL (l.take k) + sL (l.drop k) := by rw [← sL_app, List.take_append_drop]
  omega
set_option maxHeartbeats 16000000 in
theorem flatten_any (kind : Int) (v : Value) (l : List Rt) (w : World) (h : KsAt w v l) (hx : ∀ i (hi : i < l.length), RxAt w l[i]) (hz : sL l ≤ 100000) :
    Calls Tryz.prog 15 #[.int .i64 kind, v] w (FpPost kind l w) := by
  obtain ⟨i0, hi0, hz0', hz1, hz2⟩ := info_parts info_rx
  obtain ⟨vA, vc, rfl⟩ := ksat_len h
  have H := hide h
  have HX := hide hx
  have hll := sL_len l
  have HDC := hide (fun i (hi : i < l.length) W (hb : Below w.heap.size w W) => deeprx_any (hx i hi) (by have := sL_kid l i hi; omega) W hb)
  have HZ := hide hz
  unfold FpPost
  unfold DpPost at HDC
  have hst : FInv (Fr w.heap.size) kind l w (.slice none 0 0) (.int .i64 0) w := ⟨0, [], none, 0, rfl, rfl, Nat.zero_le _, by simp, hide ⟨by simp [flatX], .inl ⟨rfl, rfl⟩⟩, hide (bl_refl w), hide (fun x hx => by cases hx), hide (by simp [flK])⟩
  have HST0 := hide hst
  clear h hx hst hz
  go_enter Tryz.func15, Tryz.ntmps15
  go_wp2
  go_loopw [5, 10] (fun s i wr => FInv (Fr w.heap.size) kind l w s i wr) (fun _ i _ => l.length - (intOf i).toNat)
  case atStart => exact HST0.out
  case round =>
    obtain ⟨k, L, A, c, rfl, rfl, hk, hlen, HROW, HBL, HALL, HE⟩ := hrel
    by_cases hlt : k < l.length
    · obtain ⟨b1, o1, c1', hv1, hc1, hm1, hlb1, hcell1⟩ := ksat_8 (ksat_below H.out HBL.out) (by omega)
      injection hv1 with hv1 _ hv1c
      subst hv1 hv1c
      unfold maxLen at hm1
      obtain ⟨x0, x1, x2, x3, x4, x5, x6, x7⟩ := hcell1 k hlt
      have HC := fun W hb => HDC.out k hlt W hb
      have hxp := HX.out k hlt
      clear hcell1
      obtain ⟨p, hp⟩ : ∃ p, l[k] = p := ⟨_, rfl⟩
      rw [hp] at x0 x1 x2 x3 x4 x5 x6 x7 HC hxp
      obtain ⟨pA, pc, hprv⟩ := rwat_len hxp.rows
      obtain ⟨pB, pd, hpkv⟩ := ksat_len hxp.ks
      rw [show p.v = .agg #[.int .i64 p.k, .string p.ch, .bool p.nt, .slice pA p.rows.length pc, .int .i64 p.mi, .int .i64 p.ma, .bool p.lz, .slice pB p.kids.length pd] by unfold Rt.v Rt.cs; rw [hprv, hpkv]] at HC
      rw [hprv] at x3
      rw [hpkv] at x7
      have HP := hide hp
      have HKL := hide hlt
      have hlk : p.kids.length ≤ 100000 := by
        have h1 := sL_kid l k hlt
        have h2 := sM_eq p
        have h3 := sL_len p.kids
        have h4 := HZ.out
        rw [hp] at h1
        omega
      have hlL : L.length ≤ 100000 := by have h4 := HZ.out; have := sL_take l k; omega
      have HLEN := hide hlen
      have HMM := hide (show p.kids.length ≤ sM (l[k]'hlt) ∧ 1 ≤ sM (l[k]'hlt) by
        rw [hp]
        have h2 := sM_eq p
        have h3 := sL_len p.kids
        omega)
      have HC2 := hide HC
      clear hxp hprv hpkv hp HC hlen
      have gl : decide (k < l.length) = true := decide_eq_true hlt
      have gl' : decide ((k : Int) < (l.length : Int)) = true := decide_eq_true (by omega)
      have e5 : IntKind.i64.wrap ((k : Int) + 1) = (k : Int) + 1 := by rw [IntKind.wrap_i64]; omega
      go_wp2_with fail
      refine (HC2.out _ (bl_trans HBL.out (bl_alloc (bl_refl wr) _))).mono ?_
      rintro e w2 ⟨t', rfl, hb2, hrx, hfr, her⟩
      obtain ⟨tA, tc, htrv⟩ := rwat_len hrx.rows
      obtain ⟨tB, td, htkv⟩ := ksat_len hrx.ks
      obtain ⟨ek, em, el⟩ := er_k her
      have HTK := hide htkv
      have HCS := hide (show t'.cs = [.int .i64 t'.k, .string t'.ch, .bool t'.nt, .slice tA t'.rows.length tc, .int .i64 t'.mi, .int .i64 t'.ma, .bool t'.lz, .slice tB t'.kids.length td] by unfold Rt.cs; rw [htrv, htkv])
      rw [show t'.v = .agg #[.int .i64 t'.k, .string t'.ch, .bool t'.nt, .slice tA t'.rows.length tc, .int .i64 t'.mi, .int .i64 t'.ma, .bool t'.lz, .slice tB t'.kids.length td] by unfold Rt.v Rt.cs; rw [htrv, htkv]]
      have c0 : w2.cell? ⟨wr.heap.size, 0, none⟩ = some (.int .i64 p.k) := cell_later hb2 (cells_lit wr _ _ 0 _ rfl)
      have c1 : w2.cell? ⟨wr.heap.size, 1, none⟩ = some (.string p.ch) := cell_later hb2 (cells_lit wr _ _ 1 _ rfl)
      have c2 : w2.cell? ⟨wr.heap.size, 2, none⟩ = some (.bool p.nt) := cell_later hb2 (cells_lit wr _ _ 2 _ rfl)
      have c3 : w2.cell? ⟨wr.heap.size, 3, none⟩ = some (.slice pA p.rows.length pc) := cell_later hb2 (cells_lit wr _ _ 3 _ rfl)
      have c4 : w2.cell? ⟨wr.heap.size, 4, none⟩ = some (.int .i64 p.mi) := cell_later hb2 (cells_lit wr _ _ 4 _ rfl)
      have c5 : w2.cell? ⟨wr.heap.size, 5, none⟩ = some (.int .i64 p.ma) := cell_later hb2 (cells_lit wr _ _ 5 _ rfl)
      have c6 : w2.cell? ⟨wr.heap.size, 6, none⟩ = some (.bool p.lz) := cell_later hb2 (cells_lit wr _ _ 6 _ rfl)
      have c7 : w2.cell? ⟨wr.heap.size, 7, none⟩ = some (.slice pB p.kids.length pd) := cell_later hb2 (cells_lit wr _ _ 7 _ rfl)
      have hg1 : ∀ o, w2.frozen? ⟨wr.heap.size, o, none⟩ = false := fun o => (hb2.frozen (p := ⟨wr.heap.size, o, none⟩) (by simp)).trans (by go_simp)
      have HB2 := hide (bl_trans (bl_alloc (bl_refl wr) _) hb2)
      have HFR := hide (hfr.mono (show wr.heap.size + 1 ≤ (wr.alloc _).heap.size by simp))
      have HRX := hide hrx
      have HER := hide her
      have HEK := hide ek
      have HEM := hide em
      have hlt7 : wr.heap.size < w2.heap.size := by have := hb2.size; simp at this; omega
      rw [← el] at hlk
      clear hb2 hrx hfr her htrv htkv em el x0 x1 x2 x3 x4 x5 x6 x7
      have HW3 := hide (fun o0 u0 o1 u1 o2 u2 o3 u3 o4 u4 o5 u5 o6 u6 o7 u7 => And.intro (bl8 (g := wr.heap.size) HB2.out (Nat.le_refl _) o0 u0 o1 u1 o2 u2 o3 u3 o4 u4 o5 u5 o6 u6 o7 u7) (kept8 w2 (Nat.lt_succ_self wr.heap.size) o0 u0 o1 u1 o2 u2 o3 u3 o4 u4 o5 u5 o6 u6 o7 u7))
      have hown1 := fun (W3 : World) (b3 : Below wr.heap.size wr W3) => own_below HROW.out b3
      have HOWN := hide hown1
      have hFinv := fun (M : List Rt) (W3 : World) (b3 : Below wr.heap.size wr W3) (hM : ∀ x ∈ M, RxAt W3 x ∧ Fr (wr.heap.size + 1) x) (v' : Value) (w4 : World) (ho : w4.ownsRow w.heap.size 25 8 v' (L.length + M.length) (flatX L ++ flatX M)) (hg : W3.grownBy w4 (Value.slice A L.length c).ownBlock)
          (h5 : v'.ownBlock = (Value.slice A L.length c).ownBlock ∨ ∃ k, v'.ownBlock = some k ∧ W3.heap.size ≤ k) (hm : M.length ≤ sM (l[k]'HKL.out)) (hE2 : M.map er = if (l[k]'HKL.out).k = kind then (l[k]'HKL.out).kids.map er else [er (l[k]'HKL.out)]) =>
        finv_step HKL.out (fun x hx => ⟨⟨rx_below (HALL.out x hx).1.1 b3, (HALL.out x hx).1.2⟩, (HALL.out x hx).2⟩) (fun x hx => ⟨⟨(hM x hx).1, fun g hg => off_fr (hM x hx).2 (Nat.lt_succ_of_lt (World.ownsRow.lt HROW.out g hg).2)⟩, (hM x hx).2.mono (Nat.le_succ_of_le HBL.out.size)⟩) ho hg h5 (bl_own (bl_trans HBL.out b3) (own_below HROW.out b3) hg (Nat.le_refl _)) HLEN.out hm HE.out hE2
      have HFINV := hide hFinv
      have HSZ := hide HBL.out.size
      have hone := one_cellX t'.kids (fun x hx => by obtain ⟨i, hi, rfl⟩ := List.mem_iff_getElem.1 hx; exact HRX.out.kid i hi)
      have HONE := hide hone
      have HONE1 := hide (one_cellX [t'] (fun x hx => by rw [List.mem_singleton] at hx; subst hx; exact HRX.out))
      have HSRC := hide (fun W (hkp : Kept (wr.heap.size + 1) w2 W) => (show Src W 8 tB t'.kids.length (flatX t'.kids) from by
        have h1 := HRX.out.ks
        obtain ⟨_, f1, f2, f3⟩ := HFR.out
        have h2 := ksat_kept h1 f2 hkp
        rw [HTK.out] at h2
        exact ksat_src h2))
      have HMK := hide (fun W (hkp : Kept (wr.heap.size + 1) w2 W) => (show ∀ x ∈ t'.kids, RxAt W x ∧ Fr (wr.heap.size + 1) x from fun x hx => by
        obtain ⟨i, hi, rfl⟩ := List.mem_iff_getElem.1 hx
        obtain ⟨_, f1, f2, f3⟩ := HFR.out
        exact ⟨rx_kept (HRX.out.kid i hi) (f3 _ hx) hkp, f3 _ hx⟩))
      have HM1 := hide (fun W (hkp : Kept (wr.heap.size + 1) w2 W) => (show ∀ x ∈ [t'], RxAt W x ∧ Fr (wr.heap.size + 1) x from fun x hx => by
        rw [List.mem_singleton] at hx
        subst hx
        exact ⟨rx_kept HRX.out HFR.out hkp, HFR.out⟩))
      clear hown1 hFinv hone
      by_cases hke : p.k = kind
      · have gk : (t'.k == kind) = true := by rw [ek, hke]; simp
        have HMM2 := hide (show t'.kids.length ≤ sM (l[k]'HKL.out) by have := HMM.out.1; have h9 := congrArg List.length HEM.out; simp at h9; omega)
        have HE2 := hide (show t'.kids.map er = if (l[k]'HKL.out).k = kind then (l[k]'HKL.out).kids.map er else [er (l[k]'HKL.out)] by rw [HP.out, if_pos hke, HEM.out])
        clear ek hke
        go_wp2_with (at_builtin; go_must (refine wpList_src5 _ rfl _ _ 23 rfl w.heap.size 25 i0 rt0.v 8 104 Tryz.underlying23 hi0 hz0' hz1 hz2 rfl (by decide) (.slice A L.length c) L.length (flatX L) rfl (HOWN.out _ (HW3.out _ _ _ _ _ _ _ _ _ _ _ _ _ _ _ _).1) tB t'.kids.length td (flatX t'.kids) rfl (HSRC.out _ (HW3.out _ _ _ _ _ _ _ _ _ _ _ _ _ _ _ _).2) HONE.out (by omega) (by decide) (Nat.le_trans HSZ.out (HW3.out _ _ _ _ _ _ _ _ _ _ _ _ _ _ _ _).1.size) ?_); intro v' w4 hv4 hg4 h5)
        have HST := hide (HFINV.out t'.kids _ (HW3.out _ _ _ _ _ _ _ _ _ _ _ _ _ _ _ _).1 (HMK.out _ (HW3.out _ _ _ _ _ _ _ _ _ _ _ _ _ _ _ _).2) v' w4 hv4 hg4 h5 HMM2.out HE2.out)
        clear hv4 hg4 h5
        go_wp2
        refine ⟨?_, by first | (simp [intOf]; done) | (simp [intOf]; omega)⟩
        exact HST.out
      · have gk : (t'.k == kind) = false := by rw [ek]; exact beq_eq_false_iff_ne.2 hke
        have HE2 := hide (show [t'].map er = if (l[k]'HKL.out).k = kind then (l[k]'HKL.out).kids.map er else [er (l[k]'HKL.out)] by rw [HP.out, if_neg hke]; simp [HER.out])
        have HFX := hide (show flatX [t'] = [.int .i64 t'.k, .string t'.ch, .bool t'.nt, .slice tA t'.rows.length tc, .int .i64 t'.mi, .int .i64 t'.ma, .bool t'.lz, .slice tB t'.kids.length td] by unfold flatX; simp [HCS.out])
        have hone1 := HONE1.out
        rw [HFX.out] at hone1
        have HO1 := hide hone1
        clear ek hke hone1
        go_wp2_with (at_builtin; go_must (refine wpList_src5 _ rfl _ _ 23 rfl w.heap.size 25 i0 rt0.v 8 104 Tryz.underlying23 hi0 hz0' hz1 hz2 rfl (by decide) (.slice A L.length c) L.length (flatX L) rfl (HOWN.out _ (bl_alloc (HW3.out _ _ _ _ _ _ _ _ _ _ _ _ _ _ _ _).1 _)) (some ⟨_, 0, none⟩) 1 1 [.int .i64 t'.k, .string t'.ch, .bool t'.nt, .slice tA t'.rows.length tc, .int .i64 t'.mi, .int .i64 t'.ma, .bool t'.lz, .slice tB t'.kids.length td] rfl (src_block (cs := #[.int .i64 t'.k, .string t'.ch, .bool t'.nt, .slice tA t'.rows.length tc, .int .i64 t'.mi, .int .i64 t'.ma, .bool t'.lz, .slice tB t'.kids.length td]) (heap_new (by simp [World.setCell])) rfl) HO1.out (by omega) (by decide) (Nat.le_trans HSZ.out (bl_alloc (HW3.out _ _ _ _ _ _ _ _ _ _ _ _ _ _ _ _).1 _).size) ?_); intro v' w4 hv4 hg4 h5)
        rw [← HFX.out] at hv4
        have HST := hide (HFINV.out [t'] _ (bl_alloc (HW3.out _ _ _ _ _ _ _ _ _ _ _ _ _ _ _ _).1 _) (HM1.out _ (kept_trans (HW3.out _ _ _ _ _ _ _ _ _ _ _ _ _ _ _ _).2 (kept_below (bl_alloc (bl_refl _) _)))) v' w4 hv4 hg4 h5 HMM.out.2 HE2.out)
        clear hv4 hg4 h5
        go_wp2
        refine ⟨?_, by first | (simp [intOf]; done) | (simp [intOf]; omega)⟩
        exact HST.out
    · obtain rfl : k = l.length := by omega
      have ho := HROW.out
      have gl : decide (l.length < l.length) = false := by simp
      have gl' : decide ((l.length : Int) < (l.length : Int)) = false := by simp
      have he := HE.out
      rw [List.take_length] at he
      have HE2 := hide he
      have HKS := hide (own_ksat ho)
      have HFV := hide (show FrV w.heap.size (.slice A L.length c) from fun x len d e => by
        rcases own_form ho with ⟨h1, _⟩ | ⟨g, c2, h1, h2, _⟩
        · rw [e] at h1; cases h1
        · rw [e] at h1; injection h1 with h1; injection h1 with h1; subst h1; exact h2)
      clear ho he
      go_wp2
      go_ret
      exact ⟨_, L, rfl, HBL.out, HKS.out, HFV.out, fun x hx => (HALL.out x hx).1.1, fun x hx => (HALL.out x hx).2, HE2.out⟩
end Go.Proofs.YtcnliipkfccohabGreat
end
section
namespace Go.Proofs.YtcnliipkfccohabGreat
open Go.ChangeShapes Go.WideShapes Go.ChangeAt Go.RowKit
open SetM
attribute [local go_sem ↓] Go.wp_at_zero Go.wp_at_succ
set_option maxRecDepth 100000
set_option linter.unusedVariables false
def kdX (k : Int) (ks : List Rt) : Rt := .mk k ⟨#[]⟩ false (.slice none 0 0) [] 0 0 false (.slice none 0 0) ks
def seqX (ks : List Rt) : Rt := if ks.length = 1 then ks.headD (kdX 0 []) else kdX 0 ks
def altX (ks : List Rt) : Rt := if ks.length = 0 then kdX 0 [] else if ks.length = 1 then ks.headD (kdX 0 []) else kdX 1 ks
end Go.Proofs.YtcnliipkfccohabGreat
end
section
namespace Go.Proofs.YtcnliipkfccohabGreat
open Go.ChangeShapes Go.WideShapes Go.ChangeAt Go.RowKit
open SetM
attribute [local go_sem ↓] Go.wp_at_zero Go.wp_at_succ
set_option maxRecDepth 100000
set_option linter.unusedVariables false
theorem grown8 (w : World) {g : Nat} (o0 : Nat) (u0 : Value) (o1 : Nat) (u1 : Value) (o2 : Nat) (u2 : Value) (o3 : Nat) (u3 : Value) (o4 : Nat) (u4 : Value) (o5 : Nat) (u5 : Value) (o6 : Nat) (u6 : Value) (o7 : Nat) (u7 : Value) : w.grownBy ((((((((w.setCell ⟨g, o0, none⟩ u0).setCell ⟨g, o1, none⟩ u1).setCell ⟨g, o2, none⟩ u2).setCell ⟨g, o3, none⟩ u3).setCell ⟨g, o4, none⟩ u4).setCell ⟨g, o5, none⟩ u5).setCell ⟨g, o6, none⟩ u6).setCell ⟨g, o7, none⟩ u7) (some g) :=
  grown_set (grown_set (grown_set (grown_set (grown_set (grown_set (grown_set (grown_set (grown_refl w _) _ _) _ _) _ _) _ _) _ _) _ _) _ _) _ _
end Go.Proofs.YtcnliipkfccohabGreat
end
section
namespace Go.Proofs.YtcnliipkfccohabGreat
open Go.ChangeShapes Go.WideShapes Go.ChangeAt Go.RowKit
open SetM
set_option linter.unusedVariables false
mutual
  theorem pM_er : ∀ t, pM (er t) = pM t
    | .mk _ _ _ _ _ _ _ _ _ l => by rw [er, pM, pM, pL_er l]
  theorem pL_er : ∀ l, pL (erL l) = pL l
    | [] => by rw [erL]
    | t :: l => by rw [erL, pL, pL, pM_er t, pL_er l]
end
mutual
  theorem gM_er : ∀ t, gM (er t) = gM t
    | .mk _ _ _ _ _ _ _ _ _ l => by rw [er, gM, gM, gL_er l]
  theorem gL_er : ∀ l, gL (erL l) = gL l
    | [] => by rw [erL]
    | t :: l => by rw [erL, gL, gL, gM_er t, gL_er l]
end
mutual
  theorem dM_er : ∀ t, dM (er t) = dM t
    | .mk _ _ _ _ _ _ _ _ _ l => by rw [er, dM, dM, dL_er l]
  theorem dL_er : ∀ l, dL (erL l) = dL l
    | [] => by rw [erL]
    | t :: l => by rw [erL, dL, dL, dM_er t, dL_er l]
end
end Go.Proofs.YtcnliipkfccohabGreat
end
section
namespace Go.Proofs.YtcnliipkfccohabGreat
open Go.ChangeShapes Go.WideShapes Go.ChangeAt Go.RowKit
open SetM
attribute [local go_sem ↓] Go.wp_at_zero Go.wp_at_succ
set_option maxRecDepth 100000
set_option linter.unusedVariables false
def bareB (ch : ByteArray) (nt : Bool) (rl : Nat) (mi ma : Int) (lz : Bool) : Bool := decide (ch = ⟨#[]⟩) && !nt && decide (rl = 0) && decide (mi = 0) && decide (ma = 0) && !lz
end Go.Proofs.YtcnliipkfccohabGreat
end
section
namespace Go.Proofs.YtcnliipkfccohabGreat
open Go.ChangeShapes Go.WideShapes Go.ChangeAt Go.RowKit
open SetM
attribute [local go_sem ↓] Go.wp_at_zero Go.wp_at_succ
set_option maxRecDepth 100000
set_option linter.unusedVariables false
def atomB (k : Int) : Bool := decide (k = 2) || decide (k = 3) || decide (k = 4) || decide (k = 5 ∨ k = 6)
def seqkB (k : Int) : Bool := !decide (k = 0) && !decide (k = 1)
def altkB (k : Int) : Bool := !decide (k = 1)
theorem atom_any (k : Int) (w : World) : Calls Tryz.prog 54 #[.int .i64 k] w fun e w' => e = .returned (.bool (atomB k)) ∧ w = w' := by
  obtain ⟨r, hr⟩ : ∃ r, atomB k = r := ⟨_, rfl⟩
  have hr2 := hr
  unfold atomB at hr
  rw [hr2]
  clear hr2
  by_cases q2 : k = 2
  · obtain rfl : r = true := by rw [← hr]; simp [q2]
    have z2 : (k == 2) = true := beq_iff_eq.2 q2
    clear hr q2
    go_enter Tryz.func54, Tryz.ntmps54
    go_wp2
    go_ret
    exact ⟨rfl, rfl⟩
  have z2 : (k == 2) = false := beq_eq_false_iff_ne.2 q2
  by_cases q3 : k = 3
  · obtain rfl : r = true := by rw [← hr]; simp [q3]
    have z3 : (k == 3) = true := beq_iff_eq.2 q3
    clear hr q2 q3
    go_enter Tryz.func54, Tryz.ntmps54
    go_wp2
    go_ret
    exact ⟨rfl, rfl⟩
  have z3 : (k == 3) = false := beq_eq_false_iff_ne.2 q3
  by_cases q4 : k = 4
  · obtain rfl : r = true := by rw [← hr]; simp [q4]
    have z4 : (k == 4) = true := beq_iff_eq.2 q4
    clear hr q2 q3 q4
    go_enter Tryz.func54, Tryz.ntmps54
    go_wp2
    go_ret
    exact ⟨rfl, rfl⟩
  have z4 : (k == 4) = false := beq_eq_false_iff_ne.2 q4
  have hr3 : decide (k = 5 ∨ k = 6) = r := by rw [← hr]; simp [q2, q3, q4]
  have HG := hide (fun W => isg_any k r hr3 W)
  clear hr hr3 q2 q3 q4
  go_enter Tryz.func54, Tryz.ntmps54
  go_wp2_with fail
  refine (HG.out _).mono ?_
  rintro e w1 ⟨rfl, rfl⟩
  go_wp2
  go_ret
  exact ⟨rfl, rfl⟩
theorem seqk_any (k : Int) (w : World) : Calls Tryz.prog 52 #[.int .i64 k] w fun e w' => e = .returned (.bool (seqkB k)) ∧ w = w' := by
  obtain ⟨r, hr⟩ : ∃ r, seqkB k = r := ⟨_, rfl⟩
  rw [hr]
  unfold seqkB at hr
  by_cases q2 : k = 0
  · obtain rfl : r = false := by rw [← hr]; simp [q2]
    have z2 : (k != 0) = false := by simp [q2]
    have z3 : (k == 0) = true := by simp [q2]
    clear hr
    subst q2
    go_enter Tryz.func52, Tryz.ntmps52
    go_wp2
    go_ret
    exact ⟨rfl, rfl⟩
  have z2 : (k != 0) = true := by simp [q2]
  have z3 : (k == 0) = false := by simp [q2]
  by_cases q3 : k = 1
  · obtain rfl : r = false := by rw [← hr]; simp [q3]
    clear hr q2 z2 z3
    subst q3
    go_enter Tryz.func52, Tryz.ntmps52
    go_wp2
    go_ret
    exact ⟨rfl, rfl⟩
  have z4 : (k != 1) = true := by simp [q3]
  have z5 : (k == 1) = false := by simp [q3]
  obtain rfl : r = true := by rw [← hr]; simp [q2, q3]
  clear hr q2 q3
  go_enter Tryz.func52, Tryz.ntmps52
  go_wp2
  go_ret
  exact ⟨rfl, rfl⟩
theorem altk_any (k : Int) (w : World) : Calls Tryz.prog 53 #[.int .i64 k] w fun e w' => e = .returned (.bool (altkB k)) ∧ w = w' := by
  obtain ⟨r, hr⟩ : ∃ r, altkB k = r := ⟨_, rfl⟩
  rw [hr]
  unfold altkB at hr
  by_cases q2 : k = 1
  · obtain rfl : r = false := by rw [← hr]; simp [q2]
    clear hr
    subst q2
    go_enter Tryz.func53, Tryz.ntmps53
    go_wp2
    go_ret
    exact ⟨rfl, rfl⟩
  have z2 : (k != 1) = true := by simp [q2]
  have z3 : (k == 1) = false := by simp [q2]
  obtain rfl : r = true := by rw [← hr]; simp [q2]
  clear hr q2
  go_enter Tryz.func53, Tryz.ntmps53
  go_wp2
  go_ret
  exact ⟨rfl, rfl⟩
set_option maxHeartbeats 4000000 in
theorem allseq_any (v : Value) (l : List Rt) (w : World) (h : KsAt w v l) (hx : ∀ i (hi : i < l.length), RxAt w l[i]) :
    Calls Tryz.prog 51 #[v, .func (.func 52) #[] #[]] w (SmPost (l.all fun t => seqkB t.k) w) := by
  unfold SmPost
  obtain ⟨A, c, rfl⟩ := ksat_len h
  obtain ⟨r, hr⟩ : ∃ r, (l.all fun t => seqkB t.k) = r := ⟨_, rfl⟩
  rw [hr]
  have HR := hide hr
  have HK := hide h
  have HX := hide hx
  clear h hx hr
  go_enter Tryz.func51, Tryz.ntmps51
  go_wp2
  go_loopw [9] (fun i wr => ∃ j : Nat, j ≤ l.length ∧ i = .int .i64 j ∧ Hid ((l.take j).all (fun t => seqkB t.k) = true) ∧ Hid (Below w.heap.size w wr)) (fun i _ => l.length - (intOf i).toNat)
  case atStart => exact ⟨0, Nat.zero_le _, rfl, hide (by simp), hide (bl_refl w)⟩
  case round =>
    obtain ⟨j, hj, rfl, HT, HBL⟩ := hrel
    by_cases hlt : j < l.length
    · obtain ⟨b1, o1, c1, hv1, hc1, hm1, hlb1, hcell1⟩ := ksat_8 (ksat_below HK.out HBL.out) (by omega)
      injection hv1 with hv1 _ hv1c
      subst hv1 hv1c
      unfold maxLen at hm1
      obtain ⟨x0, x1, x2, x3, x4, x5, x6, x7⟩ := hcell1 j hlt
      have hxp := HX.out j hlt
      have HS := hide (show seqkB l[j].k = true → (l.take (j + 1)).all (fun t => seqkB t.k) = true from fun e => by
        rw [List.take_succ_eq_append_getElem hlt, List.all_append, HT.out]; simp [e])
      have HN := hide (show seqkB l[j].k = false → r = false from fun e => by
        rw [← HR.out]
        cases hq : (l.all fun t => seqkB t.k) with
        | false => rfl
        | true => rw [List.all_eq_true] at hq; rw [hq _ (List.getElem_mem hlt)] at e; cases e)
      clear hcell1
      obtain ⟨p, hp⟩ : ∃ p, l[j] = p := ⟨_, rfl⟩
      rw [hp] at x0 x1 x2 x3 x4 x5 x6 x7 hxp HS HN
      obtain ⟨pA, pc, hprv⟩ := rwat_len hxp.rows
      obtain ⟨pB, pd, hpkv⟩ := ksat_len hxp.ks
      rw [hprv] at x3
      rw [hpkv] at x7
      have HC := hide (fun W => seqk_any p.k W)
      obtain ⟨s, hs⟩ : ∃ s, seqkB p.k = s := ⟨_, rfl⟩
      rw [hs] at HC HS HN
      have i1 : (0 : Int) ≤ (j : Int) := by omega
      have i2 : (j : Int) < (l.length : Int) := by omega
      have gl : decide ((j : Int) < (l.length : Int)) = true := decide_eq_true i2
      have gl' : decide (j < l.length) = true := decide_eq_true hlt
      have e5 : IntKind.i64.wrap ((j : Int) + 1) = (j : Int) + 1 := by rw [IntKind.wrap_i64]; omega
      have HB3 := hide (fun o => bl_alloc HBL.out o)
      clear hp hs hxp hprv hpkv HT
      cases s with
      | true =>
        have HS2 := hide (HS.out rfl)
        clear HS HN
        go_wp2_with fail
        refine (HC.out _).mono ?_
        rintro e w2 ⟨rfl, rfl⟩
        clear x0 x1 x2 x3 x4 x5 x6 x7
        go_wp2
        refine ⟨?_, by first | (simp [intOf]; done) | (simp [intOf]; omega)⟩
        first
          | exact ⟨j + 1, by omega, by go_num, HS2, hide (HB3.out _)⟩
          | ((repeat apply Exists.intro); exact ⟨⟨j + 1, by omega, by go_num, HS2, hide (HB3.out _)⟩, rfl⟩)
      | false =>
        have HN2 := hide (HN.out rfl)
        clear HS HN
        go_wp2_with fail
        refine (HC.out _).mono ?_
        rintro e w2 ⟨rfl, rfl⟩
        clear x0 x1 x2 x3 x4 x5 x6 x7
        go_wp2
        go_ret
        exact ⟨ret_bool HN2.out.symm, HB3.out _⟩
    · obtain rfl : j = l.length := by omega
      have hj := HT.out
      rw [List.take_length, HR.out] at hj
      have HE := hide hj
      have gl : decide ((l.length : Int) < (l.length : Int)) = false := by simp
      have gl' : decide (l.length < l.length) = false := by simp
      clear hj hlt HT
      go_wp2
      go_ret
      exact ⟨ret_bool HE.out.symm, HBL.out⟩
set_option maxHeartbeats 4000000 in
theorem allalt_any (v : Value) (l : List Rt) (w : World) (h : KsAt w v l) (hx : ∀ i (hi : i < l.length), RxAt w l[i]) :
    Calls Tryz.prog 51 #[v, .func (.func 53) #[] #[]] w (SmPost (l.all fun t => altkB t.k) w) := by
  unfold SmPost
  obtain ⟨A, c, rfl⟩ := ksat_len h
  obtain ⟨r, hr⟩ : ∃ r, (l.all fun t => altkB t.k) = r := ⟨_, rfl⟩
  rw [hr]
  have HR := hide hr
  have HK := hide h
  have HX := hide hx
  clear h hx hr
  go_enter Tryz.func51, Tryz.ntmps51
  go_wp2
  go_loopw [9] (fun i wr => ∃ j : Nat, j ≤ l.length ∧ i = .int .i64 j ∧ Hid ((l.take j).all (fun t => altkB t.k) = true) ∧ Hid (Below w.heap.size w wr)) (fun i _ => l.length - (intOf i).toNat)
  case atStart => exact ⟨0, Nat.zero_le _, rfl, hide (by simp), hide (bl_refl w)⟩
  case round =>
    obtain ⟨j, hj, rfl, HT, HBL⟩ := hrel
    by_cases hlt : j < l.length
    · obtain ⟨b1, o1, c1, hv1, hc1, hm1, hlb1, hcell1⟩ := ksat_8 (ksat_below HK.out HBL.out) (by omega)
      injection hv1 with hv1 _ hv1c
      subst hv1 hv1c
      unfold maxLen at hm1
      obtain ⟨x0, x1, x2, x3, x4, x5, x6, x7⟩ := hcell1 j hlt
      have hxp := HX.out j hlt
      have HS := hide (show altkB l[j].k = true → (l.take (j + 1)).all (fun t => altkB t.k) = true from fun e => by
        rw [List.take_succ_eq_append_getElem hlt, List.all_append, HT.out]; simp [e])
      have HN := hide (show altkB l[j].k = false → r = false from fun e => by
        rw [← HR.out]
        cases hq : (l.all fun t => altkB t.k) with
        | false => rfl
        | true => rw [List.all_eq_true] at hq; rw [hq _ (List.getElem_mem hlt)] at e; cases e)
      clear hcell1
      obtain ⟨p, hp⟩ : ∃ p, l[j] = p := ⟨_, rfl⟩
      rw [hp] at x0 x1 x2 x3 x4 x5 x6 x7 hxp HS HN
      obtain ⟨pA, pc, hprv⟩ := rwat_len hxp.rows
      obtain ⟨pB, pd, hpkv⟩ := ksat_len hxp.ks
      rw [hprv] at x3
      rw [hpkv] at x7
      have HC := hide (fun W => altk_any p.k W)
      obtain ⟨s, hs⟩ : ∃ s, altkB p.k = s := ⟨_, rfl⟩
      rw [hs] at HC HS HN
      have i1 : (0 : Int) ≤ (j : Int) := by omega
      have i2 : (j : Int) < (l.length : Int) := by omega
      have gl : decide ((j : Int) < (l.length : Int)) = true := decide_eq_true i2
      have gl' : decide (j < l.length) = true := decide_eq_true hlt
      have e5 : IntKind.i64.wrap ((j : Int) + 1) = (j : Int) + 1 := by rw [IntKind.wrap_i64]; omega
      have HB3 := hide (fun o => bl_alloc HBL.out o)
      clear hp hs hxp hprv hpkv HT
      cases s with
      | true =>
        have HS2 := hide (HS.out rfl)
        clear HS HN
        go_wp2_with fail
        refine (HC.out _).mono ?_
        rintro e w2 ⟨rfl, rfl⟩
        clear x0 x1 x2 x3 x4 x5 x6 x7
        go_wp2
        refine ⟨?_, by first | (simp [intOf]; done) | (simp [intOf]; omega)⟩
        first
          | exact ⟨j + 1, by omega, by go_num, HS2, hide (HB3.out _)⟩
          | ((repeat apply Exists.intro); exact ⟨⟨j + 1, by omega, by go_num, HS2, hide (HB3.out _)⟩, rfl⟩)
      | false =>
        have HN2 := hide (HN.out rfl)
        clear HS HN
        go_wp2_with fail
        refine (HC.out _).mono ?_
        rintro e w2 ⟨rfl, rfl⟩
        clear x0 x1 x2 x3 x4 x5 x6 x7
        go_wp2
        go_ret
        exact ⟨ret_bool HN2.out.symm, HB3.out _⟩
    · obtain rfl : j = l.length := by omega
      have hj := HT.out
      rw [List.take_length, HR.out] at hj
      have HE := hide hj
      have gl : decide ((l.length : Int) < (l.length : Int)) = false := by simp
      have gl' : decide (l.length < l.length) = false := by simp
      clear hj hlt HT
      go_wp2
      go_ret
      exact ⟨ret_bool HE.out.symm, HBL.out⟩
set_option maxHeartbeats 4000000 in
theorem allatom_any (v : Value) (l : List Rt) (w : World) (h : KsAt w v l) (hx : ∀ i (hi : i < l.length), RxAt w l[i]) :
    Calls Tryz.prog 51 #[v, .func (.func 54) #[] #[]] w (SmPost (l.all fun t => atomB t.k) w) := by
  unfold SmPost
  obtain ⟨A, c, rfl⟩ := ksat_len h
  obtain ⟨r, hr⟩ : ∃ r, (l.all fun t => atomB t.k) = r := ⟨_, rfl⟩
  rw [hr]
  have HR := hide hr
  have HK := hide h
  have HX := hide hx
  clear h hx hr
  go_enter Tryz.func51, Tryz.ntmps51
  go_wp2
  go_loopw [9] (fun i wr => ∃ j : Nat, j ≤ l.length ∧ i = .int .i64 j ∧ Hid ((l.take j).all (fun t => atomB t.k) = true) ∧ Hid (Below w.heap.size w wr)) (fun i _ => l.length - (intOf i).toNat)
  case atStart => exact ⟨0, Nat.zero_le _, rfl, hide (by simp), hide (bl_refl w)⟩
  case round =>
    obtain ⟨j, hj, rfl, HT, HBL⟩ := hrel
    by_cases hlt : j < l.length
    · obtain ⟨b1, o1, c1, hv1, hc1, hm1, hlb1, hcell1⟩ := ksat_8 (ksat_below HK.out HBL.out) (by omega)
      injection hv1 with hv1 _ hv1c
      subst hv1 hv1c
      unfold maxLen at hm1
      obtain ⟨x0, x1, x2, x3, x4, x5, x6, x7⟩ := hcell1 j hlt
      have hxp := HX.out j hlt
      have HS := hide (show atomB l[j].k = true → (l.take (j + 1)).all (fun t => atomB t.k) = true from fun e => by
        rw [List.take_succ_eq_append_getElem hlt, List.all_append, HT.out]; simp [e])
      have HN := hide (show atomB l[j].k = false → r = false from fun e => by
        rw [← HR.out]
        cases hq : (l.all fun t => atomB t.k) with
        | false => rfl
        | true => rw [List.all_eq_true] at hq; rw [hq _ (List.getElem_mem hlt)] at e; cases e)
      clear hcell1
      obtain ⟨p, hp⟩ : ∃ p, l[j] = p := ⟨_, rfl⟩
      rw [hp] at x0 x1 x2 x3 x4 x5 x6 x7 hxp HS HN
      obtain ⟨pA, pc, hprv⟩ := rwat_len hxp.rows
      obtain ⟨pB, pd, hpkv⟩ := ksat_len hxp.ks
      rw [hprv] at x3
      rw [hpkv] at x7
      have HC := hide (fun W => atom_any p.k W)
      obtain ⟨s, hs⟩ : ∃ s, atomB p.k = s := ⟨_, rfl⟩
      rw [hs] at HC HS HN
      have i1 : (0 : Int) ≤ (j : Int) := by omega
      have i2 : (j : Int) < (l.length : Int) := by omega
      have gl : decide ((j : Int) < (l.length : Int)) = true := decide_eq_true i2
      have gl' : decide (j < l.length) = true := decide_eq_true hlt
      have e5 : IntKind.i64.wrap ((j : Int) + 1) = (j : Int) + 1 := by rw [IntKind.wrap_i64]; omega
      have HB3 := hide (fun o => bl_alloc HBL.out o)
      clear hp hs hxp hprv hpkv HT
      cases s with
      | true =>
        have HS2 := hide (HS.out rfl)
        clear HS HN
        go_wp2_with fail
        refine (HC.out _).mono ?_
        rintro e w2 ⟨rfl, rfl⟩
        clear x0 x1 x2 x3 x4 x5 x6 x7
        go_wp2
        refine ⟨?_, by first | (simp [intOf]; done) | (simp [intOf]; omega)⟩
        first
          | exact ⟨j + 1, by omega, by go_num, HS2, hide (HB3.out _)⟩
          | ((repeat apply Exists.intro); exact ⟨⟨j + 1, by omega, by go_num, HS2, hide (HB3.out _)⟩, rfl⟩)
      | false =>
        have HN2 := hide (HN.out rfl)
        clear HS HN
        go_wp2_with fail
        refine (HC.out _).mono ?_
        rintro e w2 ⟨rfl, rfl⟩
        clear x0 x1 x2 x3 x4 x5 x6 x7
        go_wp2
        go_ret
        exact ⟨ret_bool HN2.out.symm, HB3.out _⟩
    · obtain rfl : j = l.length := by omega
      have hj := HT.out
      rw [List.take_length, HR.out] at hj
      have HE := hide hj
      have gl : decide ((l.length : Int) < (l.length : Int)) = false := by simp
      have gl' : decide (l.length < l.length) = false := by simp
      clear hj hlt HT
      go_wp2
      go_ret
      exact ⟨ret_bool HE.out.symm, HBL.out⟩
end Go.Proofs.YtcnliipkfccohabGreat
end
section
namespace Go.Proofs.YtcnliipkfccohabGreat
open Go.ChangeShapes Go.WideShapes Go.ChangeAt Go.RowKit
open SetM
attribute [local go_sem ↓] Go.wp_at_zero Go.wp_at_succ
set_option maxRecDepth 100000
set_option linter.unusedVariables false
def mkB (k : Int) (l : List Rt) : Bool :=
  if k = 0 then !decide (l.length = 1) && l.all (fun t => seqkB t.k)
  else if k = 1 then decide (2 ≤ l.length) && l.all (fun t => altkB t.k)
  else if k = 5 ∨ k = 6 then decide (l.length = 1)
  else if k = 7 then decide (l.length = 1) && l.all (fun t => atomB t.k)
  else if k = 2 ∨ k = 3 ∨ k = 4 ∨ k = 8 ∨ k = 9 ∨ k = 10 ∨ k = 11 then decide (l.length = 0)
  else false
set_option maxHeartbeats 16000000 in
theorem maykids_any {w0 : World} {t : Rt} (h : RxAt w0 t) (w : World) (hb0 : Below w0.heap.size w0 w) : Calls Tryz.prog 31 #[t.v] w (SmPost (mkB t.k t.kids) w) := by
  have hk := ksat_below h.ks hb0
  have HA0 := hide (fun W (hb : Below w.heap.size w W) => allseq_any _ _ W (ksat_below hk hb) (fun i hi => rx_below (h.kid i hi) (bl_trans hb0 hb)))
  have HA1 := hide (fun W (hb : Below w.heap.size w W) => allalt_any _ _ W (ksat_below hk hb) (fun i hi => rx_below (h.kid i hi) (bl_trans hb0 hb)))
  have HA7 := hide (fun W (hb : Below w.heap.size w W) => allatom_any _ _ W (ksat_below hk hb) (fun i hi => rx_below (h.kid i hi) (bl_trans hb0 hb)))
  obtain ⟨A, c, hkv⟩ := ksat_len h.ks
  obtain ⟨RA, rc, hrv⟩ := rwat_len h.rows
  unfold SmPost at *
  rw [show t.v = .agg #[.int .i64 t.k, .string t.ch, .bool t.nt, .slice RA t.rows.length rc, .int .i64 t.mi, .int .i64 t.ma, .bool t.lz, .slice A t.kids.length c] by unfold Rt.v Rt.cs; rw [hkv, hrv]]
  rw [hkv] at HA0 HA1 HA7
  obtain ⟨r, hr⟩ : ∃ r, mkB t.k t.kids = r := ⟨_, rfl⟩
  rw [hr]
  unfold mkB at hr
  generalize (t.kids.all fun t => seqkB t.k) = a0 at *
  generalize (t.kids.all fun t => altkB t.k) = a1 at *
  generalize (t.kids.all fun t => atomB t.k) = a7 at *
  clear h hk hkv hrv hb0
  generalize t.kids.length = n at *
  generalize t.rows.length = m at *
  generalize t.k = k at *
  generalize t.ch = ch at *
  generalize t.nt = nt at *
  generalize t.mi = mi at *
  generalize t.ma = ma at *
  generalize t.lz = lz at *
  have HBA := hide (fun o => bl_alloc (bl_refl w) o)
  by_cases q0 : k = 0
  case pos =>
    subst q0
    by_cases hn : n = 1
    case pos =>
      obtain rfl : r = false := by rw [← hr]; simp [hn]
      have z1 : ((n : Int) == 1) = true := beq_iff_eq.2 (by omega)
      have z2 : ((n : Int) != 1) = false := by rw [bne, z1]; rfl
      clear hr hn
      go_enter Tryz.func31, Tryz.ntmps31
      go_wp2
      go_ret
      exact ⟨rfl, HBA.out _⟩
    obtain rfl : r = a0 := by rw [← hr]; simp [hn]
    have z1 : ((n : Int) == 1) = false := beq_eq_false_iff_ne.2 (by omega)
    have z2 : ((n : Int) != 1) = true := by rw [bne, z1]; rfl
    clear hr hn
    go_enter Tryz.func31, Tryz.ntmps31
    go_wp2_with fail
    refine (HA0.out _ (HBA.out _)).mono ?_
    rintro e w2 ⟨rfl, hb2⟩
    have HB2 := hide (bl_trans (HBA.out _) hb2)
    clear hb2
    go_wp2
    go_ret
    exact ⟨rfl, HB2.out⟩
  by_cases q1 : k = 1
  case pos =>
    subst q1
    by_cases hn : 2 ≤ n
    case neg =>
      obtain rfl : r = false := by rw [← hr]; simp [hn]
      have z1 : decide ((2 : Int) ≤ (n : Int)) = false := decide_eq_false (by omega)
      have z2 : decide ((n : Int) ≥ 2) = false := z1
      have z3 : decide (2 ≤ n) = false := decide_eq_false hn
      clear hr hn
      go_enter Tryz.func31, Tryz.ntmps31
      go_wp2
      go_ret
      exact ⟨rfl, HBA.out _⟩
    obtain rfl : r = a1 := by rw [← hr]; simp [hn]
    have z1 : decide ((2 : Int) ≤ (n : Int)) = true := decide_eq_true (by omega)
    have z2 : decide ((n : Int) ≥ 2) = true := z1
    have z3 : decide (2 ≤ n) = true := decide_eq_true hn
    clear hr hn
    go_enter Tryz.func31, Tryz.ntmps31
    go_wp2_with fail
    refine (HA1.out _ (HBA.out _)).mono ?_
    rintro e w2 ⟨rfl, hb2⟩
    have HB2 := hide (bl_trans (HBA.out _) hb2)
    clear hb2
    go_wp2
    go_ret
    exact ⟨rfl, HB2.out⟩
  by_cases q5 : k = 5
  case pos =>
    subst q5
    by_cases hn : n = 1
    case pos =>
      obtain rfl : r = true := by rw [← hr]; simp [hn]
      have z1 : ((n : Int) == 1) = true := beq_iff_eq.2 (by omega)
      have z2 : ((n : Int) != 1) = false := by rw [bne, z1]; rfl
      clear hr hn
      go_enter Tryz.func31, Tryz.ntmps31
      go_wp2
      go_ret
      exact ⟨rfl, HBA.out _⟩
    obtain rfl : r = false := by rw [← hr]; simp [hn]
    have z1 : ((n : Int) == 1) = false := beq_eq_false_iff_ne.2 (by omega)
    have z2 : ((n : Int) != 1) = true := by rw [bne, z1]; rfl
    clear hr hn
    go_enter Tryz.func31, Tryz.ntmps31
    go_wp2
    go_ret
    exact ⟨rfl, HBA.out _⟩
  by_cases q6 : k = 6
  case pos =>
    subst q6
    by_cases hn : n = 1
    case pos =>
      obtain rfl : r = true := by rw [← hr]; simp [hn]
      have z1 : ((n : Int) == 1) = true := beq_iff_eq.2 (by omega)
      have z2 : ((n : Int) != 1) = false := by rw [bne, z1]; rfl
      clear hr hn
      go_enter Tryz.func31, Tryz.ntmps31
      go_wp2
      go_ret
      exact ⟨rfl, HBA.out _⟩
    obtain rfl : r = false := by rw [← hr]; simp [hn]
    have z1 : ((n : Int) == 1) = false := beq_eq_false_iff_ne.2 (by omega)
    have z2 : ((n : Int) != 1) = true := by rw [bne, z1]; rfl
    clear hr hn
    go_enter Tryz.func31, Tryz.ntmps31
    go_wp2
    go_ret
    exact ⟨rfl, HBA.out _⟩
  by_cases q7 : k = 7
  case pos =>
    subst q7
    by_cases hn : n = 1
    case neg =>
      obtain rfl : r = false := by rw [← hr]; simp [hn]
      have z1 : ((n : Int) == 1) = false := beq_eq_false_iff_ne.2 (by omega)
      have z2 : ((n : Int) != 1) = true := by rw [bne, z1]; rfl
      clear hr hn
      go_enter Tryz.func31, Tryz.ntmps31
      go_wp2
      go_ret
      exact ⟨rfl, HBA.out _⟩
    obtain rfl : r = a7 := by rw [← hr]; simp [hn]
    have z1 : ((n : Int) == 1) = true := beq_iff_eq.2 (by omega)
    have z2 : ((n : Int) != 1) = false := by rw [bne, z1]; rfl
    clear hr hn
    go_enter Tryz.func31, Tryz.ntmps31
    go_wp2_with fail
    refine (HA7.out _ (HBA.out _)).mono ?_
    rintro e w2 ⟨rfl, hb2⟩
    have HB2 := hide (bl_trans (HBA.out _) hb2)
    clear hb2
    go_wp2
    go_ret
    exact ⟨rfl, HB2.out⟩
  by_cases q2 : k = 2
  case pos =>
    subst q2
    by_cases hn : n = 0
    case pos =>
      obtain rfl : r = true := by rw [← hr]; simp [hn]
      have z1 : ((n : Int) == 0) = true := beq_iff_eq.2 (by omega)
      clear hr hn
      go_enter Tryz.func31, Tryz.ntmps31
      go_wp2
      go_ret
      exact ⟨rfl, HBA.out _⟩
    obtain rfl : r = false := by rw [← hr]; simp [hn]
    have z1 : ((n : Int) == 0) = false := beq_eq_false_iff_ne.2 (by omega)
    clear hr hn
    go_enter Tryz.func31, Tryz.ntmps31
    go_wp2
    go_ret
    exact ⟨rfl, HBA.out _⟩
  by_cases q3 : k = 3
  case pos =>
    subst q3
    by_cases hn : n = 0
    case pos =>
      obtain rfl : r = true := by rw [← hr]; simp [hn]
      have z1 : ((n : Int) == 0) = true := beq_iff_eq.2 (by omega)
      clear hr hn
      go_enter Tryz.func31, Tryz.ntmps31
      go_wp2
      go_ret
      exact ⟨rfl, HBA.out _⟩
    obtain rfl : r = false := by rw [← hr]; simp [hn]
    have z1 : ((n : Int) == 0) = false := beq_eq_false_iff_ne.2 (by omega)
    clear hr hn
    go_enter Tryz.func31, Tryz.ntmps31
    go_wp2
    go_ret
    exact ⟨rfl, HBA.out _⟩
  by_cases q4 : k = 4
  case pos =>
    subst q4
    by_cases hn : n = 0
    case pos =>
      obtain rfl : r = true := by rw [← hr]; simp [hn]
      have z1 : ((n : Int) == 0) = true := beq_iff_eq.2 (by omega)
      clear hr hn
      go_enter Tryz.func31, Tryz.ntmps31
      go_wp2
      go_ret
      exact ⟨rfl, HBA.out _⟩
    obtain rfl : r = false := by rw [← hr]; simp [hn]
    have z1 : ((n : Int) == 0) = false := beq_eq_false_iff_ne.2 (by omega)
    clear hr hn
    go_enter Tryz.func31, Tryz.ntmps31
    go_wp2
    go_ret
    exact ⟨rfl, HBA.out _⟩
  by_cases q8 : k = 8
  case pos =>
    subst q8
    by_cases hn : n = 0
    case pos =>
      obtain rfl : r = true := by rw [← hr]; simp [hn]
      have z1 : ((n : Int) == 0) = true := beq_iff_eq.2 (by omega)
      clear hr hn
      go_enter Tryz.func31, Tryz.ntmps31
      go_wp2
      go_ret
      exact ⟨rfl, HBA.out _⟩
    obtain rfl : r = false := by rw [← hr]; simp [hn]
    have z1 : ((n : Int) == 0) = false := beq_eq_false_iff_ne.2 (by omega)
    clear hr hn
    go_enter Tryz.func31, Tryz.ntmps31
    go_wp2
    go_ret
    exact ⟨rfl, HBA.out _⟩
  by_cases q9 : k = 9
  case pos =>
    subst q9
    by_cases hn : n = 0
    case pos =>
      obtain rfl : r = true := by rw [← hr]; simp [hn]
      have z1 : ((n : Int) == 0) = true := beq_iff_eq.2 (by omega)
      clear hr hn
      go_enter Tryz.func31, Tryz.ntmps31
      go_wp2
      go_ret
      exact ⟨rfl, HBA.out _⟩
    obtain rfl : r = false := by rw [← hr]; simp [hn]
    have z1 : ((n : Int) == 0) = false := beq_eq_false_iff_ne.2 (by omega)
    clear hr hn
    go_enter Tryz.func31, Tryz.ntmps31
    go_wp2
    go_ret
    exact ⟨rfl, HBA.out _⟩
  by_cases q10 : k = 10
  case pos =>
    subst q10
    by_cases hn : n = 0
    case pos =>
      obtain rfl : r = true := by rw [← hr]; simp [hn]
      have z1 : ((n : Int) == 0) = true := beq_iff_eq.2 (by omega)
      clear hr hn
      go_enter Tryz.func31, Tryz.ntmps31
      go_wp2
      go_ret
      exact ⟨rfl, HBA.out _⟩
    obtain rfl : r = false := by rw [← hr]; simp [hn]
    have z1 : ((n : Int) == 0) = false := beq_eq_false_iff_ne.2 (by omega)
    clear hr hn
    go_enter Tryz.func31, Tryz.ntmps31
    go_wp2
    go_ret
    exact ⟨rfl, HBA.out _⟩
  by_cases q11 : k = 11
  case pos =>
    subst q11
    by_cases hn : n = 0
    case pos =>
      obtain rfl : r = true := by rw [← hr]; simp [hn]
      have z1 : ((n : Int) == 0) = true := beq_iff_eq.2 (by omega)
      clear hr hn
      go_enter Tryz.func31, Tryz.ntmps31
      go_wp2
      go_ret
      exact ⟨rfl, HBA.out _⟩
    obtain rfl : r = false := by rw [← hr]; simp [hn]
    have z1 : ((n : Int) == 0) = false := beq_eq_false_iff_ne.2 (by omega)
    clear hr hn
    go_enter Tryz.func31, Tryz.ntmps31
    go_wp2
    go_ret
    exact ⟨rfl, HBA.out _⟩
  obtain rfl : r = false := by rw [← hr]; simp [q0, q1, q5, q6, q7, q2, q3, q4, q8, q9, q10, q11]
  have y0 : (k == 0) = false := beq_eq_false_iff_ne.2 q0
  have y1 : (k == 1) = false := beq_eq_false_iff_ne.2 q1
  have y5 : (k == 5) = false := beq_eq_false_iff_ne.2 q5
  have y6 : (k == 6) = false := beq_eq_false_iff_ne.2 q6
  have y7 : (k == 7) = false := beq_eq_false_iff_ne.2 q7
  have y2 : (k == 2) = false := beq_eq_false_iff_ne.2 q2
  have y3 : (k == 3) = false := beq_eq_false_iff_ne.2 q3
  have y4 : (k == 4) = false := beq_eq_false_iff_ne.2 q4
  have y8 : (k == 8) = false := beq_eq_false_iff_ne.2 q8
  have y9 : (k == 9) = false := beq_eq_false_iff_ne.2 q9
  have y10 : (k == 10) = false := beq_eq_false_iff_ne.2 q10
  have y11 : (k == 11) = false := beq_eq_false_iff_ne.2 q11
  clear hr q0 q1 q5 q6 q7 q2 q3 q4 q8 q9 q10 q11
  go_enter Tryz.func31, Tryz.ntmps31
  go_wp2
  go_ret
  exact ⟨rfl, HBA.out _⟩
end Go.Proofs.YtcnliipkfccohabGreat
end
section
namespace Go.Proofs.YtcnliipkfccohabGreat
open Go.ChangeShapes Go.WideShapes Go.ChangeAt Go.RowKit
open SetM
attribute [local go_sem ↓] Go.wp_at_zero Go.wp_at_succ
set_option maxRecDepth 100000
set_option linter.unusedVariables false
set_option linter.unusedSimpArgs false
def rngB (mi ma : Int) : Bool := decide (0 ≤ mi) && decide (mi ≤ 255) && decide (ma = -1 ∨ (mi ≤ ma ∧ ma ≤ 255))
def mfB (k : Int) (ch : ByteArray) (nt : Bool) (rows : List Rw) (mi ma : Int) (lz : Bool) : Bool :=
  if k = 2 then properB ch.data.toList && bareB ⟨#[]⟩ nt rows.length mi ma lz
  else if k = 4 then mayF rows && bareB ch false 0 mi ma lz
  else if k = 7 then rngB mi ma && bareB ch nt rows.length 0 0 false
  else bareB ch nt rows.length mi ma lz
set_option maxHeartbeats 32000000 in
theorem mayfields_any {w0 : World} {t : Rt} (h : RxAt w0 t) (hc : t.ch.size ≤ 100000) (hl : t.rows.length ≤ 100000) (hsh : ∀ s ∈ t.rows, Short s) (w : World) (hb0 : Below w0.heap.size w0 w) : Calls Tryz.prog 30 #[t.v] w (SmPost (mfB t.k t.ch t.nt t.rows t.mi t.ma t.lz) w) := by
  obtain ⟨A, c, hkv⟩ := ksat_len h.ks
  obtain ⟨RA, rc, hrv⟩ := rwat_len h.rows
  obtain ⟨pp, hpp⟩ : ∃ p, properB t.ch.data.toList = p := ⟨_, rfl⟩
  obtain ⟨pr, hpr⟩ : ∃ p, mayF t.rows = p := ⟨_, rfl⟩
  have HP := hide (fun W => properq_any t.ch pp W hc hpp)
  have HR := hide (fun W (hb : Below w.heap.size w W) => mays_any t.rv t.rows pr W (rwat_below h.rows (bl_trans hb0 hb)) hl hsh hpr)
  obtain ⟨r, hr⟩ : ∃ r, mfB t.k t.ch t.nt t.rows t.mi t.ma t.lz = r := ⟨_, rfl⟩
  unfold mfB bareB at hr
  rw [hpp, hpr] at hr
  unfold SmPost
  rw [show t.v = .agg #[.int .i64 t.k, .string t.ch, .bool t.nt, .slice RA t.rows.length rc, .int .i64 t.mi, .int .i64 t.ma, .bool t.lz, .slice A t.kids.length c] by unfold Rt.v Rt.cs; rw [hkv, hrv]]
  rw [show mfB t.k t.ch t.nt t.rows t.mi t.ma t.lz = r by unfold mfB bareB; rw [hpp, hpr]; exact hr]
  rw [hrv] at HR
  clear h hkv hrv hb0 hpp hpr hc hl hsh
  generalize t.kids.length = kl at *
  generalize t.rows.length = rl at *
  generalize t.k = k at *
  generalize t.ch = ch at *
  generalize t.nt = nt at *
  generalize t.mi = mi at *
  generalize t.ma = ma at *
  generalize t.lz = lz at *
  have HBA := hide (fun o => bl_alloc (bl_refl w) o)
  by_cases q2 : k = 2
  case pos =>
    subst q2
    simp only [if_true] at hr
    clear HR
    cases pp with
    | false =>
      obtain rfl : r = false := by rw [← hr]; rfl
      clear hr
      go_enter Tryz.func30, Tryz.ntmps30
      go_wp2_with fail
      refine (HP.out _).mono ?_
      rintro e w2 ⟨rfl, hb2⟩
      have c0 : w2.cell? ⟨w.heap.size, 0, none⟩ = some (.int .i64 2) := cell_later hb2 (cells_lit w _ 25 0 _ rfl)
      have c1 : w2.cell? ⟨w.heap.size, 1, none⟩ = some (.string ch) := cell_later hb2 (cells_lit w _ 25 1 _ rfl)
      have c2 : w2.cell? ⟨w.heap.size, 2, none⟩ = some (.bool nt) := cell_later hb2 (cells_lit w _ 25 2 _ rfl)
      have c3 : w2.cell? ⟨w.heap.size, 3, none⟩ = some (.slice RA rl rc) := cell_later hb2 (cells_lit w _ 25 3 _ rfl)
      have c4 : w2.cell? ⟨w.heap.size, 4, none⟩ = some (.int .i64 mi) := cell_later hb2 (cells_lit w _ 25 4 _ rfl)
      have c5 : w2.cell? ⟨w.heap.size, 5, none⟩ = some (.int .i64 ma) := cell_later hb2 (cells_lit w _ 25 5 _ rfl)
      have c6 : w2.cell? ⟨w.heap.size, 6, none⟩ = some (.bool lz) := cell_later hb2 (cells_lit w _ 25 6 _ rfl)
      have c7 : w2.cell? ⟨w.heap.size, 7, none⟩ = some (.slice A kl c) := cell_later hb2 (cells_lit w _ 25 7 _ rfl)
      have hf : ∀ o, w2.frozen? ⟨w.heap.size, o, none⟩ = false := fun o => (hb2.frozen (p := ⟨w.heap.size, o, none⟩) (by simp)).trans (by go_simp)
      have hs2 : w.heap.size < w2.heap.size := by have := hb2.size; simp at this; omega
      have HB2 := hide (bl_trans (HBA.out _) hb2)
      clear hb2
      go_wp2
      go_ret
      exact ⟨rfl, by first | exact HB2.out | (repeat (first | exact HB2.out | refine bl_set ?_ (Nat.le_refl _) _))⟩
    | true =>
      rw [Bool.true_and] at hr
      by_cases qrl : rl = 0
      case neg =>
        obtain rfl : r = false := by rw [← hr]; simp [qrl]
        clear hr
        have z1 : ((rl : Int) == 0) = false := beq_eq_false_iff_ne.2 (by omega)
        clear qrl
        go_enter Tryz.func30, Tryz.ntmps30
        go_wp2_with fail
        refine (HP.out _).mono ?_
        rintro e w2 ⟨rfl, hb2⟩
        have c0 : w2.cell? ⟨w.heap.size, 0, none⟩ = some (.int .i64 2) := cell_later hb2 (cells_lit w _ 25 0 _ rfl)
        have c1 : w2.cell? ⟨w.heap.size, 1, none⟩ = some (.string ch) := cell_later hb2 (cells_lit w _ 25 1 _ rfl)
        have c2 : w2.cell? ⟨w.heap.size, 2, none⟩ = some (.bool nt) := cell_later hb2 (cells_lit w _ 25 2 _ rfl)
        have c3 : w2.cell? ⟨w.heap.size, 3, none⟩ = some (.slice RA rl rc) := cell_later hb2 (cells_lit w _ 25 3 _ rfl)
        have c4 : w2.cell? ⟨w.heap.size, 4, none⟩ = some (.int .i64 mi) := cell_later hb2 (cells_lit w _ 25 4 _ rfl)
        have c5 : w2.cell? ⟨w.heap.size, 5, none⟩ = some (.int .i64 ma) := cell_later hb2 (cells_lit w _ 25 5 _ rfl)
        have c6 : w2.cell? ⟨w.heap.size, 6, none⟩ = some (.bool lz) := cell_later hb2 (cells_lit w _ 25 6 _ rfl)
        have c7 : w2.cell? ⟨w.heap.size, 7, none⟩ = some (.slice A kl c) := cell_later hb2 (cells_lit w _ 25 7 _ rfl)
        have hf : ∀ o, w2.frozen? ⟨w.heap.size, o, none⟩ = false := fun o => (hb2.frozen (p := ⟨w.heap.size, o, none⟩) (by simp)).trans (by go_simp)
        have hs2 : w.heap.size < w2.heap.size := by have := hb2.size; simp at this; omega
        have HB2 := hide (bl_trans (HBA.out _) hb2)
        clear hb2
        go_wp2
        go_ret
        exact ⟨rfl, by first | exact HB2.out | (repeat (first | exact HB2.out | refine bl_set ?_ (Nat.le_refl _) _))⟩
      subst qrl
      rcases nt with _ | _
      case true =>
        obtain rfl : r = false := by rw [← hr]; simp
        clear hr
        go_enter Tryz.func30, Tryz.ntmps30
        go_wp2_with fail
        refine (HP.out _).mono ?_
        rintro e w2 ⟨rfl, hb2⟩
        have c0 : w2.cell? ⟨w.heap.size, 0, none⟩ = some (.int .i64 2) := cell_later hb2 (cells_lit w _ 25 0 _ rfl)
        have c1 : w2.cell? ⟨w.heap.size, 1, none⟩ = some (.string ch) := cell_later hb2 (cells_lit w _ 25 1 _ rfl)
        have c2 : w2.cell? ⟨w.heap.size, 2, none⟩ = some (.bool true) := cell_later hb2 (cells_lit w _ 25 2 _ rfl)
        have c3 : w2.cell? ⟨w.heap.size, 3, none⟩ = some (.slice RA 0 rc) := cell_later hb2 (cells_lit w _ 25 3 _ rfl)
        have c4 : w2.cell? ⟨w.heap.size, 4, none⟩ = some (.int .i64 mi) := cell_later hb2 (cells_lit w _ 25 4 _ rfl)
        have c5 : w2.cell? ⟨w.heap.size, 5, none⟩ = some (.int .i64 ma) := cell_later hb2 (cells_lit w _ 25 5 _ rfl)
        have c6 : w2.cell? ⟨w.heap.size, 6, none⟩ = some (.bool lz) := cell_later hb2 (cells_lit w _ 25 6 _ rfl)
        have c7 : w2.cell? ⟨w.heap.size, 7, none⟩ = some (.slice A kl c) := cell_later hb2 (cells_lit w _ 25 7 _ rfl)
        have hf : ∀ o, w2.frozen? ⟨w.heap.size, o, none⟩ = false := fun o => (hb2.frozen (p := ⟨w.heap.size, o, none⟩) (by simp)).trans (by go_simp)
        have hs2 : w.heap.size < w2.heap.size := by have := hb2.size; simp at this; omega
        have HB2 := hide (bl_trans (HBA.out _) hb2)
        clear hb2
        go_wp2
        go_ret
        exact ⟨rfl, by first | exact HB2.out | (repeat (first | exact HB2.out | refine bl_set ?_ (Nat.le_refl _) _))⟩
      by_cases qmi : mi = 0
      case neg =>
        obtain rfl : r = false := by rw [← hr]; simp [qmi]
        clear hr
        have z1 : (mi == 0) = false := beq_eq_false_iff_ne.2 qmi
        clear qmi
        go_enter Tryz.func30, Tryz.ntmps30
        go_wp2_with fail
        refine (HP.out _).mono ?_
        rintro e w2 ⟨rfl, hb2⟩
        have c0 : w2.cell? ⟨w.heap.size, 0, none⟩ = some (.int .i64 2) := cell_later hb2 (cells_lit w _ 25 0 _ rfl)
        have c1 : w2.cell? ⟨w.heap.size, 1, none⟩ = some (.string ch) := cell_later hb2 (cells_lit w _ 25 1 _ rfl)
        have c2 : w2.cell? ⟨w.heap.size, 2, none⟩ = some (.bool false) := cell_later hb2 (cells_lit w _ 25 2 _ rfl)
        have c3 : w2.cell? ⟨w.heap.size, 3, none⟩ = some (.slice RA 0 rc) := cell_later hb2 (cells_lit w _ 25 3 _ rfl)
        have c4 : w2.cell? ⟨w.heap.size, 4, none⟩ = some (.int .i64 mi) := cell_later hb2 (cells_lit w _ 25 4 _ rfl)
        have c5 : w2.cell? ⟨w.heap.size, 5, none⟩ = some (.int .i64 ma) := cell_later hb2 (cells_lit w _ 25 5 _ rfl)
        have c6 : w2.cell? ⟨w.heap.size, 6, none⟩ = some (.bool lz) := cell_later hb2 (cells_lit w _ 25 6 _ rfl)
        have c7 : w2.cell? ⟨w.heap.size, 7, none⟩ = some (.slice A kl c) := cell_later hb2 (cells_lit w _ 25 7 _ rfl)
        have hf : ∀ o, w2.frozen? ⟨w.heap.size, o, none⟩ = false := fun o => (hb2.frozen (p := ⟨w.heap.size, o, none⟩) (by simp)).trans (by go_simp)
        have hs2 : w.heap.size < w2.heap.size := by have := hb2.size; simp at this; omega
        have HB2 := hide (bl_trans (HBA.out _) hb2)
        clear hb2
        go_wp2
        go_ret
        exact ⟨rfl, by first | exact HB2.out | (repeat (first | exact HB2.out | refine bl_set ?_ (Nat.le_refl _) _))⟩
      subst qmi
      by_cases qma : ma = 0
      case neg =>
        obtain rfl : r = false := by rw [← hr]; simp [qma]
        clear hr
        have z1 : (ma == 0) = false := beq_eq_false_iff_ne.2 qma
        clear qma
        go_enter Tryz.func30, Tryz.ntmps30
        go_wp2_with fail
        refine (HP.out _).mono ?_
        rintro e w2 ⟨rfl, hb2⟩
        have c0 : w2.cell? ⟨w.heap.size, 0, none⟩ = some (.int .i64 2) := cell_later hb2 (cells_lit w _ 25 0 _ rfl)
        have c1 : w2.cell? ⟨w.heap.size, 1, none⟩ = some (.string ch) := cell_later hb2 (cells_lit w _ 25 1 _ rfl)
        have c2 : w2.cell? ⟨w.heap.size, 2, none⟩ = some (.bool false) := cell_later hb2 (cells_lit w _ 25 2 _ rfl)
        have c3 : w2.cell? ⟨w.heap.size, 3, none⟩ = some (.slice RA 0 rc) := cell_later hb2 (cells_lit w _ 25 3 _ rfl)
        have c4 : w2.cell? ⟨w.heap.size, 4, none⟩ = some (.int .i64 0) := cell_later hb2 (cells_lit w _ 25 4 _ rfl)
        have c5 : w2.cell? ⟨w.heap.size, 5, none⟩ = some (.int .i64 ma) := cell_later hb2 (cells_lit w _ 25 5 _ rfl)
        have c6 : w2.cell? ⟨w.heap.size, 6, none⟩ = some (.bool lz) := cell_later hb2 (cells_lit w _ 25 6 _ rfl)
        have c7 : w2.cell? ⟨w.heap.size, 7, none⟩ = some (.slice A kl c) := cell_later hb2 (cells_lit w _ 25 7 _ rfl)
        have hf : ∀ o, w2.frozen? ⟨w.heap.size, o, none⟩ = false := fun o => (hb2.frozen (p := ⟨w.heap.size, o, none⟩) (by simp)).trans (by go_simp)
        have hs2 : w.heap.size < w2.heap.size := by have := hb2.size; simp at this; omega
        have HB2 := hide (bl_trans (HBA.out _) hb2)
        clear hb2
        go_wp2
        go_ret
        exact ⟨rfl, by first | exact HB2.out | (repeat (first | exact HB2.out | refine bl_set ?_ (Nat.le_refl _) _))⟩
      subst qma
      rcases lz with _ | _
      case true =>
        obtain rfl : r = false := by rw [← hr]; simp
        clear hr
        go_enter Tryz.func30, Tryz.ntmps30
        go_wp2_with fail
        refine (HP.out _).mono ?_
        rintro e w2 ⟨rfl, hb2⟩
        have c0 : w2.cell? ⟨w.heap.size, 0, none⟩ = some (.int .i64 2) := cell_later hb2 (cells_lit w _ 25 0 _ rfl)
        have c1 : w2.cell? ⟨w.heap.size, 1, none⟩ = some (.string ch) := cell_later hb2 (cells_lit w _ 25 1 _ rfl)
        have c2 : w2.cell? ⟨w.heap.size, 2, none⟩ = some (.bool false) := cell_later hb2 (cells_lit w _ 25 2 _ rfl)
        have c3 : w2.cell? ⟨w.heap.size, 3, none⟩ = some (.slice RA 0 rc) := cell_later hb2 (cells_lit w _ 25 3 _ rfl)
        have c4 : w2.cell? ⟨w.heap.size, 4, none⟩ = some (.int .i64 0) := cell_later hb2 (cells_lit w _ 25 4 _ rfl)
        have c5 : w2.cell? ⟨w.heap.size, 5, none⟩ = some (.int .i64 0) := cell_later hb2 (cells_lit w _ 25 5 _ rfl)
        have c6 : w2.cell? ⟨w.heap.size, 6, none⟩ = some (.bool true) := cell_later hb2 (cells_lit w _ 25 6 _ rfl)
        have c7 : w2.cell? ⟨w.heap.size, 7, none⟩ = some (.slice A kl c) := cell_later hb2 (cells_lit w _ 25 7 _ rfl)
        have hf : ∀ o, w2.frozen? ⟨w.heap.size, o, none⟩ = false := fun o => (hb2.frozen (p := ⟨w.heap.size, o, none⟩) (by simp)).trans (by go_simp)
        have hs2 : w.heap.size < w2.heap.size := by have := hb2.size; simp at this; omega
        have HB2 := hide (bl_trans (HBA.out _) hb2)
        clear hb2
        go_wp2
        go_ret
        exact ⟨rfl, by first | exact HB2.out | (repeat (first | exact HB2.out | refine bl_set ?_ (Nat.le_refl _) _))⟩
      obtain rfl : r = true := by rw [← hr]; rfl
      clear hr
      go_enter Tryz.func30, Tryz.ntmps30
      go_wp2_with fail
      refine (HP.out _).mono ?_
      rintro e w2 ⟨rfl, hb2⟩
      have c0 : w2.cell? ⟨w.heap.size, 0, none⟩ = some (.int .i64 2) := cell_later hb2 (cells_lit w _ 25 0 _ rfl)
      have c1 : w2.cell? ⟨w.heap.size, 1, none⟩ = some (.string ch) := cell_later hb2 (cells_lit w _ 25 1 _ rfl)
      have c2 : w2.cell? ⟨w.heap.size, 2, none⟩ = some (.bool false) := cell_later hb2 (cells_lit w _ 25 2 _ rfl)
      have c3 : w2.cell? ⟨w.heap.size, 3, none⟩ = some (.slice RA 0 rc) := cell_later hb2 (cells_lit w _ 25 3 _ rfl)
      have c4 : w2.cell? ⟨w.heap.size, 4, none⟩ = some (.int .i64 0) := cell_later hb2 (cells_lit w _ 25 4 _ rfl)
      have c5 : w2.cell? ⟨w.heap.size, 5, none⟩ = some (.int .i64 0) := cell_later hb2 (cells_lit w _ 25 5 _ rfl)
      have c6 : w2.cell? ⟨w.heap.size, 6, none⟩ = some (.bool false) := cell_later hb2 (cells_lit w _ 25 6 _ rfl)
      have c7 : w2.cell? ⟨w.heap.size, 7, none⟩ = some (.slice A kl c) := cell_later hb2 (cells_lit w _ 25 7 _ rfl)
      have hf : ∀ o, w2.frozen? ⟨w.heap.size, o, none⟩ = false := fun o => (hb2.frozen (p := ⟨w.heap.size, o, none⟩) (by simp)).trans (by go_simp)
      have hs2 : w.heap.size < w2.heap.size := by have := hb2.size; simp at this; omega
      have HB2 := hide (bl_trans (HBA.out _) hb2)
      clear hb2
      go_wp2
      go_ret
      exact ⟨rfl, by first | exact HB2.out | (repeat (first | exact HB2.out | refine bl_set ?_ (Nat.le_refl _) _))⟩
  have y2 : (k == 2) = false := beq_eq_false_iff_ne.2 q2
  rw [if_neg q2] at hr
  by_cases q4 : k = 4
  case pos =>
    subst q4
    simp only [if_true] at hr
    clear HP q2 y2
    cases pr with
    | false =>
      obtain rfl : r = false := by rw [← hr]; rfl
      clear hr
      go_enter Tryz.func30, Tryz.ntmps30
      go_wp2_with fail
      refine (HR.out _ (HBA.out _)).mono ?_
      rintro e w2 ⟨rfl, hb2⟩
      have c0 : w2.cell? ⟨w.heap.size, 0, none⟩ = some (.int .i64 4) := cell_later hb2 (cells_lit w _ 25 0 _ rfl)
      have c1 : w2.cell? ⟨w.heap.size, 1, none⟩ = some (.string ch) := cell_later hb2 (cells_lit w _ 25 1 _ rfl)
      have c2 : w2.cell? ⟨w.heap.size, 2, none⟩ = some (.bool nt) := cell_later hb2 (cells_lit w _ 25 2 _ rfl)
      have c3 : w2.cell? ⟨w.heap.size, 3, none⟩ = some (.slice RA rl rc) := cell_later hb2 (cells_lit w _ 25 3 _ rfl)
      have c4 : w2.cell? ⟨w.heap.size, 4, none⟩ = some (.int .i64 mi) := cell_later hb2 (cells_lit w _ 25 4 _ rfl)
      have c5 : w2.cell? ⟨w.heap.size, 5, none⟩ = some (.int .i64 ma) := cell_later hb2 (cells_lit w _ 25 5 _ rfl)
      have c6 : w2.cell? ⟨w.heap.size, 6, none⟩ = some (.bool lz) := cell_later hb2 (cells_lit w _ 25 6 _ rfl)
      have c7 : w2.cell? ⟨w.heap.size, 7, none⟩ = some (.slice A kl c) := cell_later hb2 (cells_lit w _ 25 7 _ rfl)
      have hf : ∀ o, w2.frozen? ⟨w.heap.size, o, none⟩ = false := fun o => (hb2.frozen (p := ⟨w.heap.size, o, none⟩) (by simp)).trans (by go_simp)
      have hs2 : w.heap.size < w2.heap.size := by have := hb2.size; simp at this; omega
      have HB2 := hide (bl_trans (HBA.out _) hb2)
      clear hb2
      go_wp2
      go_ret
      exact ⟨rfl, by first | exact HB2.out | (repeat (first | exact HB2.out | refine bl_set ?_ (Nat.le_refl _) _))⟩
    | true =>
      rw [Bool.true_and] at hr
      by_cases qch : ch = ⟨#[]⟩
      case neg =>
        obtain rfl : r = false := by rw [← hr]; simp [qch]
        clear hr
        have z1 : (ch.toList == (⟨#[]⟩ : ByteArray).toList) = false := tleq _ _ _ (decide_eq_false qch)
        have z2 : (ch.toList == []) = false := by have h := z1; rw [show (⟨#[]⟩ : ByteArray).toList = [] by rw [Go.ByteArray.toList_eq]] at h; exact h
        have z3 : ¬ ch.toList = [] := fun e => by rw [e] at z2; cases z2
        clear qch
        go_enter Tryz.func30, Tryz.ntmps30
        go_wp2_with fail
        refine (HR.out _ (HBA.out _)).mono ?_
        rintro e w2 ⟨rfl, hb2⟩
        have c0 : w2.cell? ⟨w.heap.size, 0, none⟩ = some (.int .i64 4) := cell_later hb2 (cells_lit w _ 25 0 _ rfl)
        have c1 : w2.cell? ⟨w.heap.size, 1, none⟩ = some (.string ch) := cell_later hb2 (cells_lit w _ 25 1 _ rfl)
        have c2 : w2.cell? ⟨w.heap.size, 2, none⟩ = some (.bool nt) := cell_later hb2 (cells_lit w _ 25 2 _ rfl)
        have c3 : w2.cell? ⟨w.heap.size, 3, none⟩ = some (.slice RA rl rc) := cell_later hb2 (cells_lit w _ 25 3 _ rfl)
        have c4 : w2.cell? ⟨w.heap.size, 4, none⟩ = some (.int .i64 mi) := cell_later hb2 (cells_lit w _ 25 4 _ rfl)
        have c5 : w2.cell? ⟨w.heap.size, 5, none⟩ = some (.int .i64 ma) := cell_later hb2 (cells_lit w _ 25 5 _ rfl)
        have c6 : w2.cell? ⟨w.heap.size, 6, none⟩ = some (.bool lz) := cell_later hb2 (cells_lit w _ 25 6 _ rfl)
        have c7 : w2.cell? ⟨w.heap.size, 7, none⟩ = some (.slice A kl c) := cell_later hb2 (cells_lit w _ 25 7 _ rfl)
        have hf : ∀ o, w2.frozen? ⟨w.heap.size, o, none⟩ = false := fun o => (hb2.frozen (p := ⟨w.heap.size, o, none⟩) (by simp)).trans (by go_simp)
        have hs2 : w.heap.size < w2.heap.size := by have := hb2.size; simp at this; omega
        have HB2 := hide (bl_trans (HBA.out _) hb2)
        clear hb2
        go_wp2
        go_ret
        exact ⟨rfl, by first | exact HB2.out | (repeat (first | exact HB2.out | refine bl_set ?_ (Nat.le_refl _) _))⟩
      subst qch
      by_cases qmi : mi = 0
      case neg =>
        obtain rfl : r = false := by rw [← hr]; simp [qmi]
        clear hr
        have z1 : (mi == 0) = false := beq_eq_false_iff_ne.2 qmi
        clear qmi
        go_enter Tryz.func30, Tryz.ntmps30
        go_wp2_with fail
        refine (HR.out _ (HBA.out _)).mono ?_
        rintro e w2 ⟨rfl, hb2⟩
        have c0 : w2.cell? ⟨w.heap.size, 0, none⟩ = some (.int .i64 4) := cell_later hb2 (cells_lit w _ 25 0 _ rfl)
        have c1 : w2.cell? ⟨w.heap.size, 1, none⟩ = some (.string ⟨#[]⟩) := cell_later hb2 (cells_lit w _ 25 1 _ rfl)
        have c2 : w2.cell? ⟨w.heap.size, 2, none⟩ = some (.bool nt) := cell_later hb2 (cells_lit w _ 25 2 _ rfl)
        have c3 : w2.cell? ⟨w.heap.size, 3, none⟩ = some (.slice RA rl rc) := cell_later hb2 (cells_lit w _ 25 3 _ rfl)
        have c4 : w2.cell? ⟨w.heap.size, 4, none⟩ = some (.int .i64 mi) := cell_later hb2 (cells_lit w _ 25 4 _ rfl)
        have c5 : w2.cell? ⟨w.heap.size, 5, none⟩ = some (.int .i64 ma) := cell_later hb2 (cells_lit w _ 25 5 _ rfl)
        have c6 : w2.cell? ⟨w.heap.size, 6, none⟩ = some (.bool lz) := cell_later hb2 (cells_lit w _ 25 6 _ rfl)
        have c7 : w2.cell? ⟨w.heap.size, 7, none⟩ = some (.slice A kl c) := cell_later hb2 (cells_lit w _ 25 7 _ rfl)
        have hf : ∀ o, w2.frozen? ⟨w.heap.size, o, none⟩ = false := fun o => (hb2.frozen (p := ⟨w.heap.size, o, none⟩) (by simp)).trans (by go_simp)
        have hs2 : w.heap.size < w2.heap.size := by have := hb2.size; simp at this; omega
        have HB2 := hide (bl_trans (HBA.out _) hb2)
        clear hb2
        go_wp2
        go_ret
        exact ⟨rfl, by first | exact HB2.out | (repeat (first | exact HB2.out | refine bl_set ?_ (Nat.le_refl _) _))⟩
      subst qmi
      by_cases qma : ma = 0
      case neg =>
        obtain rfl : r = false := by rw [← hr]; simp [qma]
        clear hr
        have z1 : (ma == 0) = false := beq_eq_false_iff_ne.2 qma
        clear qma
        go_enter Tryz.func30, Tryz.ntmps30
        go_wp2_with fail
        refine (HR.out _ (HBA.out _)).mono ?_
        rintro e w2 ⟨rfl, hb2⟩
        have c0 : w2.cell? ⟨w.heap.size, 0, none⟩ = some (.int .i64 4) := cell_later hb2 (cells_lit w _ 25 0 _ rfl)
        have c1 : w2.cell? ⟨w.heap.size, 1, none⟩ = some (.string ⟨#[]⟩) := cell_later hb2 (cells_lit w _ 25 1 _ rfl)
        have c2 : w2.cell? ⟨w.heap.size, 2, none⟩ = some (.bool nt) := cell_later hb2 (cells_lit w _ 25 2 _ rfl)
        have c3 : w2.cell? ⟨w.heap.size, 3, none⟩ = some (.slice RA rl rc) := cell_later hb2 (cells_lit w _ 25 3 _ rfl)
        have c4 : w2.cell? ⟨w.heap.size, 4, none⟩ = some (.int .i64 0) := cell_later hb2 (cells_lit w _ 25 4 _ rfl)
        have c5 : w2.cell? ⟨w.heap.size, 5, none⟩ = some (.int .i64 ma) := cell_later hb2 (cells_lit w _ 25 5 _ rfl)
        have c6 : w2.cell? ⟨w.heap.size, 6, none⟩ = some (.bool lz) := cell_later hb2 (cells_lit w _ 25 6 _ rfl)
        have c7 : w2.cell? ⟨w.heap.size, 7, none⟩ = some (.slice A kl c) := cell_later hb2 (cells_lit w _ 25 7 _ rfl)
        have hf : ∀ o, w2.frozen? ⟨w.heap.size, o, none⟩ = false := fun o => (hb2.frozen (p := ⟨w.heap.size, o, none⟩) (by simp)).trans (by go_simp)
        have hs2 : w.heap.size < w2.heap.size := by have := hb2.size; simp at this; omega
        have HB2 := hide (bl_trans (HBA.out _) hb2)
        clear hb2
        go_wp2
        go_ret
        exact ⟨rfl, by first | exact HB2.out | (repeat (first | exact HB2.out | refine bl_set ?_ (Nat.le_refl _) _))⟩
      subst qma
      rcases lz with _ | _
      case true =>
        obtain rfl : r = false := by rw [← hr]; simp
        clear hr
        go_enter Tryz.func30, Tryz.ntmps30
        go_wp2_with fail
        refine (HR.out _ (HBA.out _)).mono ?_
        rintro e w2 ⟨rfl, hb2⟩
        have c0 : w2.cell? ⟨w.heap.size, 0, none⟩ = some (.int .i64 4) := cell_later hb2 (cells_lit w _ 25 0 _ rfl)
        have c1 : w2.cell? ⟨w.heap.size, 1, none⟩ = some (.string ⟨#[]⟩) := cell_later hb2 (cells_lit w _ 25 1 _ rfl)
        have c2 : w2.cell? ⟨w.heap.size, 2, none⟩ = some (.bool nt) := cell_later hb2 (cells_lit w _ 25 2 _ rfl)
        have c3 : w2.cell? ⟨w.heap.size, 3, none⟩ = some (.slice RA rl rc) := cell_later hb2 (cells_lit w _ 25 3 _ rfl)
        have c4 : w2.cell? ⟨w.heap.size, 4, none⟩ = some (.int .i64 0) := cell_later hb2 (cells_lit w _ 25 4 _ rfl)
        have c5 : w2.cell? ⟨w.heap.size, 5, none⟩ = some (.int .i64 0) := cell_later hb2 (cells_lit w _ 25 5 _ rfl)
        have c6 : w2.cell? ⟨w.heap.size, 6, none⟩ = some (.bool true) := cell_later hb2 (cells_lit w _ 25 6 _ rfl)
        have c7 : w2.cell? ⟨w.heap.size, 7, none⟩ = some (.slice A kl c) := cell_later hb2 (cells_lit w _ 25 7 _ rfl)
        have hf : ∀ o, w2.frozen? ⟨w.heap.size, o, none⟩ = false := fun o => (hb2.frozen (p := ⟨w.heap.size, o, none⟩) (by simp)).trans (by go_simp)
        have hs2 : w.heap.size < w2.heap.size := by have := hb2.size; simp at this; omega
        have HB2 := hide (bl_trans (HBA.out _) hb2)
        clear hb2
        go_wp2
        go_ret
        exact ⟨rfl, by first | exact HB2.out | (repeat (first | exact HB2.out | refine bl_set ?_ (Nat.le_refl _) _))⟩
      obtain rfl : r = true := by rw [← hr]; rfl
      clear hr
      go_enter Tryz.func30, Tryz.ntmps30
      go_wp2_with fail
      refine (HR.out _ (HBA.out _)).mono ?_
      rintro e w2 ⟨rfl, hb2⟩
      have c0 : w2.cell? ⟨w.heap.size, 0, none⟩ = some (.int .i64 4) := cell_later hb2 (cells_lit w _ 25 0 _ rfl)
      have c1 : w2.cell? ⟨w.heap.size, 1, none⟩ = some (.string ⟨#[]⟩) := cell_later hb2 (cells_lit w _ 25 1 _ rfl)
      have c2 : w2.cell? ⟨w.heap.size, 2, none⟩ = some (.bool nt) := cell_later hb2 (cells_lit w _ 25 2 _ rfl)
      have c3 : w2.cell? ⟨w.heap.size, 3, none⟩ = some (.slice RA rl rc) := cell_later hb2 (cells_lit w _ 25 3 _ rfl)
      have c4 : w2.cell? ⟨w.heap.size, 4, none⟩ = some (.int .i64 0) := cell_later hb2 (cells_lit w _ 25 4 _ rfl)
      have c5 : w2.cell? ⟨w.heap.size, 5, none⟩ = some (.int .i64 0) := cell_later hb2 (cells_lit w _ 25 5 _ rfl)
      have c6 : w2.cell? ⟨w.heap.size, 6, none⟩ = some (.bool false) := cell_later hb2 (cells_lit w _ 25 6 _ rfl)
      have c7 : w2.cell? ⟨w.heap.size, 7, none⟩ = some (.slice A kl c) := cell_later hb2 (cells_lit w _ 25 7 _ rfl)
      have hf : ∀ o, w2.frozen? ⟨w.heap.size, o, none⟩ = false := fun o => (hb2.frozen (p := ⟨w.heap.size, o, none⟩) (by simp)).trans (by go_simp)
      have hs2 : w.heap.size < w2.heap.size := by have := hb2.size; simp at this; omega
      have HB2 := hide (bl_trans (HBA.out _) hb2)
      clear hb2
      go_wp2
      go_ret
      exact ⟨rfl, by first | exact HB2.out | (repeat (first | exact HB2.out | refine bl_set ?_ (Nat.le_refl _) _))⟩
  have y4 : (k == 4) = false := beq_eq_false_iff_ne.2 q4
  rw [if_neg q4] at hr
  clear HP HR
  by_cases q7 : k = 7
  case pos =>
    subst q7
    simp only [if_true] at hr
    clear q2 y2 q4 y4
    by_cases q1 : 0 ≤ mi
    case neg =>
      obtain rfl : r = false := by rw [← hr]; unfold rngB; simp; omega
      have z1 : decide (mi < 0) = true := decide_eq_true (by omega)
      clear hr q1
      go_enter Tryz.func30, Tryz.ntmps30
      go_wp2
      go_ret
      exact ⟨rfl, HBA.out _⟩
    have z1 : decide (mi < 0) = false := decide_eq_false (by omega)
    by_cases q2 : mi ≤ 255
    case neg =>
      obtain rfl : r = false := by rw [← hr]; unfold rngB; simp; omega
      have z2 : decide (255 < mi) = true := decide_eq_true (by omega)
      have z3 : decide (mi > 255) = true := z2
      clear hr q1 q2
      go_enter Tryz.func30, Tryz.ntmps30
      go_wp2
      go_ret
      exact ⟨rfl, HBA.out _⟩
    have z2 : decide (255 < mi) = false := decide_eq_false (by omega)
    have z3 : decide (mi > 255) = false := z2
    by_cases q3 : ma ≤ 255
    case neg =>
      obtain rfl : r = false := by rw [← hr]; unfold rngB; simp; omega
      have z4 : decide (255 < ma) = true := decide_eq_true (by omega)
      have z5 : decide (ma > 255) = true := z4
      clear hr q1 q2 q3
      go_enter Tryz.func30, Tryz.ntmps30
      go_wp2
      go_ret
      exact ⟨rfl, HBA.out _⟩
    have z4 : decide (255 < ma) = false := decide_eq_false (by omega)
    have z5 : decide (ma > 255) = false := z4
    by_cases q5 : ma = -1
    case pos =>
      subst q5
      rw [show rngB mi (-1) = true by unfold rngB; simp; omega, Bool.true_and] at hr
      clear q1 q2 q3 z4 z5
      by_cases qch : ch = ⟨#[]⟩
      case neg =>
        obtain rfl : r = false := by rw [← hr]; simp [qch]
        clear hr
        have z1 : (ch.toList == (⟨#[]⟩ : ByteArray).toList) = false := tleq _ _ _ (decide_eq_false qch)
        have z2 : (ch.toList == []) = false := by have h := z1; rw [show (⟨#[]⟩ : ByteArray).toList = [] by rw [Go.ByteArray.toList_eq]] at h; exact h
        have z3 : ¬ ch.toList = [] := fun e => by rw [e] at z2; cases z2
        clear qch
        go_enter Tryz.func30, Tryz.ntmps30
        go_wp2
        go_ret
        exact ⟨rfl, HBA.out _⟩
      subst qch
      by_cases qrl : rl = 0
      case neg =>
        obtain rfl : r = false := by rw [← hr]; simp [qrl]
        clear hr
        have z1 : ((rl : Int) == 0) = false := beq_eq_false_iff_ne.2 (by omega)
        clear qrl
        go_enter Tryz.func30, Tryz.ntmps30
        go_wp2
        go_ret
        exact ⟨rfl, HBA.out _⟩
      subst qrl
      rcases nt with _ | _
      case true =>
        obtain rfl : r = false := by rw [← hr]; simp
        clear hr
        go_enter Tryz.func30, Tryz.ntmps30
        go_wp2
        go_ret
        exact ⟨rfl, HBA.out _⟩
      obtain rfl : r = true := by rw [← hr]; rfl
      clear hr
      go_enter Tryz.func30, Tryz.ntmps30
      go_wp2
      go_ret
      exact ⟨rfl, HBA.out _⟩
    have z6 : (ma == -1) = false := beq_eq_false_iff_ne.2 q5
    have z7 : (ma != -1) = true := by rw [bne, z6]; rfl
    by_cases q6 : mi ≤ ma
    case neg =>
      obtain rfl : r = false := by rw [← hr]; unfold rngB; simp; omega
      have z8 : decide (ma < mi) = true := decide_eq_true (by omega)
      clear hr q1 q2 q3 q5 q6
      go_enter Tryz.func30, Tryz.ntmps30
      go_wp2
      go_ret
      exact ⟨rfl, HBA.out _⟩
    have z8 : decide (ma < mi) = false := decide_eq_false (by omega)
    rw [show rngB mi ma = true by unfold rngB; simp; omega, Bool.true_and] at hr
    clear q1 q2 q3 q5 q6
    by_cases qch : ch = ⟨#[]⟩
    case neg =>
      obtain rfl : r = false := by rw [← hr]; simp [qch]
      clear hr
      have z1 : (ch.toList == (⟨#[]⟩ : ByteArray).toList) = false := tleq _ _ _ (decide_eq_false qch)
      have z2 : (ch.toList == []) = false := by have h := z1; rw [show (⟨#[]⟩ : ByteArray).toList = [] by rw [Go.ByteArray.toList_eq]] at h; exact h
      have z3 : ¬ ch.toList = [] := fun e => by rw [e] at z2; cases z2
      clear qch
      go_enter Tryz.func30, Tryz.ntmps30
      go_wp2
      go_ret
      exact ⟨rfl, HBA.out _⟩
    subst qch
    by_cases qrl : rl = 0
    case neg =>
      obtain rfl : r = false := by rw [← hr]; simp [qrl]
      clear hr
      have z1 : ((rl : Int) == 0) = false := beq_eq_false_iff_ne.2 (by omega)
      clear qrl
      go_enter Tryz.func30, Tryz.ntmps30
      go_wp2
      go_ret
      exact ⟨rfl, HBA.out _⟩
    subst qrl
    rcases nt with _ | _
    case true =>
      obtain rfl : r = false := by rw [← hr]; simp
      clear hr
      go_enter Tryz.func30, Tryz.ntmps30
      go_wp2
      go_ret
      exact ⟨rfl, HBA.out _⟩
    obtain rfl : r = true := by rw [← hr]; rfl
    clear hr
    go_enter Tryz.func30, Tryz.ntmps30
    go_wp2
    go_ret
    exact ⟨rfl, HBA.out _⟩
  have y7 : (k == 7) = false := beq_eq_false_iff_ne.2 q7
  rw [if_neg q7] at hr
  clear q2 q4 q7
  by_cases qch : ch = ⟨#[]⟩
  case neg =>
    obtain rfl : r = false := by rw [← hr]; simp [qch]
    clear hr
    have z1 : (ch.toList == (⟨#[]⟩ : ByteArray).toList) = false := tleq _ _ _ (decide_eq_false qch)
    have z2 : (ch.toList == []) = false := by have h := z1; rw [show (⟨#[]⟩ : ByteArray).toList = [] by rw [Go.ByteArray.toList_eq]] at h; exact h
    have z3 : ¬ ch.toList = [] := fun e => by rw [e] at z2; cases z2
    clear qch
    go_enter Tryz.func30, Tryz.ntmps30
    go_wp2
    go_ret
    exact ⟨rfl, HBA.out _⟩
  subst qch
  by_cases qrl : rl = 0
  case neg =>
    obtain rfl : r = false := by rw [← hr]; simp [qrl]
    clear hr
    have z1 : ((rl : Int) == 0) = false := beq_eq_false_iff_ne.2 (by omega)
    clear qrl
    go_enter Tryz.func30, Tryz.ntmps30
    go_wp2
    go_ret
    exact ⟨rfl, HBA.out _⟩
  subst qrl
  rcases nt with _ | _
  case true =>
    obtain rfl : r = false := by rw [← hr]; simp
    clear hr
    go_enter Tryz.func30, Tryz.ntmps30
    go_wp2
    go_ret
    exact ⟨rfl, HBA.out _⟩
  by_cases qmi : mi = 0
  case neg =>
    obtain rfl : r = false := by rw [← hr]; simp [qmi]
    clear hr
    have z1 : (mi == 0) = false := beq_eq_false_iff_ne.2 qmi
    clear qmi
    go_enter Tryz.func30, Tryz.ntmps30
    go_wp2
    go_ret
    exact ⟨rfl, HBA.out _⟩
  subst qmi
  by_cases qma : ma = 0
  case neg =>
    obtain rfl : r = false := by rw [← hr]; simp [qma]
    clear hr
    have z1 : (ma == 0) = false := beq_eq_false_iff_ne.2 qma
    clear qma
    go_enter Tryz.func30, Tryz.ntmps30
    go_wp2
    go_ret
    exact ⟨rfl, HBA.out _⟩
  subst qma
  rcases lz with _ | _
  case true =>
    obtain rfl : r = false := by rw [← hr]; simp
    clear hr
    go_enter Tryz.func30, Tryz.ntmps30
    go_wp2
    go_ret
    exact ⟨rfl, HBA.out _⟩
  obtain rfl : r = true := by rw [← hr]; rfl
  clear hr
  go_enter Tryz.func30, Tryz.ntmps30
  go_wp2
  go_ret
  exact ⟨rfl, HBA.out _⟩
end Go.Proofs.YtcnliipkfccohabGreat
end
section
namespace Go.Proofs.YtcnliipkfccohabGreat
open Go.ChangeShapes Go.WideShapes Go.ChangeAt Go.RowKit
open SetM
attribute [local go_sem ↓] Go.wp_at_zero Go.wp_at_succ
set_option maxRecDepth 100000
set_option linter.unusedVariables false
mutual
  def okM : Rt → Bool
    | .mk k ch nt _ rows mi ma lz _ l => mfB k ch nt rows mi ma lz && mkB k l && okL l
  def okL : List Rt → Bool
    | [] => true
    | t :: l => okM t && okL l
end
theorem okM_eq (t : Rt) : okM t = (mfB t.k t.ch t.nt t.rows t.mi t.ma t.lz && mkB t.k t.kids && okL t.kids) := by cases t; rw [okM]; rfl
theorem okL_app (l m : List Rt) : okL (l ++ m) = (okL l && okL m) := by
  induction l with
  | nil => simp [okL]
  | cons a l ih => simp only [List.cons_append, okL, ih, Bool.and_assoc]
theorem okL_snoc (l : List Rt) (k : Nat) (h : k < l.length) : okL (l.take (k + 1)) = (okL (l.take k) && okM l[k]) := by
  rw [List.take_succ_eq_append_getElem h, okL_app]; simp [okL]
theorem okL_kid (l : List Rt) (k : Nat) (h : k < l.length) (ho : okL l = true) : okM l[k] = true := by
  have h1 : okL l = (okL (l.take (k + 1)) && okL (l.drop (k + 1))) := by rw [← okL_app, List.take_append_drop]
  rw [ho, okL_snoc l k h] at h1
  simp at h1
  exact h1.1.2
theorem dL_kid (l : List Rt) (k : Nat) (h : k < l.length) : dM l[k] ≤ dL l := by
  have h1 := dL_snoc l k h
  have h2 : dL l = max (dL (l.take (k + 1))) (dL (l.drop (k + 1))) := by rw [← dL_app, List.take_append_drop]
  omega
theorem pL_upto (l : List Rt) (k : Nat) (h : k < l.length) : pL (l.take k) + pM l[k] ≤ pL l := by
  have h1 := pL_snoc l k h
  have h2 : pL l = pL (l.take (k + 1)) + pL (l.drop (k + 1)) := by rw [← pL_app, List.take_append_drop]
  omega
structure Cnt (w w' : World) (b : Nat) (L : Int) : Prop where
  grown : w.grownBy w' (some b)
  pos : w'.cell? ⟨b, 0, none⟩ = some (.int .i64 L)
  froz : ∀ q, w'.frozen? ⟨b, q, none⟩ = w.frozen? ⟨b, q, none⟩
theorem cnt_bl {w w' : World} {b : Nat} {L : Int} (hb : Below w.heap.size w w') (h : w.cell? ⟨b, 0, none⟩ = some (.int .i64 L)) : Cnt w w' b L := by
  have hl := World.block_lt_of_cell? _ _ h
  exact ⟨⟨hb.os, hb.tape, hb.output, hb.size, fun i hi _ => hb.block i hi⟩, cell_later hb h, fun q => hb.frozen (p := ⟨b, q, none⟩) hl⟩
theorem Cnt.lt {w w' : World} {b : Nat} {L : Int} (h : Cnt w w' b L) : b < w'.heap.size := World.block_lt_of_cell? _ _ h.pos
theorem Cnt.trans {w w1 w2 : World} {b : Nat} {L L2 : Int} (h : Cnt w w1 b L) (g : Cnt w1 w2 b L2) : Cnt w w2 b L2 :=
  ⟨⟨g.grown.os.trans h.grown.os, g.grown.tape.trans h.grown.tape, g.grown.output.trans h.grown.output, Nat.le_trans h.grown.size g.grown.size, fun i hi hn => (g.grown.block i (Nat.lt_of_lt_of_le hi h.grown.size) hn).trans (h.grown.block i hi hn)⟩,
    g.pos, fun q => (g.froz q).trans (h.froz q)⟩
theorem Cnt.bl {w w1 w2 : World} {b : Nat} {L : Int} (h : Cnt w w1 b L) (hb : Below w1.heap.size w1 w2) : Cnt w w2 b L := h.trans (cnt_bl hb h.pos)
theorem Cnt.set {w w1 : World} {b : Nat} {L : Int} (h : Cnt w w1 b L) (L' : Int) : Cnt w (w1.setCell ⟨b, 0, none⟩ (.int .i64 L')) b L' :=
  ⟨grown_set h.grown _ _, World.cell?_setCell_same _ _ _ h.pos, fun q => by rw [World.frozen?_setCell]; exact h.froz q⟩
theorem Cnt.cell {w w' : World} {b : Nat} {L : Int} (h : Cnt w w' b L) {n o : Nat} {v : Value} (hn : n ≠ b) (hc : w.cell? ⟨n, o, none⟩ = some v) : w'.cell? ⟨n, o, none⟩ = some v := by
  have hl := World.block_lt_of_cell? _ _ hc
  have hk := h.grown.block n hl (by intro e; injection e with e; exact hn e)
  rw [← hc]
  simp only [World.cell?, hk]
theorem Cnt.below {w0 w w' : World} {b : Nat} {L : Int} (h : Cnt w w' b L) (hb : Below w0.heap.size w0 w) (hg : w0.heap.size ≤ b) : Below w0.heap.size w0 w' :=
  bl_grown hb h.grown (fun k hk => by injection hk with hk; omega)
def cnB (t : Rt) (g L : Int) : Bool := decide ((pM t : Int) ≤ L) && decide ((dM t : Int) ≤ g) && okM t
def McPost (r : Bool) (L : Int) (p : Nat) (w : World) (b : Nat) (e : Ending) (w' : World) : Prop := ∃ L', e = .returned (.bool r) ∧ Cnt w w' b L' ∧ Hid (r = true → L' = L - (p : Int))
theorem cnB_of {t : Rt} {g L : Int} (h1 : (pM t : Int) ≤ L) (h2 : (dM t : Int) ≤ g) (h3 : okM t = true) : cnB t g L = true := by unfold cnB; simp [h1, h2, h3]
theorem cnB_to {t : Rt} {g L : Int} (h : cnB t g L = true) : (pM t : Int) ≤ L ∧ (dM t : Int) ≤ g ∧ okM t = true := by unfold cnB at h; simp at h; exact ⟨h.1.1, h.1.2, h.2⟩
theorem cnB_no {t : Rt} {g L : Int} {r : Bool} (hr : cnB t g L = r) (h : (pM t : Int) ≤ L → (dM t : Int) ≤ g → okM t = true → False) : r = false := by
  cases r
  · rfl
  · obtain ⟨h1, h2, h3⟩ := cnB_to hr
    exact (h h1 h2 h3).elim
theorem sM_ch (t : Rt) : t.ch.size ≤ sM t ∧ t.rows.length ≤ sM t ∧ (∀ s ∈ t.rows, s.1.size + s.2.size ≤ sM t) := by
  have h := sM_eq t
  have h1 := rwS_len t.rows
  refine ⟨by omega, by omega, fun s hs => ?_⟩
  have := rwS_in t.rows s hs
  omega
theorem dM_one (t : Rt) (h : t.k = 5 ∨ t.k = 6) : dM t = dL t.kids + 1 := by rw [dM_eq, if_pos h]
theorem dM_zero (t : Rt) (h : ¬ (t.k = 5 ∨ t.k = 6)) : dM t = dL t.kids := by rw [dM_eq, if_neg h, Nat.add_zero]
set_option maxHeartbeats 16000000 in
theorem maycnt_any {w0 : World} {t : Rt} (h : RxAt w0 t) : sM t ≤ 100000 → ∀ g L : Int, 0 ≤ g → g ≤ 1000 → 0 ≤ L → L ≤ 100000 → ∀ b w, Below w0.heap.size w0 w → w0.heap.size ≤ b → w.cell? ⟨b, 0, none⟩ = some (.int .i64 L) → w.frozen? ⟨b, 0, none⟩ = false → ∀ r, cnB t g L = r →
    Calls Tryz.prog 16 #[t.v, .int .i64 g, .pointer (some ⟨b, 0, none⟩)] w (McPost r L (pM t) w b) := by
  induction h with
  | mk t hr hk hs ih =>
    intro hz g L hg0 hg1 hL0 hL1 b w hb0 hbb hcb hfb r hrr
    have hrx := RxAt.mk t hr hk hs
    have hM := sM_eq t
    obtain ⟨q1, q2, q3⟩ := sM_ch t
    obtain ⟨mf, hmf⟩ : ∃ x, mfB t.k t.ch t.nt t.rows t.mi t.ma t.lz = x := ⟨_, rfl⟩
    obtain ⟨mk, hmk⟩ : ∃ x, mkB t.k t.kids = x := ⟨_, rfl⟩
    obtain ⟨z, hz5⟩ : ∃ x, decide (t.k = 5 ∨ t.k = 6) = x := ⟨_, rfl⟩
    have HMF := hide (fun W hb => (mayfields_any hrx (by omega) (by omega) (fun s hs => ⟨by have := q3 s hs; omega, by have := q3 s hs; omega⟩) W hb).mono (fun e w' (hh : SmPost _ W e w') => (show e = .returned (.bool mf) ∧ Below W.heap.size W w' from hmf ▸ hh)))
    have HMK := hide (fun W hb => (maykids_any hrx W hb).mono (fun e w' (hh : SmPost _ W e w') => (show e = .returned (.bool mk) ∧ Below W.heap.size W w' from hmk ▸ hh)))
    have HIS := hide (fun W => isg_any t.k z hz5 W)
    have HIH := hide (fun i hi g2 L2 h1 h2 h3 h4 W hb hbc hbf r2 hr2 => ih i hi (by have := sL_kid t.kids i hi; omega) g2 L2 h1 h2 h3 h4 b W hb hbb hbc hbf r2 hr2)
    have HK := hide hk
    have HB0 := hide hb0
    have HRX := hide hrx
    obtain ⟨A, c, hkv⟩ := ksat_len hk
    obtain ⟨RA, rc, hrv⟩ := rwat_len hr
    have hv : t.v = .agg #[.int .i64 t.k, .string t.ch, .bool t.nt, .slice RA t.rows.length rc, .int .i64 t.mi, .int .i64 t.ma, .bool t.lz, .slice A t.kids.length c] := by unfold Rt.v Rt.cs; rw [hkv, hrv]
    rw [hv] at HMF HMK ⊢
    rw [hkv] at HK
    have HNO := hide (fun h => cnB_no hrr h)
    have HYES := hide (fun h1 h2 h3 => (hrr.symm.trans (cnB_of (t := t) (g := g) (L := L) h1 h2 h3)))
    have hok := okM_eq t
    rw [hmf, hmk] at hok
    have HOK := hide hok
    have HPM := hide (pM_eq t)
    have HDM := hide (show (dM t : Int) = dL t.kids + (if z = true then 1 else 0) by
      cases z
      · rw [dM_zero t (of_decide_eq_false hz5)]; simp
      · rw [dM_one t (of_decide_eq_true hz5)]; simp)
    obtain ⟨pt, hpt⟩ : ∃ x, pM t = x := ⟨_, rfl⟩
    rw [hpt] at HNO HYES HPM ⊢
    obtain ⟨dt, hdt⟩ : ∃ x, dM t = x := ⟨_, rfl⟩
    rw [hdt] at HNO HYES HDM
    obtain ⟨ok, hokk⟩ : ∃ x, okM t = x := ⟨_, rfl⟩
    rw [hokk] at HNO HYES HOK
    obtain ⟨kids, hkids⟩ : ∃ kids, t.kids = kids := ⟨_, rfl⟩
    have HIH2 := hide (fun i (hi : i < kids.length) => (show ∃ h2 : i < t.kids.length, t.kids[i] = kids[i] by subst hkids; exact ⟨hi, rfl⟩))
    rw [hkids] at HMF HMK HK HOK HPM HDM ⊢
    clear hr hk hs ih hb0 hkv hrv hz hrx hM q1 q2 q3 hmf hmk hz5 hv hok hpt hdt hokk hkids
    generalize t.rows.length = rl at *
    generalize t.k = k at *
    generalize t.ch = ch at *
    generalize t.nt = nt at *
    generalize t.mi = mi at *
    generalize t.ma = ma at *
    generalize t.lz = lz at *
    unfold McPost
    have hbl : b < w.heap.size := World.block_lt_of_cell? _ _ hcb
    obtain ⟨W1, hW1⟩ : ∃ W1, (w.alloc (.cells #[.int .i64 k, .string ch, .bool nt, .slice RA rl rc, .int .i64 mi, .int .i64 ma, .bool lz, .slice A kids.length c] 25)).setCell ⟨b, 0, none⟩ (.int .i64 (L - 1)) = W1 := ⟨_, rfl⟩
    have hcb1 : (w.alloc (.cells #[.int .i64 k, .string ch, .bool nt, .slice RA rl rc, .int .i64 mi, .int .i64 ma, .bool lz, .slice A kids.length c] 25)).cell? ⟨b, 0, none⟩ = some (.int .i64 L) := cell_later (bl_alloc (bl_refl w) _) hcb
    have hfb1 : (w.alloc (.cells #[.int .i64 k, .string ch, .bool nt, .slice RA rl rc, .int .i64 mi, .int .i64 ma, .bool lz, .slice A kids.length c] 25)).frozen? ⟨b, 0, none⟩ = false := ((bl_alloc (bl_refl w) _).frozen (p := ⟨b, 0, none⟩) hbl).trans hfb
    have HC1 := hide (show Cnt w W1 b (L - 1) from by rw [← hW1]; exact ((cnt_bl (bl_alloc (bl_refl w) _) hcb).set (L - 1)))
    have FJ := hide (fun j u (hu : (#[.int .i64 k, .string ch, .bool nt, .slice RA rl rc, .int .i64 mi, .int .i64 ma, .bool lz, .slice A kids.length c] : Array Value).toList[j]? = some u) => (show W1.cell? ⟨w.heap.size, j, none⟩ = some u by
      rw [← hW1]
      refine (World.cell?_setCell_other _ _ _ _ (by intro e; injection e with e _; omega)).trans ?_
      have := cells_lit w _ 25 j u hu
      rw [addr_add, Nat.zero_add] at this
      exact this))
    have c0 : W1.cell? ⟨w.heap.size, 0, none⟩ = some (.int .i64 k) := FJ.out 0 _ rfl
    have c1 : W1.cell? ⟨w.heap.size, 1, none⟩ = some (.string ch) := FJ.out 1 _ rfl
    have c2 : W1.cell? ⟨w.heap.size, 2, none⟩ = some (.bool nt) := FJ.out 2 _ rfl
    have c3 : W1.cell? ⟨w.heap.size, 3, none⟩ = some (.slice RA rl rc) := FJ.out 3 _ rfl
    have c4 : W1.cell? ⟨w.heap.size, 4, none⟩ = some (.int .i64 mi) := FJ.out 4 _ rfl
    have c5 : W1.cell? ⟨w.heap.size, 5, none⟩ = some (.int .i64 ma) := FJ.out 5 _ rfl
    have c6 : W1.cell? ⟨w.heap.size, 6, none⟩ = some (.bool lz) := FJ.out 6 _ rfl
    have c7 : W1.cell? ⟨w.heap.size, 7, none⟩ = some (.slice A kids.length c) := FJ.out 7 _ rfl
    have cb : W1.cell? ⟨b, 0, none⟩ = some (.int .i64 (L - 1)) := HC1.out.pos
    have fb : W1.frozen? ⟨b, 0, none⟩ = false := (HC1.out.froz 0).trans hfb
    have e1 : IntKind.i64.wrap (L - 1) = L - 1 := by rw [IntKind.wrap_i64]; omega
    have hn1 : w.heap.size < W1.heap.size := World.block_lt_of_cell? _ _ c0
    have HFB := hide hfb
    clear FJ hfb
    rcases z with _ | _
    all_goals
      simp only [Bool.false_eq_true, if_false, if_true] at HDM
    · have G0 := hg0
      by_cases qL : L = 0
      case pos =>
        have d1 : decide (L - 1 < 0) = true := decide_eq_true (by omega)
        obtain rfl : r = false := HNO.out (fun h _ _ => by have := HPM.out; omega)
        clear qL HNO HYES
        go_enter Tryz.func16, Tryz.ntmps16
        go_wp2_with fail
        refine (HIS.out _).mono ?_
        rintro e _ ⟨rfl, rfl⟩
        go_wp2
        go_ret
        exact ⟨L - 1, rfl, HC1.out, hide (fun h => by cases h)⟩
      have d1 : decide (L - 1 < 0) = false := decide_eq_false (by omega)
      by_cases qG : g < 0
      case pos =>
        have d2 : decide (g < 0) = true := decide_eq_true qG
        obtain rfl : r = false := HNO.out (fun _ h _ => by have := HDM.out; omega)
        clear qL qG HNO HYES
        go_enter Tryz.func16, Tryz.ntmps16
        go_wp2_with fail
        refine (HIS.out _).mono ?_
        rintro e _ ⟨rfl, rfl⟩
        go_wp2
        go_ret
        exact ⟨L - 1, rfl, HC1.out, hide (fun h => by cases h)⟩
      have d2 : decide (g < 0) = false := decide_eq_false qG
      go_enter Tryz.func16, Tryz.ntmps16
      go_wp2_with fail
      refine (HIS.out _).mono ?_
      rintro e _ ⟨rfl, rfl⟩
      go_wp2_with fail
      refine (HMF.out _ (HC1.out.below HB0.out hbb)).mono ?_
      rintro e w2 ⟨rfl, hb2⟩
      have k0 : w2.cell? ⟨w.heap.size, 0, none⟩ = some (.int .i64 k) := cell_later hb2 c0
      have k1 : w2.cell? ⟨w.heap.size, 1, none⟩ = some (.string ch) := cell_later hb2 c1
      have k2 : w2.cell? ⟨w.heap.size, 2, none⟩ = some (.bool nt) := cell_later hb2 c2
      have k3 : w2.cell? ⟨w.heap.size, 3, none⟩ = some (.slice RA rl rc) := cell_later hb2 c3
      have k4 : w2.cell? ⟨w.heap.size, 4, none⟩ = some (.int .i64 mi) := cell_later hb2 c4
      have k5 : w2.cell? ⟨w.heap.size, 5, none⟩ = some (.int .i64 ma) := cell_later hb2 c5
      have k6 : w2.cell? ⟨w.heap.size, 6, none⟩ = some (.bool lz) := cell_later hb2 c6
      have k7 : w2.cell? ⟨w.heap.size, 7, none⟩ = some (.slice A kids.length c) := cell_later hb2 c7
      have HC2 := hide (HC1.out.bl hb2)
      clear hb2 c0 c1 c2 c3 c4 c5 c6 c7 cb
      cases mf with
      | false =>
        obtain rfl : r = false := HNO.out (fun _ _ h => by have := HOK.out; rw [h] at this; cases this)
        clear HNO HYES
        go_wp2
        go_ret
        exact ⟨L - 1, rfl, HC2.out, hide (fun h => by cases h)⟩
      | true =>
        go_wp2_with fail
        refine (HMK.out _ (HC2.out.below HB0.out hbb)).mono ?_
        rintro e w3 ⟨rfl, hb3⟩
        have m7 : w3.cell? ⟨w.heap.size, 7, none⟩ = some (.slice A kids.length c) := cell_later hb3 k7
        have HC3 := hide (HC2.out.bl hb3)
        clear hb3 k0 k1 k2 k3 k4 k5 k6 k7
        cases mk with
        | false =>
          obtain rfl : r = false := HNO.out (fun _ _ h => by have := HOK.out; rw [h] at this; cases this)
          clear HNO HYES
          go_wp2
          go_ret
          exact ⟨L - 1, rfl, HC3.out, hide (fun h => by cases h)⟩
        | true =>
          have HOK2 := hide (show ok = okL kids from by have := HOK.out; simpa using this)
          have HGG := hide (show 0 ≤ g ∧ g ≤ 1000 ∧ (dt : Int) = dL kids + (g - g) from ⟨by omega, by omega, by have := HDM.out; omega⟩)
          have HL := hide (show 0 ≤ L - 1 ∧ L - 1 ≤ 100000 by omega)
          clear d1 d2 qL qG e1 HOK HMF HMK HIS HDM hn1
          go_wp2
          go_loopw [40] (fun i wr => ∃ (k : Nat) (L1 : Int), i = .int .i64 k ∧ k ≤ kids.length ∧ Hid (0 ≤ L1 ∧ L1 ≤ 100000) ∧ Hid (L1 + 1 + pL (kids.take k) = L) ∧ Hid (okL (kids.take k) = true ∧ (dL (kids.take k) : Int) ≤ g) ∧ Hid (Cnt w wr b L1)) (fun i _ => kids.length - (intOf i).toNat)
          case atStart => exact ⟨0, L - 1, rfl, Nat.zero_le _, HL, hide (by simp [pL]), hide ⟨by simp [okL], by have := HGG.out; simp [dL]; omega⟩, HC3⟩
          case round =>
            obtain ⟨k, L1, rfl, hk, HLL, HJ, HD, HCN⟩ := hrel
            clear m7 HC3 HC2
            by_cases hlt : k < kids.length
            case neg =>
              obtain rfl : k = kids.length := by omega
              have gl : decide ((kids.length : Int) < (kids.length : Int)) = false := by simp
              have gl' : decide (kids.length < kids.length) = false := by simp
              have hj := HJ.out
              have hd := HD.out
              rw [List.take_length] at hj hd
              obtain rfl : r = true := HYES.out (by have := HPM.out; have := HLL.out; omega) (by have := HGG.out; omega) (HOK2.out.trans hd.1)
              have HE := hide (show L1 = L - (pt : Int) by have := HPM.out; omega)
              clear hj hd hlt HYES HNO
              go_wp2
              go_ret
              first
                | exact ⟨L1, rfl, HCN.out, hide (fun _ => HE.out)⟩
                | exact ⟨rfl, L1, HCN.out, hide (fun _ => HE.out)⟩
                | exact ⟨rfl, L1, HCN.out, HE⟩
            have HBW := hide (HCN.out.below HB0.out hbb)
            obtain ⟨b1, o1, c1, hv1, hc1, hm1, hlb1, hcell⟩ := ksat_8 (ksat_below HK.out HBW.out) (by omega)
            injection hv1 with hv1 _ hv1c
            subst hv1 hv1c
            unfold maxLen at hm1
            obtain ⟨x0, x1, x2, x3, x4, x5, x6, x7⟩ := hcell k hlt
            obtain ⟨h2, he⟩ := HIH2.out k hlt
            have HC := fun W hb hbc hbf r2 hr2 => HIH.out k h2 (g) L1 HGG.out.1 HGG.out.2.1 HLL.out.1 HLL.out.2 W hb hbc hbf r2 hr2
            have hrx := HRX.out.kid k h2
            rw [he] at HC hrx
            have hsn := pL_snoc kids k hlt
            have hup := pL_upto kids k hlt
            have hsd := dL_snoc kids k hlt
            have hso := okL_snoc kids k hlt
            have hkd := dL_kid kids k hlt
            have hko := okL_kid kids k hlt
            clear hcell he h2
            obtain ⟨d, hd⟩ : ∃ d, kids[k] = d := ⟨_, rfl⟩
            rw [hd] at x0 x1 x2 x3 x4 x5 x6 x7 HC hsn hup hsd hso hkd hko hrx
            obtain ⟨rA, rc2, hrv⟩ := rwat_len hrx.rows
            obtain ⟨kA, kc, hkv⟩ := ksat_len hrx.ks
            rw [hrv] at x3
            rw [hkv] at x7
            obtain ⟨rk, hrk⟩ : ∃ x, cnB d (g) L1 = x := ⟨_, rfl⟩
            have HRN := hide (show rk = false → r = false from fun h => HNO.out (fun h1 h2 h3 => by
              have := cnB_of (t := d) (g := g) (L := L1) (by have := HPM.out; have := HJ.out; omega) (by have := HGG.out; omega) (hko (HOK2.out.symm.trans h3))
              rw [hrk, h] at this
              cases this))
            have HRY := hide (show rk = true → (0 ≤ L1 - (pM d : Int) ∧ L1 - (pM d : Int) ≤ 100000) ∧ L1 - (pM d : Int) + 1 + pL (kids.take (k + 1)) = L ∧ okL (kids.take (k + 1)) = true ∧ (dL (kids.take (k + 1)) : Int) ≤ g from fun h => by
              rw [h] at hrk
              obtain ⟨h1, h2, h3⟩ := cnB_to hrk
              have := HJ.out
              have := HD.out
              have := HLL.out
              refine ⟨by omega, by omega, ?_, by omega⟩
              rw [hso, h3, HD.out.1]; rfl)
            have HC2 := hide (fun W hb hbc hbf => HC W hb hbc hbf rk hrk)
            unfold Rt.v Rt.cs McPost at HC2
            rw [hrv, hkv] at HC2
            generalize pM d = pd at *
            have gl : decide ((k : Int) < (kids.length : Int)) = true := decide_eq_true (by omega)
            have gl' : decide (k < kids.length) = true := decide_eq_true hlt
            have e5 : IntKind.i64.wrap ((k : Int) + 1) = (k : Int) + 1 := by rw [IntKind.wrap_i64]; omega
            have i1 : (0 : Int) ≤ (k : Int) := by omega
            have i2 : (k : Int) < (kids.length : Int) := by omega
            have HK1 := hide (show k + 1 ≤ kids.length by omega)
            clear hd hsn hup hsd hso hkd hko HC hrx hrv hkv hrk HNO HYES
            have hba := bl_alloc (bl_refl wr) (.cells #[.int .i64 d.k, .string d.ch, .bool d.nt, .slice rA d.rows.length rc2, .int .i64 d.mi, .int .i64 d.ma, .bool d.lz, .slice kA d.kids.length kc] 25)
            have HCA := hide (HCN.out.bl hba)
            have HBA2 := hide (bl_trans HBW.out hba)
            clear hba
            go_wp2_with fail
            refine (HC2.out _ HBA2.out HCA.out.pos ((HCA.out.froz 0).trans HFB.out)).mono ?_
            rintro e w2 ⟨L2, rfl, hcn2, hl2⟩
            have HCZ := hide (HCA.out.trans hcn2)
            have HL2 := hide hl2
            clear hcn2 hl2 x0 x1 x2 x3 x4 x5 x6 x7
            cases rk with
            | false =>
              obtain rfl : r = false := HRN.out rfl
              go_wp2
              go_ret
              exact ⟨L2, rfl, HCZ.out, hide (fun h => by cases h)⟩
            | true =>
              obtain ⟨h1, h3, h4⟩ := HRY.out rfl
              have h5 := HL2.out rfl
              rw [h5] at HCZ
              have H1 := hide h1
              have H3 := hide h3
              have H4 := hide h4
              clear h1 h3 h4 h5 HRY HRN
              go_wp2
              refine ⟨?_, by first | (simp [intOf]; done) | (simp [intOf]; omega)⟩
              first
                | exact ⟨k + 1, _, by go_num, HK1.out, H1, H3, H4, HCZ⟩
                | ((repeat apply Exists.intro); exact ⟨⟨k + 1, _, by go_num, HK1.out, H1, H3, H4, HCZ⟩, rfl⟩)
    · have e2 : IntKind.i64.wrap (g - 1) = g - 1 := by rw [IntKind.wrap_i64]; omega
      by_cases qL : L = 0
      case pos =>
        have d1 : decide (L - 1 < 0) = true := decide_eq_true (by omega)
        obtain rfl : r = false := HNO.out (fun h _ _ => by have := HPM.out; omega)
        clear qL HNO HYES
        go_enter Tryz.func16, Tryz.ntmps16
        go_wp2_with fail
        refine (HIS.out _).mono ?_
        rintro e _ ⟨rfl, rfl⟩
        go_wp2
        go_ret
        exact ⟨L - 1, rfl, HC1.out, hide (fun h => by cases h)⟩
      have d1 : decide (L - 1 < 0) = false := decide_eq_false (by omega)
      by_cases qG : (g - 1) < 0
      case pos =>
        have d2 : decide ((g - 1) < 0) = true := decide_eq_true qG
        obtain rfl : r = false := HNO.out (fun _ h _ => by have := HDM.out; omega)
        clear qL qG HNO HYES
        go_enter Tryz.func16, Tryz.ntmps16
        go_wp2_with fail
        refine (HIS.out _).mono ?_
        rintro e _ ⟨rfl, rfl⟩
        go_wp2
        go_ret
        exact ⟨L - 1, rfl, HC1.out, hide (fun h => by cases h)⟩
      have d2 : decide ((g - 1) < 0) = false := decide_eq_false qG
      go_enter Tryz.func16, Tryz.ntmps16
      go_wp2_with fail
      refine (HIS.out _).mono ?_
      rintro e _ ⟨rfl, rfl⟩
      go_wp2_with fail
      refine (HMF.out _ (HC1.out.below HB0.out hbb)).mono ?_
      rintro e w2 ⟨rfl, hb2⟩
      have k0 : w2.cell? ⟨w.heap.size, 0, none⟩ = some (.int .i64 k) := cell_later hb2 c0
      have k1 : w2.cell? ⟨w.heap.size, 1, none⟩ = some (.string ch) := cell_later hb2 c1
      have k2 : w2.cell? ⟨w.heap.size, 2, none⟩ = some (.bool nt) := cell_later hb2 c2
      have k3 : w2.cell? ⟨w.heap.size, 3, none⟩ = some (.slice RA rl rc) := cell_later hb2 c3
      have k4 : w2.cell? ⟨w.heap.size, 4, none⟩ = some (.int .i64 mi) := cell_later hb2 c4
      have k5 : w2.cell? ⟨w.heap.size, 5, none⟩ = some (.int .i64 ma) := cell_later hb2 c5
      have k6 : w2.cell? ⟨w.heap.size, 6, none⟩ = some (.bool lz) := cell_later hb2 c6
      have k7 : w2.cell? ⟨w.heap.size, 7, none⟩ = some (.slice A kids.length c) := cell_later hb2 c7
      have HC2 := hide (HC1.out.bl hb2)
      clear hb2 c0 c1 c2 c3 c4 c5 c6 c7 cb
      cases mf with
      | false =>
        obtain rfl : r = false := HNO.out (fun _ _ h => by have := HOK.out; rw [h] at this; cases this)
        clear HNO HYES
        go_wp2
        go_ret
        exact ⟨L - 1, rfl, HC2.out, hide (fun h => by cases h)⟩
      | true =>
        go_wp2_with fail
        refine (HMK.out _ (HC2.out.below HB0.out hbb)).mono ?_
        rintro e w3 ⟨rfl, hb3⟩
        have m7 : w3.cell? ⟨w.heap.size, 7, none⟩ = some (.slice A kids.length c) := cell_later hb3 k7
        have HC3 := hide (HC2.out.bl hb3)
        clear hb3 k0 k1 k2 k3 k4 k5 k6 k7
        cases mk with
        | false =>
          obtain rfl : r = false := HNO.out (fun _ _ h => by have := HOK.out; rw [h] at this; cases this)
          clear HNO HYES
          go_wp2
          go_ret
          exact ⟨L - 1, rfl, HC3.out, hide (fun h => by cases h)⟩
        | true =>
          have HOK2 := hide (show ok = okL kids from by have := HOK.out; simpa using this)
          have HGG := hide (show 0 ≤ (g - 1) ∧ (g - 1) ≤ 1000 ∧ (dt : Int) = dL kids + (g - (g - 1)) from ⟨by omega, by omega, by have := HDM.out; omega⟩)
          have HL := hide (show 0 ≤ L - 1 ∧ L - 1 ≤ 100000 by omega)
          clear d1 d2 qL qG e1 HOK HMF HMK HIS HDM hn1
          go_wp2
          go_loopw [40] (fun i wr => ∃ (k : Nat) (L1 : Int), i = .int .i64 k ∧ k ≤ kids.length ∧ Hid (0 ≤ L1 ∧ L1 ≤ 100000) ∧ Hid (L1 + 1 + pL (kids.take k) = L) ∧ Hid (okL (kids.take k) = true ∧ (dL (kids.take k) : Int) ≤ (g - 1)) ∧ Hid (Cnt w wr b L1)) (fun i _ => kids.length - (intOf i).toNat)
          case atStart => exact ⟨0, L - 1, rfl, Nat.zero_le _, HL, hide (by simp [pL]), hide ⟨by simp [okL], by have := HGG.out; simp [dL]; omega⟩, HC3⟩
          case round =>
            obtain ⟨k, L1, rfl, hk, HLL, HJ, HD, HCN⟩ := hrel
            clear m7 HC3 HC2
            by_cases hlt : k < kids.length
            case neg =>
              obtain rfl : k = kids.length := by omega
              have gl : decide ((kids.length : Int) < (kids.length : Int)) = false := by simp
              have gl' : decide (kids.length < kids.length) = false := by simp
              have hj := HJ.out
              have hd := HD.out
              rw [List.take_length] at hj hd
              obtain rfl : r = true := HYES.out (by have := HPM.out; have := HLL.out; omega) (by have := HGG.out; omega) (HOK2.out.trans hd.1)
              have HE := hide (show L1 = L - (pt : Int) by have := HPM.out; omega)
              clear hj hd hlt HYES HNO
              go_wp2
              go_ret
              first
                | exact ⟨L1, rfl, HCN.out, hide (fun _ => HE.out)⟩
                | exact ⟨rfl, L1, HCN.out, hide (fun _ => HE.out)⟩
                | exact ⟨rfl, L1, HCN.out, HE⟩
            have HBW := hide (HCN.out.below HB0.out hbb)
            obtain ⟨b1, o1, c1, hv1, hc1, hm1, hlb1, hcell⟩ := ksat_8 (ksat_below HK.out HBW.out) (by omega)
            injection hv1 with hv1 _ hv1c
            subst hv1 hv1c
            unfold maxLen at hm1
            obtain ⟨x0, x1, x2, x3, x4, x5, x6, x7⟩ := hcell k hlt
            obtain ⟨h2, he⟩ := HIH2.out k hlt
            have HC := fun W hb hbc hbf r2 hr2 => HIH.out k h2 ((g - 1)) L1 HGG.out.1 HGG.out.2.1 HLL.out.1 HLL.out.2 W hb hbc hbf r2 hr2
            have hrx := HRX.out.kid k h2
            rw [he] at HC hrx
            have hsn := pL_snoc kids k hlt
            have hup := pL_upto kids k hlt
            have hsd := dL_snoc kids k hlt
            have hso := okL_snoc kids k hlt
            have hkd := dL_kid kids k hlt
            have hko := okL_kid kids k hlt
            clear hcell he h2
            obtain ⟨d, hd⟩ : ∃ d, kids[k] = d := ⟨_, rfl⟩
            rw [hd] at x0 x1 x2 x3 x4 x5 x6 x7 HC hsn hup hsd hso hkd hko hrx
            obtain ⟨rA, rc2, hrv⟩ := rwat_len hrx.rows
            obtain ⟨kA, kc, hkv⟩ := ksat_len hrx.ks
            rw [hrv] at x3
            rw [hkv] at x7
            obtain ⟨rk, hrk⟩ : ∃ x, cnB d ((g - 1)) L1 = x := ⟨_, rfl⟩
            have HRN := hide (show rk = false → r = false from fun h => HNO.out (fun h1 h2 h3 => by
              have := cnB_of (t := d) (g := (g - 1)) (L := L1) (by have := HPM.out; have := HJ.out; omega) (by have := HGG.out; omega) (hko (HOK2.out.symm.trans h3))
              rw [hrk, h] at this
              cases this))
            have HRY := hide (show rk = true → (0 ≤ L1 - (pM d : Int) ∧ L1 - (pM d : Int) ≤ 100000) ∧ L1 - (pM d : Int) + 1 + pL (kids.take (k + 1)) = L ∧ okL (kids.take (k + 1)) = true ∧ (dL (kids.take (k + 1)) : Int) ≤ (g - 1) from fun h => by
              rw [h] at hrk
              obtain ⟨h1, h2, h3⟩ := cnB_to hrk
              have := HJ.out
              have := HD.out
              have := HLL.out
              refine ⟨by omega, by omega, ?_, by omega⟩
              rw [hso, h3, HD.out.1]; rfl)
            have HC2 := hide (fun W hb hbc hbf => HC W hb hbc hbf rk hrk)
            unfold Rt.v Rt.cs McPost at HC2
            rw [hrv, hkv] at HC2
            generalize pM d = pd at *
            have gl : decide ((k : Int) < (kids.length : Int)) = true := decide_eq_true (by omega)
            have gl' : decide (k < kids.length) = true := decide_eq_true hlt
            have e5 : IntKind.i64.wrap ((k : Int) + 1) = (k : Int) + 1 := by rw [IntKind.wrap_i64]; omega
            have i1 : (0 : Int) ≤ (k : Int) := by omega
            have i2 : (k : Int) < (kids.length : Int) := by omega
            have HK1 := hide (show k + 1 ≤ kids.length by omega)
            clear hd hsn hup hsd hso hkd hko HC hrx hrv hkv hrk HNO HYES
            have hba := bl_alloc (bl_refl wr) (.cells #[.int .i64 d.k, .string d.ch, .bool d.nt, .slice rA d.rows.length rc2, .int .i64 d.mi, .int .i64 d.ma, .bool d.lz, .slice kA d.kids.length kc] 25)
            have HCA := hide (HCN.out.bl hba)
            have HBA2 := hide (bl_trans HBW.out hba)
            clear hba
            go_wp2_with fail
            refine (HC2.out _ HBA2.out HCA.out.pos ((HCA.out.froz 0).trans HFB.out)).mono ?_
            rintro e w2 ⟨L2, rfl, hcn2, hl2⟩
            have HCZ := hide (HCA.out.trans hcn2)
            have HL2 := hide hl2
            clear hcn2 hl2 x0 x1 x2 x3 x4 x5 x6 x7
            cases rk with
            | false =>
              obtain rfl : r = false := HRN.out rfl
              go_wp2
              go_ret
              exact ⟨L2, rfl, HCZ.out, hide (fun h => by cases h)⟩
            | true =>
              obtain ⟨h1, h3, h4⟩ := HRY.out rfl
              have h5 := HL2.out rfl
              rw [h5] at HCZ
              have H1 := hide h1
              have H3 := hide h3
              have H4 := hide h4
              clear h1 h3 h4 h5 HRY HRN
              go_wp2
              refine ⟨?_, by first | (simp [intOf]; done) | (simp [intOf]; omega)⟩
              first
                | exact ⟨k + 1, _, by go_num, HK1.out, H1, H3, H4, HCZ⟩
                | ((repeat apply Exists.intro); exact ⟨⟨k + 1, _, by go_num, HK1.out, H1, H3, H4, HCZ⟩, rfl⟩)
set_option maxHeartbeats 4000000 in
theorem rxmay_any {w0 : World} {t : Rt} (h : RxAt w0 t) (hz : sM t ≤ 100000) (w : World) (hb0 : Below w0.heap.size w0 w) : Calls Tryz.prog 7 #[t.v] w (SmPost (cnB t 16 512) w) := by
  obtain ⟨A, c, hkv⟩ := ksat_len h.ks
  obtain ⟨RA, rc, hrv⟩ := rwat_len h.rows
  obtain ⟨r, hr⟩ : ∃ r, cnB t 16 512 = r := ⟨_, rfl⟩
  have HC := hide (fun b W hb hbb hcb hfb => maycnt_any h hz 16 512 (by decide) (by decide) (by decide) (by decide) b W hb hbb hcb hfb r hr)
  have hv : t.v = .agg #[.int .i64 t.k, .string t.ch, .bool t.nt, .slice RA t.rows.length rc, .int .i64 t.mi, .int .i64 t.ma, .bool t.lz, .slice A t.kids.length c] := by unfold Rt.v Rt.cs; rw [hkv, hrv]
  unfold SmPost
  unfold McPost at HC
  rw [hv] at HC ⊢
  rw [hr]
  have HB0 := hide hb0
  have HS := hide hb0.size
  clear h hkv hrv hv hb0 hr hz
  generalize t.kids.length = kl at *
  generalize t.rows.length = rl at *
  generalize t.k = k at *
  generalize t.ch = ch at *
  generalize t.nt = nt at *
  generalize t.mi = mi at *
  generalize t.ma = ma at *
  generalize t.lz = lz at *
  have HBA := hide (fun o1 o2 => bl_alloc (bl_alloc (bl_refl w) o1) o2)
  go_enter Tryz.func7, Tryz.ntmps7
  go_wp2_with fail
  refine (HC.out _ _ (bl_trans HB0.out (HBA.out _ _)) (by have := HS.out; first | omega | (simp; omega)) (by first | (go_simp; done) | simp) (by first | (go_simp; done) | simp)).mono ?_
  rintro e w2 ⟨L2, rfl, hcn, _⟩
  have HB2 := hide (hcn.below (HBA.out _ _) (by first | omega | simp))
  clear hcn
  go_wp2
  go_ret
  exact ⟨rfl, HB2.out⟩
end Go.Proofs.YtcnliipkfccohabGreat
end
section
namespace Go.Proofs.YtcnliipkfccohabGreat
open Go.ChangeShapes Go.WideShapes Go.ChangeAt Go.RowKit
open SetM
attribute [local go_sem ↓] Go.wp_at_zero Go.wp_at_succ
set_option maxRecDepth 100000
set_option linter.unusedVariables false
def SqfPost (x : Rt) (w : World) : Ending → World → Prop := fun e w' => ∃ t', e = .returned t'.v ∧ Below w.heap.size w w' ∧ RxAt w' t' ∧ er t' = x ∧ Fr w.heap.size t'
theorem frv_nil (n : Nat) : FrV n (.slice none 0 0) := fun x len c e => by cases e
set_option maxHeartbeats 16000000 in
theorem seqf_any (v : Value) (l : List Rt) (w : World) (h : KsAt w v l) (hx : ∀ i (hi : i < l.length), RxAt w l[i]) (hz : sL l ≤ 100000) :
    Calls Tryz.prog 6 #[v] w (SqfPost (seqX (flK 0 l)) w) := by
  obtain ⟨vA, vc, rfl⟩ := ksat_len h
  have HC := hide (fun o => flatten_any 0 _ l (w.alloc o) (ksat_below h (bl_alloc (bl_refl w) o)) (fun i hi => rx_below (hx i hi) (bl_alloc (bl_refl w) o)) hz)
  unfold SqfPost
  unfold FpPost at HC
  clear h hx hz
  go_enter Tryz.func6, Tryz.ntmps6
  go_wp2_with fail
  refine (HC.out _).mono ?_
  rintro e w2 ⟨v', L, rfl, hb2, hks, hfv, hrl, hfl, hel⟩
  obtain ⟨A, c, rfl⟩ := ksat_len hks
  have z0 : w2.cell? ⟨w.heap.size, 0, none⟩ = some (.int .i64 0) := cell_later hb2 (cells_lit w _ _ 0 _ rfl)
  have z1 : w2.cell? ⟨w.heap.size, 1, none⟩ = some (.string ⟨#[]⟩) := cell_later hb2 (cells_lit w _ _ 1 _ rfl)
  have z2 : w2.cell? ⟨w.heap.size, 2, none⟩ = some (.bool false) := cell_later hb2 (cells_lit w _ _ 2 _ rfl)
  have z3 : w2.cell? ⟨w.heap.size, 3, none⟩ = some (.slice none 0 0) := cell_later hb2 (cells_lit w _ _ 3 _ rfl)
  have z4 : w2.cell? ⟨w.heap.size, 4, none⟩ = some (.int .i64 0) := cell_later hb2 (cells_lit w _ _ 4 _ rfl)
  have z5 : w2.cell? ⟨w.heap.size, 5, none⟩ = some (.int .i64 0) := cell_later hb2 (cells_lit w _ _ 5 _ rfl)
  have z6 : w2.cell? ⟨w.heap.size, 6, none⟩ = some (.bool false) := cell_later hb2 (cells_lit w _ _ 6 _ rfl)
  have z7 : w2.cell? ⟨w.heap.size, 7, none⟩ = some (.slice none 0 0) := cell_later hb2 (cells_lit w _ _ 7 _ rfl)
  have hf1 : ∀ o, w2.frozen? ⟨w.heap.size, o, none⟩ = false := fun o => (hb2.frozen (p := ⟨w.heap.size, o, none⟩) (by simp)).trans (by go_simp)
  have HB2 := hide (bl_trans (bl_alloc (bl_refl w) _) hb2)
  have hn : w.heap.size + 1 ≤ (w.alloc (.cells #[.int .i64 0, .string ⟨#[]⟩, .bool false, .slice none 0 0, .int .i64 0, .int .i64 0, .bool false, .slice none 0 0] 25)).heap.size := by simp
  have HKS := hide hks
  have HFV := hide (hfv.mono hn)
  have HRL := hide hrl
  have HFL := hide (fun x hx => (hfl x hx).mono hn)
  have HEL := hide hel
  have hsz : w.heap.size < w2.heap.size := by have := hb2.size; simp at this; omega
  have hlen : L.length = (flK 0 l).length := by rw [← hel, List.length_map]
  clear hb2 hks hfv hrl hfl hel hn
  by_cases hl1 : L.length = 1
  · have g1 : ((L.length : Int) == 1) = true := beq_iff_eq.2 (by omega)
    have HX := hide (show seqX (flK 0 l) = (flK 0 l).headD (kdX 0 []) from if_pos (by omega))
    obtain ⟨b1, o1, c1', hv1, hc1, hm1, hlb1, hcell1⟩ := ksat_8 HKS.out (by omega)
    injection hv1 with hv1 _ hv1c
    subst hv1 hv1c
    unfold maxLen at hm1
    obtain ⟨q0, q1, q2, q3, q4, q5, q6, q7⟩ := hcell1 0 (by omega)
    have hmem : L[0] ∈ L := List.getElem_mem _
    have hxp := HRL.out _ hmem
    have hfp := HFL.out _ hmem
    have hE : er L[0] = (flK 0 l).headD (kdX 0 []) := by
      have := HEL.out
      rw [← this]
      cases L with
      | nil => simp at hl1
      | cons a r => rfl
    obtain ⟨p, hp⟩ : ∃ p, L[0] = p := ⟨_, rfl⟩
    rw [hp] at q0 q1 q2 q3 q4 q5 q6 q7 hxp hfp hE
    obtain ⟨pA, pc, hprv⟩ := rwat_len hxp.rows
    obtain ⟨pB, pd, hpkv⟩ := ksat_len hxp.ks
    have hv : p.v = .agg #[.int .i64 p.k, .string p.ch, .bool p.nt, .slice pA p.rows.length pc, .int .i64 p.mi, .int .i64 p.ma, .bool p.lz, .slice pB p.kids.length pd] := by unfold Rt.v Rt.cs; rw [hprv, hpkv]
    rw [hprv] at q3
    rw [hpkv] at q7
    simp only [Nat.zero_mul, Nat.add_zero] at q0 q1 q2 q3 q4 q5 q6 q7
    have HXP := hide hxp
    have HFP := hide hfp
    have HE := hide hE
    have HV := hide hv
    have i2 : (0 : Int) < (L.length : Int) := by omega
    clear hxp hfp hE hprv hpkv hp hmem hcell1 hv hlen
    go_wp2
    refine bodyPost_ret (v := .agg #[.int .i64 p.k, .string p.ch, .bool p.nt, .slice pA p.rows.length pc, .int .i64 p.mi, .int .i64 p.ma, .bool p.lz, .slice pB p.kids.length pd]) ?_ rfl ⟨p, by rw [HV.out], ?_, ?_, ?_, ?_⟩
    · rw [results_cell1 rfl]
      go_simp
    · exact bl8 HB2.out (Nat.le_refl _) _ _ _ _ _ _ _ _ _ _ _ _ _ _ _ _
    · exact rx_kept HXP.out HFP.out (kept8 _ (Nat.lt_succ_self _) _ _ _ _ _ _ _ _ _ _ _ _ _ _ _ _)
    · rw [HE.out, HX.out]
    · exact HFP.out.mono (Nat.le_succ _)
  · have g1 : ((L.length : Int) == 1) = false := beq_eq_false_iff_ne.2 (by omega)
    have HX := hide (show seqX (flK 0 l) = kdX 0 (flK 0 l) from if_neg (by omega))
    clear hlen
    go_wp2
    refine bodyPost_ret (v := .agg #[.int .i64 0, .string ⟨#[]⟩, .bool false, .slice none 0 0, .int .i64 0, .int .i64 0, .bool false, .slice A L.length c]) ?_ rfl ⟨Rt.mk 0 ⟨#[]⟩ false (.slice none 0 0) [] 0 0 false (.slice A L.length c) L, rfl, ?_, ?_, ?_, ?_⟩
    · rw [results_cell1 rfl]
      go_simp
    · exact bl8 HB2.out (Nat.le_refl _) _ _ _ _ _ _ _ _ _ _ _ _ _ _ _ _
    · exact .mk _ (.inl ⟨rfl, rfl⟩) (ksat_kept HKS.out HFV.out (kept8 _ (Nat.lt_succ_self _) _ _ _ _ _ _ _ _ _ _ _ _ _ _ _ _)) (fun i hi => rx_kept (HRL.out _ (List.getElem_mem hi)) (HFL.out _ (List.getElem_mem hi)) (kept8 _ (Nat.lt_succ_self _) _ _ _ _ _ _ _ _ _ _ _ _ _ _ _ _))
    · rw [HX.out, er_eq]
      show kdX 0 (L.map er) = _
      rw [HEL.out]
    · exact .mk _ (frv_nil _) (HFV.out.mono (Nat.le_succ _)) (fun x hx => (HFL.out x hx).mono (Nat.le_succ _))
set_option maxHeartbeats 16000000 in
theorem altf_any (v : Value) (l : List Rt) (w : World) (h : KsAt w v l) (hx : ∀ i (hi : i < l.length), RxAt w l[i]) (hz : sL l ≤ 100000) :
    Calls Tryz.prog 23 #[v] w (SqfPost (altX (flK 1 l)) w) := by
  obtain ⟨vA, vc, rfl⟩ := ksat_len h
  have HC := hide (fun o => flatten_any 1 _ l (w.alloc o) (ksat_below h (bl_alloc (bl_refl w) o)) (fun i hi => rx_below (hx i hi) (bl_alloc (bl_refl w) o)) hz)
  unfold SqfPost
  unfold FpPost at HC
  clear h hx hz
  go_enter Tryz.func23, Tryz.ntmps23
  go_wp2_with fail
  refine (HC.out _).mono ?_
  rintro e w2 ⟨v', L, rfl, hb2, hks, hfv, hrl, hfl, hel⟩
  obtain ⟨A, c, rfl⟩ := ksat_len hks
  have z0 : w2.cell? ⟨w.heap.size, 0, none⟩ = some (.int .i64 0) := cell_later hb2 (cells_lit w _ _ 0 _ rfl)
  have z1 : w2.cell? ⟨w.heap.size, 1, none⟩ = some (.string ⟨#[]⟩) := cell_later hb2 (cells_lit w _ _ 1 _ rfl)
  have z2 : w2.cell? ⟨w.heap.size, 2, none⟩ = some (.bool false) := cell_later hb2 (cells_lit w _ _ 2 _ rfl)
  have z3 : w2.cell? ⟨w.heap.size, 3, none⟩ = some (.slice none 0 0) := cell_later hb2 (cells_lit w _ _ 3 _ rfl)
  have z4 : w2.cell? ⟨w.heap.size, 4, none⟩ = some (.int .i64 0) := cell_later hb2 (cells_lit w _ _ 4 _ rfl)
  have z5 : w2.cell? ⟨w.heap.size, 5, none⟩ = some (.int .i64 0) := cell_later hb2 (cells_lit w _ _ 5 _ rfl)
  have z6 : w2.cell? ⟨w.heap.size, 6, none⟩ = some (.bool false) := cell_later hb2 (cells_lit w _ _ 6 _ rfl)
  have z7 : w2.cell? ⟨w.heap.size, 7, none⟩ = some (.slice none 0 0) := cell_later hb2 (cells_lit w _ _ 7 _ rfl)
  have hf1 : ∀ o, w2.frozen? ⟨w.heap.size, o, none⟩ = false := fun o => (hb2.frozen (p := ⟨w.heap.size, o, none⟩) (by simp)).trans (by go_simp)
  have HB2 := hide (bl_trans (bl_alloc (bl_refl w) _) hb2)
  have hn : w.heap.size + 1 ≤ (w.alloc (.cells #[.int .i64 0, .string ⟨#[]⟩, .bool false, .slice none 0 0, .int .i64 0, .int .i64 0, .bool false, .slice none 0 0] 25)).heap.size := by simp
  have HKS := hide hks
  have HFV := hide (hfv.mono hn)
  have HRL := hide hrl
  have HFL := hide (fun x hx => (hfl x hx).mono hn)
  have HEL := hide hel
  have hsz : w.heap.size < w2.heap.size := by have := hb2.size; simp at this; omega
  have hlen : L.length = (flK 1 l).length := by rw [← hel, List.length_map]
  clear hb2 hks hfv hrl hfl hel hn
  by_cases hl0 : L.length = 0
  · have g0 : ((L.length : Int) == 0) = true := beq_iff_eq.2 (by omega)
    have HX := hide (show altX (flK 1 l) = kdX 0 [] from if_pos (by omega))
    clear hlen
    go_wp2
    refine bodyPost_ret (v := .agg #[.int .i64 0, .string ⟨#[]⟩, .bool false, .slice none 0 0, .int .i64 0, .int .i64 0, .bool false, .slice none 0 0]) ?_ rfl ⟨Rt.mk 0 ⟨#[]⟩ false (.slice none 0 0) [] 0 0 false (.slice none 0 0) [], rfl, ?_, ?_, ?_, ?_⟩
    · rw [results_cell1 rfl]
      go_simp
    · exact bl8 HB2.out (Nat.le_refl _) _ _ _ _ _ _ _ _ _ _ _ _ _ _ _ _
    · exact .mk _ (.inl ⟨rfl, rfl⟩) (.inl ⟨rfl, rfl⟩) (fun i hi => absurd hi (Nat.not_lt_zero _))
    · rw [HX.out, er_eq]; rfl
    · exact .mk _ (frv_nil _) (frv_nil _) (fun x hx => by cases hx)
  have g0 : ((L.length : Int) == 0) = false := beq_eq_false_iff_ne.2 (by omega)
  by_cases hl1 : L.length = 1
  · have g1 : ((L.length : Int) == 1) = true := beq_iff_eq.2 (by omega)
    have HX := hide (show altX (flK 1 l) = (flK 1 l).headD (kdX 0 []) from (if_neg (by omega)).trans (if_pos (by omega)))
    obtain ⟨b1, o1, c1', hv1, hc1, hm1, hlb1, hcell1⟩ := ksat_8 HKS.out (by omega)
    injection hv1 with hv1 _ hv1c
    subst hv1 hv1c
    unfold maxLen at hm1
    obtain ⟨q0, q1, q2, q3, q4, q5, q6, q7⟩ := hcell1 0 (by omega)
    have hmem : L[0] ∈ L := List.getElem_mem _
    have hxp := HRL.out _ hmem
    have hfp := HFL.out _ hmem
    have hE : er L[0] = (flK 1 l).headD (kdX 0 []) := by
      have := HEL.out
      rw [← this]
      cases L with
      | nil => simp at hl1
      | cons a r => rfl
    obtain ⟨p, hp⟩ : ∃ p, L[0] = p := ⟨_, rfl⟩
    rw [hp] at q0 q1 q2 q3 q4 q5 q6 q7 hxp hfp hE
    obtain ⟨pA, pc, hprv⟩ := rwat_len hxp.rows
    obtain ⟨pB, pd, hpkv⟩ := ksat_len hxp.ks
    have hv : p.v = .agg #[.int .i64 p.k, .string p.ch, .bool p.nt, .slice pA p.rows.length pc, .int .i64 p.mi, .int .i64 p.ma, .bool p.lz, .slice pB p.kids.length pd] := by unfold Rt.v Rt.cs; rw [hprv, hpkv]
    rw [hprv] at q3
    rw [hpkv] at q7
    simp only [Nat.zero_mul, Nat.add_zero] at q0 q1 q2 q3 q4 q5 q6 q7
    have HXP := hide hxp
    have HFP := hide hfp
    have HE := hide hE
    have HV := hide hv
    have i2 : (0 : Int) < (L.length : Int) := by omega
    clear hxp hfp hE hprv hpkv hp hmem hcell1 hv hlen
    go_wp2
    refine bodyPost_ret (v := .agg #[.int .i64 p.k, .string p.ch, .bool p.nt, .slice pA p.rows.length pc, .int .i64 p.mi, .int .i64 p.ma, .bool p.lz, .slice pB p.kids.length pd]) ?_ rfl ⟨p, by rw [HV.out], ?_, ?_, ?_, ?_⟩
    · rw [results_cell1 rfl]
      go_simp
    · exact bl8 HB2.out (Nat.le_refl _) _ _ _ _ _ _ _ _ _ _ _ _ _ _ _ _
    · exact rx_kept HXP.out HFP.out (kept8 _ (Nat.lt_succ_self _) _ _ _ _ _ _ _ _ _ _ _ _ _ _ _ _)
    · rw [HE.out, HX.out]
    · exact HFP.out.mono (Nat.le_succ _)
  · have g1 : ((L.length : Int) == 1) = false := beq_eq_false_iff_ne.2 (by omega)
    have HX := hide (show altX (flK 1 l) = kdX 1 (flK 1 l) from (if_neg (by omega)).trans (if_neg (by omega)))
    clear hlen
    go_wp2
    refine bodyPost_ret (v := .agg #[.int .i64 1, .string ⟨#[]⟩, .bool false, .slice none 0 0, .int .i64 0, .int .i64 0, .bool false, .slice A L.length c]) ?_ rfl ⟨Rt.mk 1 ⟨#[]⟩ false (.slice none 0 0) [] 0 0 false (.slice A L.length c) L, rfl, ?_, ?_, ?_, ?_⟩
    · rw [results_cell1 rfl]
      go_simp
    · exact bl8 HB2.out (Nat.le_refl _) _ _ _ _ _ _ _ _ _ _ _ _ _ _ _ _
    · exact .mk _ (.inl ⟨rfl, rfl⟩) (ksat_kept HKS.out HFV.out (kept8 _ (Nat.lt_succ_self _) _ _ _ _ _ _ _ _ _ _ _ _ _ _ _ _)) (fun i hi => rx_kept (HRL.out _ (List.getElem_mem hi)) (HFL.out _ (List.getElem_mem hi)) (kept8 _ (Nat.lt_succ_self _) _ _ _ _ _ _ _ _ _ _ _ _ _ _ _ _))
    · rw [HX.out, er_eq]
      show kdX 1 (L.map er) = _
      rw [HEL.out]
    · exact .mk _ (frv_nil _) (HFV.out.mono (Nat.le_succ _)) (fun x hx => (HFL.out x hx).mono (Nat.le_succ _))
end Go.Proofs.YtcnliipkfccohabGreat
end
