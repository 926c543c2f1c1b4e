/- Contract: gimletref13.kids. Condition: trees that are not too big. -/
import Derived.Test.YtcgphknnnjpbkaaRxU
namespace Go.Proofs.Ytcgphknnnjpbkaa
open Go.ChangeShapes Go.WideShapes Go.ChangeAt Go.RowKit
open SetM
attribute [local go_sem ↓] Go.wp_at_zero Go.wp_at_succ
set_option maxRecDepth 100000
set_option linter.unusedVariables false
/-- What the reference's kids makes: the trees themselves. -/
def rflK (kind : Int) (l : List Rt) : List Rt := l.flatMap (fun t => if t.k = kind then t.kids else [t])
theorem rflK_er (kind : Int) (l : List Rt) : (rflK kind l).map er = flK kind l := by
  unfold rflK flK
  rw [List.map_flatMap]
  congr 1
  funext t
  split <;> rfl
def KpPost (kind : Int) (l : List Rt) (w0 w : World) : Ending → World → Prop := fun e w' => ∃ v' L, e = .returned v' ∧ Below w.heap.size w w' ∧ KsAt w' v' L ∧ FrV w.heap.size v' ∧ (∀ x ∈ L, RxAt w0 x) ∧ L.map er = flK kind l
set_option maxHeartbeats 16000000 in
theorem rkids_any (kind : Int) (v : Value) (l : List Rt) (w0 w : World) (h : KsAt w0 v l) (hx : ∀ i (hi : i < l.length), RxAt w0 l[i]) (hz : sL l ≤ 100000) (hb0 : Below w0.heap.size w0 w) :
    Calls Try.prog 63 #[.int .i64 kind, v] w (KpPost kind l w0 w) := by
  obtain ⟨i0, hi0, hz0', hz1, hz2⟩ := info_parts info_rx
  obtain ⟨vA, vc, rfl⟩ := ksat_len h
  have H := hide h
  have HX := hide hx
  have hll := sL_len l
  have HZ := hide hz
  have HB0 := hide hb0
  unfold KpPost
  have hst : FInv (RxAt w0) kind l w (.slice none 0 0) (.int .i64 0) w := ⟨0, [], none, 0, rfl, rfl, Nat.zero_le _, by simp, hide ⟨by simp [flatX], .inl ⟨rfl, rfl⟩⟩, hide (bl_refl w), hide (fun x hx => by cases hx), hide (by simp [flK])⟩
  have HST0 := hide hst
  clear h hx hst hz hb0
  go_enter Try.func63, Try.ntmps63
  go_wp2
  go_loopw [5, 6] (fun s i wr => FInv (RxAt w0) kind l w s i wr) (fun _ i _ => l.length - (intOf i).toNat)
  case atStart => exact HST0.out
  case round =>
    obtain ⟨k, L, A, c, rfl, rfl, hk, hlen, HROW, HBL, HALL, HE⟩ := hrel
    by_cases hlt : k < l.length
    · obtain ⟨b1, o1, c1', hv1, hc1, hm1, hlb1, hcell1⟩ := ksat_8 (ksat_below H.out (bl_trans HB0.out HBL.out)) (by omega)
      injection hv1 with hv1 _ hv1c
      subst hv1 hv1c
      unfold maxLen at hm1
      obtain ⟨x0, x1, x2, x3, x4, x5, x6, x7⟩ := hcell1 k hlt
      have hxp := HX.out k hlt
      clear hcell1
      obtain ⟨p, hp⟩ : ∃ p, l[k] = p := ⟨_, rfl⟩
      rw [hp] at x0 x1 x2 x3 x4 x5 x6 x7 hxp
      obtain ⟨pA, pc, hprv⟩ := rwat_len hxp.rows
      obtain ⟨pB, pd, hpkv⟩ := ksat_len hxp.ks
      rw [hprv] at x3
      rw [hpkv] at x7
      have hlk : p.kids.length ≤ 100000 := by
        have h1 := sL_kid l k hlt
        have h2 := sM_eq p
        have h3 := sL_len p.kids
        have h4 := HZ.out
        rw [hp] at h1
        omega
      have hlL : L.length ≤ 100000 := by have h4 := HZ.out; have := sL_take l k; omega
      have HLEN := hide hlen
      have HP := hide hp
      have HKL := hide hlt
      have HMM := hide (show p.kids.length ≤ sM (l[k]'hlt) ∧ 1 ≤ sM (l[k]'hlt) by
        rw [hp]
        have h2 := sM_eq p
        have h3 := sL_len p.kids
        omega)
      have HCS := hide (show p.cs = [.int .i64 p.k, .string p.ch, .bool p.nt, .slice pA p.rows.length pc, .int .i64 p.mi, .int .i64 p.ma, .bool p.lz, .slice pB p.kids.length pd] by unfold Rt.cs; rw [hprv, hpkv])
      have HXP := hide hxp
      have HSRC := hide (fun W (hh : Below wr.heap.size wr W) => (show Src W 8 pB p.kids.length (flatX p.kids) from by
        have h2 := ksat_below hxp.ks (bl_trans HB0.out (bl_trans HBL.out hh))
        rw [hpkv] at h2
        exact ksat_src h2))
      have HONE := hide (one_cellX p.kids (fun x hx => by obtain ⟨i, hi, rfl⟩ := List.mem_iff_getElem.1 hx; exact hxp.kid i hi))
      have HONE1 := hide (one_cellX [p] (fun x hx => by rw [List.mem_singleton] at hx; subst hx; exact hxp))
      have HFINV := hide (fun (M : List Rt) (W3 : World) (b3 : Below wr.heap.size wr W3) (hM : ∀ x ∈ M, RxAt w0 x) (v' : Value) (w4 : World) (ho : w4.ownsRow w.heap.size 26 8 v' (L.length + M.length) (flatX L ++ flatX M)) (hg : W3.grownBy w4 (Value.slice A L.length c).ownBlock)
          (h5 : v'.ownBlock = (Value.slice A L.length c).ownBlock ∨ ∃ k, v'.ownBlock = some k ∧ W3.heap.size ≤ k) (hm : M.length ≤ sM (l[k]'HKL.out)) (hE2 : M.map er = if (l[k]'HKL.out).k = kind then (l[k]'HKL.out).kids.map er else [er (l[k]'HKL.out)]) =>
        finv_step (Q := RxAt w0) HKL.out (fun x hx => ⟨⟨rx_below (HALL.out x hx).1.1 b3, (HALL.out x hx).1.2⟩, (HALL.out x hx).2⟩) (fun x hx => ⟨⟨rx_below (hM x hx) (bl_trans HB0.out (bl_trans HBL.out b3)), fun g hg => off_new (hM x hx) (Nat.le_trans HB0.out.size (World.ownsRow.lt HROW.out g hg).1)⟩, hM x hx⟩) ho hg h5 (bl_own (bl_trans HBL.out b3) (own_below HROW.out b3) hg (Nat.le_refl _)) HLEN.out hm HE.out hE2)
      have HSZ := hide HBL.out.size
      have gl : decide (k < l.length) = true := decide_eq_true hlt
      have gl' : decide ((k : Int) < (l.length : Int)) = true := decide_eq_true (by omega)
      have e5 : IntKind.i64.wrap ((k : Int) + 1) = (k : Int) + 1 := by rw [IntKind.wrap_i64]; omega
      have i1 : (0 : Int) ≤ (k : Int) := by omega
      have i2 : (k : Int) < (l.length : Int) := by omega
      clear hxp hprv hpkv hp hlen
      by_cases hke : p.k = kind
      · have gk : (p.k == kind) = true := beq_iff_eq.2 hke
        have HE2 := hide (show p.kids.map er = if (l[k]'HKL.out).k = kind then (l[k]'HKL.out).kids.map er else [er (l[k]'HKL.out)] by rw [HP.out, if_pos hke])
        clear hke
        go_wp2_with (at_builtin; go_must (refine wpList_src5 _ rfl _ _ 24 rfl w.heap.size 26 i0 rt0.v 8 104 Try.underlying24 hi0 hz0' hz1 hz2 rfl (by decide) (.slice A L.length c) L.length (flatX L) rfl HROW.out pB p.kids.length pd (flatX p.kids) rfl (HSRC.out _ (bl_refl _)) HONE.out (by omega) (by decide) HSZ.out ?_); intro v' w4 hv4 hg4 h5)
        have HST := hide (HFINV.out p.kids _ (bl_refl _) (fun x hx => by obtain ⟨i, hi, rfl⟩ := List.mem_iff_getElem.1 hx; exact HXP.out.kid i hi) v' w4 hv4 hg4 h5 HMM.out.1 HE2.out)
        clear hv4 hg4 h5
        go_wp2
        refine ⟨?_, by first | (simp [intOf]; done) | (simp [intOf]; omega)⟩
        exact HST.out
      · have gk : (p.k == kind) = false := beq_eq_false_iff_ne.2 hke
        have HE2 := hide (show [p].map er = if (l[k]'HKL.out).k = kind then (l[k]'HKL.out).kids.map er else [er (l[k]'HKL.out)] by rw [HP.out, if_neg hke]; rfl)
        have HFX := hide (show flatX [p] = [.int .i64 p.k, .string p.ch, .bool p.nt, .slice pA p.rows.length pc, .int .i64 p.mi, .int .i64 p.ma, .bool p.lz, .slice pB p.kids.length pd] by unfold flatX; simp [HCS.out])
        have hone1 := HONE1.out
        rw [HFX.out] at hone1
        have HO1 := hide hone1
        clear hke hone1
        go_wp2_with (at_builtin; go_must (refine wpList_src5 _ rfl _ _ 24 rfl w.heap.size 26 i0 rt0.v 8 104 Try.underlying24 hi0 hz0' hz1 hz2 rfl (by decide) (.slice A L.length c) L.length (flatX L) rfl (own_below HROW.out (bl_alloc (bl_refl _) _)) (some ⟨_, 0, none⟩) 1 1 [.int .i64 p.k, .string p.ch, .bool p.nt, .slice pA p.rows.length pc, .int .i64 p.mi, .int .i64 p.ma, .bool p.lz, .slice pB p.kids.length pd] rfl (src_block (cs := #[.int .i64 p.k, .string p.ch, .bool p.nt, .slice pA p.rows.length pc, .int .i64 p.mi, .int .i64 p.ma, .bool p.lz, .slice pB p.kids.length pd]) (heap_new (by simp)) rfl) HO1.out (by omega) (by decide) (Nat.le_trans HSZ.out (bl_alloc (bl_refl _) _).size) ?_); intro v' w4 hv4 hg4 h5)
        rw [← HFX.out] at hv4
        have HST := hide (HFINV.out [p] _ (bl_alloc (bl_refl _) _) (fun x hx => by rw [List.mem_singleton] at hx; subst hx; exact HXP.out) v' w4 hv4 hg4 h5 HMM.out.2 HE2.out)
        clear hv4 hg4 h5
        go_wp2
        refine ⟨?_, by first | (simp [intOf]; done) | (simp [intOf]; omega)⟩
        exact HST.out
    · obtain rfl : k = l.length := by omega
      have ho := HROW.out
      have gl : decide (l.length < l.length) = false := by simp
      have gl' : decide ((l.length : Int) < (l.length : Int)) = false := by simp
      have he := HE.out
      rw [List.take_length] at he
      have HE2 := hide he
      have HKS := hide (own_ksat ho)
      have HFV := hide (show FrV w.heap.size (.slice A L.length c) from fun x len d e => by
        rcases own_form ho with ⟨h1, _⟩ | ⟨g, c2, h1, h2, _⟩
        · rw [e] at h1; cases h1
        · rw [e] at h1; injection h1 with h1; injection h1 with h1; subst h1; exact h2)
      clear ho he
      go_wp2
      go_ret
      exact ⟨_, L, rfl, HBL.out, HKS.out, HFV.out, fun x hx => (HALL.out x hx).2, HE2.out⟩
end Go.Proofs.Ytcgphknnnjpbkaa
