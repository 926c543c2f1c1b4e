/- Contract: the copy of a list of trees (deep.Each) under a copy of each. Condition: not too many. -/
import Derived.Test.YtcgphknnnjpbkaaRxI
namespace Go.Proofs.Ytcgphknnnjpbkaa
open Go.ChangeShapes Go.WideShapes Go.ChangeAt Go.RowKit
open SetM
attribute [local go_sem ↓] Go.wp_at_zero Go.wp_at_succ
set_option maxRecDepth 100000
set_option linter.unusedVariables false
def DpPost (t : Rt) (w : World) : Ending → World → Prop := fun e w' => ∃ t', e = .returned t'.v ∧ Below w.heap.size w w' ∧ RxAt w' t' ∧ Fr w.heap.size t' ∧ er t' = er t
def EpPost (l : List Rt) (w : World) : Ending → World → Prop := fun e w' => ∃ v' L, e = .returned v' ∧ Below w.heap.size w w' ∧ KsAt w' v' L ∧ FrV w.heap.size v' ∧ (∀ x ∈ L, RxAt w' x) ∧ (∀ x ∈ L, Fr w.heap.size x) ∧ L.map er = l.map er
def EInv (l : List Rt) (w1 : World) (i : Value) (wr : World) : Prop :=
  ∃ (k : Nat) (L : List Rt), i = .int .i64 k ∧ k ≤ l.length ∧ L.length = l.length ∧ Hid (wr.ownsRow w1.heap.size 26 8 (.slice (some ⟨w1.heap.size, 0, none⟩) l.length l.length) l.length (flatX L)) ∧ Hid (Below w1.heap.size w1 wr) ∧ w1.heap.size < wr.heap.size ∧ Hid (∀ i (h : i < k) (h1 : i < L.length) (h2 : i < l.length), er L[i] = er l[i] ∧ RxAt wr L[i] ∧ Fr (w1.heap.size + 1) L[i])
theorem kept8 (w : World) {n g : Nat} (hg : g < n) (o0 : Nat) (u0 : Value) (o1 : Nat) (u1 : Value) (o2 : Nat) (u2 : Value) (o3 : Nat) (u3 : Value) (o4 : Nat) (u4 : Value) (o5 : Nat) (u5 : Value) (o6 : Nat) (u6 : Value) (o7 : Nat) (u7 : Value) : Kept n w ((((((((w.setCell ⟨g, o0, none⟩ u0).setCell ⟨g, o1, none⟩ u1).setCell ⟨g, o2, none⟩ u2).setCell ⟨g, o3, none⟩ u3).setCell ⟨g, o4, none⟩ u4).setCell ⟨g, o5, none⟩ u5).setCell ⟨g, o6, none⟩ u6).setCell ⟨g, o7, none⟩ u7) :=
  kept_trans (kept_trans (kept_trans (kept_trans (kept_trans (kept_trans (kept_trans (kept_set _ hg _) (kept_set _ hg _)) (kept_set _ hg _)) (kept_set _ hg _)) (kept_set _ hg _)) (kept_set _ hg _)) (kept_set _ hg _)) (kept_set _ hg _)
theorem bl8 {a w : World} {g : Nat} (h : Below a.heap.size a w) (hg : a.heap.size ≤ g) (o0 : Nat) (u0 : Value) (o1 : Nat) (u1 : Value) (o2 : Nat) (u2 : Value) (o3 : Nat) (u3 : Value) (o4 : Nat) (u4 : Value) (o5 : Nat) (u5 : Value) (o6 : Nat) (u6 : Value) (o7 : Nat) (u7 : Value) : Below a.heap.size a ((((((((w.setCell ⟨g, o0, none⟩ u0).setCell ⟨g, o1, none⟩ u1).setCell ⟨g, o2, none⟩ u2).setCell ⟨g, o3, none⟩ u3).setCell ⟨g, o4, none⟩ u4).setCell ⟨g, o5, none⟩ u5).setCell ⟨g, o6, none⟩ u6).setCell ⟨g, o7, none⟩ u7) :=
  bl_set (bl_set (bl_set (bl_set (bl_set (bl_set (bl_set (bl_set h hg _) hg _) hg _) hg _) hg _) hg _) hg _) hg _
set_option maxHeartbeats 16000000 in
theorem eachrx_any (v : Value) (l : List Rt) (w0 : World) (h : KsAt w0 v l) (hx : ∀ i (hi : i < l.length), RxAt w0 l[i]) (hl : l.length ≤ 100000)
    (HF : ∀ i (hi : i < l.length) W, Below w0.heap.size w0 W → Calls Try.prog 54 #[l[i].v] W (DpPost l[i] W)) (w : World) (hb0 : Below w0.heap.size w0 w) :
    Calls Try.prog 70 #[v, .func (.func 54) #[] #[]] w (EpPost l w) := by
  obtain ⟨i0, hi0, hz0', hz1, hz2⟩ := info_parts info_rx
  obtain ⟨vA, vc, rfl⟩ := ksat_len h
  have H := hide h
  have HB0 := hide hb0
  have HX := hide hx
  have HF2 := hide HF
  unfold EpPost
  by_cases hpos : 0 < l.length
  case neg =>
    have hl0 : l = [] := List.eq_nil_of_length_eq_zero (by omega)
    subst hl0
    clear h hl H hx HF HX HF2 hpos
    simp only [List.length_nil] at *
    go_enter Try.func70, Try.ntmps70
    go_wp2
    go_ret
    exact ⟨_, [], rfl, bl_refl w, .inl ⟨rfl, rfl⟩, (fun x len c h => by cases h), (fun x hx => by cases hx), (fun x hx => by cases hx), rfl⟩
  clear h hx HF hb0
  have gz : ((l.length : Int) == 0) = false := beq_eq_false_iff_ne.2 (by omega)
  go_enter Try.func70, Try.ntmps70
  go_wp2_with (refine wpList_make_full _ rfl (.tmp 12) (.tmp 12) 24 rfl w.heap.size 26 i0 rt0.v 8 Try.underlying24 hi0 hz0' hz1 .i64 .i64 l.length l.length l.length rfl rfl rfl rfl (by rw [hz2]; omega) (by unfold maxLen; omega) (Nat.le_refl _) ?_; intro w2 ho2 hg2)
  have hb2 : Below w.heap.size w w2 := bl_grown (bl_refl w) hg2 (fun k hk => by cases hk)
  have hst : EInv l w (.int .i64 0) w2 := ⟨0, List.replicate l.length rt0, rfl, Nat.zero_le _, by simp, hide (by
    have e : (madeCells rt0.v.cells (l.length * 8)).toList = flatX (List.replicate l.length rt0) := by
      have := made_flatX l.length
      simpa [Value.cells, Rt.v] using this
    rw [← e]; exact ho2), hide hb2, (World.ownsRow.lt ho2 _ rfl).2, hide (fun i h => absurd h (Nat.not_lt_zero _))⟩
  have HST0 := hide hst
  clear hst ho2 hg2 hb2
  go_wp2
  go_loopw [16] (fun i wr => EInv l w i wr) (fun i _ => l.length - (intOf i).toNat)
  case atStart => exact HST0.out
  case round =>
    obtain ⟨k, L, rfl, hk, hL, HROW, HBL, hlt1, HALL⟩ := hrel
    by_cases hlt : k < l.length
    · have HBW := hide (bl_trans HB0.out HBL.out)
      obtain ⟨b1, o1, c1', hv1, hc1, hm1, hlb1, hcell1⟩ := ksat_8 (ksat_below H.out HBW.out) (by omega)
      injection hv1 with hv1 _ hv1c
      subst hv1 hv1c
      unfold maxLen at hm1
      obtain ⟨x0, x1, x2, x3, x4, x5, x6, x7⟩ := hcell1 k hlt
      have HC := fun W hb => HF2.out k hlt W hb
      have hxp := HX.out k hlt
      clear hcell1
      have HLK := hide (show ∃ x, x = l[k] from ⟨_, rfl⟩)
      obtain ⟨p, hp⟩ : ∃ p, l[k] = p := ⟨_, rfl⟩
      rw [hp] at x0 x1 x2 x3 x4 x5 x6 x7 HC hxp
      obtain ⟨pA, pc, hprv⟩ := rwat_len hxp.rows
      obtain ⟨pB, pd, hpkv⟩ := ksat_len hxp.ks
      unfold DpPost at HC
      rw [show p.v = .agg #[.int .i64 p.k, .string p.ch, .bool p.nt, .slice pA p.rows.length pc, .int .i64 p.mi, .int .i64 p.ma, .bool p.lz, .slice pB p.kids.length pd] by unfold Rt.v Rt.cs; rw [hprv, hpkv]] at HC
      rw [hprv] at x3
      rw [hpkv] at x7
      have HP := hide hp
      clear hxp hprv hpkv hp HLK
      have hLk : k < L.length := by omega
      have zz := fun j u (hu : (L[k].cs)[j]? = some u) => (show wr.cell? ⟨w.heap.size, k * 8 + j, none⟩ = some u by have hj8 : j < 8 := (List.getElem?_eq_some_iff.1 hu).1; rw [World.ownsRow.cellAt HROW.out (k * 8 + j) (by omega)]; exact flatX_at L k hLk j u hu)
      have z0 : wr.cell? ⟨w.heap.size, k * 8, none⟩ = some (.int .i64 L[k].k) := zz 0 _ rfl
      have z1 := zz 1 _ rfl
      have z2 := zz 2 _ rfl
      have z3 := zz 3 _ rfl
      have z4 := zz 4 _ rfl
      have z5 := zz 5 _ rfl
      have z6 := zz 6 _ rfl
      have z7 := zz 7 _ rfl
      clear zz
      generalize L[k] = q at z0 z1 z2 z3 z4 z5 z6 z7
      have HFIN := hide (fun W (hh : Below wr.heap.size wr W) (t' : Rt) => own_putX (own_below HROW.out hh) k hLk t')
      have HFZ := hide (fun W (hh : Below wr.heap.size wr W) => World.ownsRow.frozenAt (own_below HROW.out hh))
      have HC2 := hide HC
      have HLL := hide (And.intro hL hLk)
      have gl : decide (k < l.length) = true := decide_eq_true hlt
      have gl' : decide ((k : Int) < (l.length : Int)) = true := decide_eq_true (by omega)
      have e5 : IntKind.i64.wrap ((k : Int) + 1) = (k : Int) + 1 := by rw [IntKind.wrap_i64]; omega
      clear HC hL hLk
      go_wp2_with fail
      refine (HC2.out _ (bl_trans HBW.out (bl_alloc (bl_refl wr) _))).mono ?_
      rintro e w2 ⟨t', rfl, hb2, hrx, hfr, her⟩
      have hba := bl_trans (bl_alloc (bl_refl wr) _) hb2
      have y0 := cell_later hba z0
      have y1 := cell_later hba z1
      have y2 := cell_later hba z2
      have y3 := cell_later hba z3
      have y4 := cell_later hba z4
      have y5 := cell_later hba z5
      have y6 := cell_later hba z6
      have y7 := cell_later hba z7
      have v0 := HFZ.out _ hba (k * 8)
      have v1 := HFZ.out _ hba (k * 8 + 1)
      have v2 := HFZ.out _ hba (k * 8 + 2)
      have v3 := HFZ.out _ hba (k * 8 + 3)
      have v4 := HFZ.out _ hba (k * 8 + 4)
      have v5 := HFZ.out _ hba (k * 8 + 5)
      have v6 := HFZ.out _ hba (k * 8 + 6)
      have v7 := HFZ.out _ hba (k * 8 + 7)
      obtain ⟨tA, tc, htrv⟩ := rwat_len hrx.rows
      obtain ⟨tB, td, htkv⟩ := ksat_len hrx.ks
      have hfin := HFIN.out _ hba t'
      rw [htrv, htkv] at hfin
      rw [show t'.v = .agg #[.int .i64 t'.k, .string t'.ch, .bool t'.nt, .slice tA t'.rows.length tc, .int .i64 t'.mi, .int .i64 t'.ma, .bool t'.lz, .slice tB t'.kids.length td] by unfold Rt.v Rt.cs; rw [htrv, htkv]]
      have HFN := hide hfin
      have HBB := hide hba
      have HFR := hide (hfr.mono (show w.heap.size + 1 ≤ (wr.alloc _).heap.size by simp; omega))
      have HRX := hide hrx
      have HER := hide her
      have hsz := hba.size
      clear hba hb2 hfin hfr hrx her htrv htkv x0 x1 x2 x3 x4 x5 x6 x7 z0 z1 z2 z3 z4 z5 z6 z7
      go_wp2
      refine ⟨?_, by first | (simp [intOf]; done) | (simp [intOf]; omega)⟩
      refine ⟨k + 1, L.set k t', by go_num, by omega, by simp [HLL.out.1], hide HFN.out, hide ?_, ?_, hide ?_⟩
      · exact bl8 (bl_trans HBL.out HBB.out) (Nat.le_refl _) _ _ _ _ _ _ _ _ _ _ _ _ _ _ _ _
      · simp [World.setCell]; omega
      · intro i h1 h2 h3
        by_cases hik : i = k
        · subst hik
          simp only [List.getElem_set_self]
          exact ⟨HER.out.trans (by rw [HP.out]), rx_kept HRX.out HFR.out (kept8 _ (Nat.lt_succ_self _) _ _ _ _ _ _ _ _ _ _ _ _ _ _ _ _), HFR.out⟩
        · have hik2 : k ≠ i := fun e => hik e.symm
          simp only [List.getElem_set_ne hik2]
          obtain ⟨a1, a2, a3⟩ := HALL.out i (by omega) (by simpa using h2) h3
          exact ⟨a1, rx_kept a2 a3 (kept_trans (kept_below HBB.out) (kept8 _ (Nat.lt_succ_self _) _ _ _ _ _ _ _ _ _ _ _ _ _ _ _ _)), a3⟩
    · obtain rfl : k = l.length := by omega
      have ho := HROW.out
      have HAL := hide (fun i (h1 : i < L.length) => HALL.out i (by omega) h1 (by omega))
      have gl : decide (l.length < l.length) = false := by simp
      have gl' : decide ((l.length : Int) < (l.length : Int)) = false := by simp
      have HKS := hide (show KsAt wr (.slice (some ⟨w.heap.size, 0, none⟩) l.length l.length) L from own_ksat (base := w.heap.size) (by rw [hL]; exact ho))
      clear ho
      go_wp2
      go_ret
      refine ⟨_, L, rfl, HBL.out, HKS.out, (fun x len c h => by cases h; exact Nat.le_refl _), fun x hx => ?_, fun x hx => ?_, ?_⟩
      · obtain ⟨i, hi, rfl⟩ := List.mem_iff_getElem.1 hx
        exact (HAL.out i hi).2.1
      · obtain ⟨i, hi, rfl⟩ := List.mem_iff_getElem.1 hx
        exact (HAL.out i hi).2.2.mono (Nat.le_succ _)
      · apply List.ext_getElem
        · simp [hL]
        · intro i h1 h2
          simp only [List.getElem_map]
          exact (HAL.out i (by simpa using h1)).1
end Go.Proofs.Ytcgphknnnjpbkaa
