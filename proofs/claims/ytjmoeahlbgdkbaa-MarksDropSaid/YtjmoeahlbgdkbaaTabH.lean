/- Contracts of package marks at a table: may edits be done to it. Condition: few edits. -/
import Derived.Test.YtjmoeahlbgdkbaaEdD
import Derived.Test.YtjmoeahlbgdkbaaTabG
namespace Go.Proofs.Ytjmoeahlbgdkbaa
open Go.ChangeShapes Go.WideShapes Go.ChangeAt Go.RowKit
open SpanM EdM
attribute [local go_sem ↓] Go.wp_at_zero Go.wp_at_succ
attribute [local go_sem] later_cell later_frozen
def mayN (l : List Ed) : Int := if l.all (fun e => mayB e.1 65536) then (if apF (sortS (l.map (·.1))) then 0 else 5) else 3
theorem mayN_no (l : List Ed) (k : Nat) (h : k < l.length) (hb : mayB l[k].1 65536 = false) : mayN l = 3 := by
  unfold mayN
  rw [if_neg]
  intro h1
  rw [List.all_eq_true] at h1
  have := h1 l[k] (List.getElem_mem h)
  rw [hb] at this; cases this
set_option maxRecDepth 100000 in
set_option maxHeartbeats 4000000 in
theorem maym_any (v : Value) (l : List Ed) (w : World) (h : EdAt w v l) (hl : l.length ≤ 1000) :
    Calls Try.prog 49 #[v] w fun e w' => e = .returned (.int .i64 (mayN l)) ∧ Below w.heap.size w w' := by
  obtain ⟨i0, hi0, hz0', hz1, hz2⟩ := info_parts info_sp
  obtain ⟨aA, cA, rfl⟩ := edat_len h
  have H := hide h
  clear h
  obtain ⟨r, hr⟩ : ∃ r, mayN l = r := ⟨_, rfl⟩
  rw [hr]
  have HR := hide hr
  clear hr
  go_enter Try.func49, Try.ntmps49
  go_wp2_with (refine wpList_make_full _ rfl (.tmp 7) (.tmp 7) 103 rfl w.heap.size 41 i0 (.agg #[.int .i64 0, .int .i64 0]) 2 Try.underlying103 hi0 hz0' hz1 .i64 .i64 l.length l.length l.length rfl rfl rfl rfl (by rw [hz2]; omega) (by unfold maxLen; omega) (Nat.le_refl _) ?_; intro w1 ho1 hg1)
  have hb1 : Below w.heap.size w w1 := bl_grown (bl_refl w) hg1 (fun k hk => by cases hk)
  have hst : MayInv l 65536 w (.int .i64 0) w1 := ⟨0, rfl, Nat.zero_le _, by
    have e : (madeCells (Value.agg #[.int .i64 0, .int .i64 0]).cells (l.length * 2)).toList = flat (fillS l 0) := by
      have := made_flat l.length
      unfold fillS
      simpa [Value.cells] using this
    rw [← e]; exact ho1, fun j h1 h2 => by omega, hb1⟩
  have HST := hide hst
  clear hst ho1 hg1
  go_loopw [11] (fun i wr => MayInv l 65536 w i wr) (fun i _ => l.length - (intOf i).toNat)
  case atStart => exact HST.out
  case round =>
    obtain ⟨k, rfl, hk, hrow, hin, hbl⟩ := hrel
    by_cases hlt : k < l.length
    · obtain ⟨b1, o1, c1', hv1, hc1, hm1, hlb1, hcell1⟩ := edat_some (edat_below H.out hbl) (by omega)
      injection hv1 with hv1 _ hv1c
      subst hv1 hv1c
      unfold maxLen at hm1
      obtain ⟨x1, x2, x3⟩ := hcell1 k hlt
      obtain ⟨rb, hrb⟩ : ∃ rb, mayB l[k].1 65536 = rb := ⟨_, rfl⟩
      have hno := mayN_no l k hlt
      have hyes : rb = true → ∀ j (h : j < l.length), j < k + 1 → mayB l[j].1 65536 = true := fun h j h1 h2 => by
        by_cases hj : j = k
        · subst hj; rw [hrb]; exact h
        · exact hin j h1 (by omega)
      have hfl := fillS_len l k hk
      have hset := flat_set2 (fillS l k) k (by omega) l[k].1.1 l[k].1.2
      have hsu := fillS_succ l k hlt
      have e3 : (l[k].1.1, l[k].1.2) = l[k].1 := rfl
      rw [e3, hsu] at hset
      have HSET := hide hset
      have HNO := hide (fun h => HR.out.symm.trans (hno (hrb.trans h)))
      have HYES := hide hyes
      have z1 : wr.cell? ⟨w.heap.size, k * 2, none⟩ = some (.int .i64 (fillS l k)[k].1) := by rw [World.ownsRow.cellAt hrow (k * 2) (by omega)]; exact (flat_at _ k (by omega)).1
      have z2 : wr.cell? ⟨w.heap.size, k * 2 + 1, none⟩ = some (.int .i64 (fillS l k)[k].2) := by rw [World.ownsRow.cellAt hrow (k * 2 + 1) (by omega)]; exact (flat_at _ k (by omega)).2
      have HROW := hide hrow
      have HRB := hide hrb
      generalize (fillS l k)[k].1 = q1 at z1
      generalize (fillS l k)[k].2 = q2 at z2
      clear hcell1 hno hyes hset hsu hrow hrb hin e3 hfl HR HST
      generalize l[k] = s at *
      obtain ⟨⟨f, t⟩, x⟩ := s
      have hwA : w.heap.size < wr.heap.size := World.block_lt_of_cell? wr _ z1
      go_wp2_with fail
      refine (c1 (f, t) 65536 rb _ HRB.out).mono ?_
      rintro e w5 ⟨rfl, hb5⟩
      have hb6 : Below wr.heap.size wr w5 := bl_trans (bl_alloc (bl_refl wr) _) hb5
      have y1 := cell_later hb5 (World.cell?_alloc_mark wr #[.int .i64 f, .int .i64 t, .string x] 61 (0, 0) 0)
      have y2 := cell_later hb5 (World.cell?_alloc_mark wr #[.int .i64 f, .int .i64 t, .string x] 61 (0, 0) 1)
      have u1 := cell_later hb6 z1
      have u2 := cell_later hb6 z2
      have u3 : w5.frozen? ⟨w.heap.size, k * 2, none⟩ = false := World.ownsRow.frozenAt (own_below HROW.out hb6) _
      have u4 : w5.frozen? ⟨w.heap.size, k * 2 + 1, none⟩ = false := World.ownsRow.frozenAt (own_below HROW.out hb6) _
      cases rb
      · have HNO2 := hide (HNO.out rfl)
        clear HNO HYES HSET
        go_wp2
        go_ret
        exact ⟨ret_int HNO2.out.symm, bl_trans hbl hb6⟩
      · have fin : MayInv l 65536 w (.int .i64 ((k : Int) + 1)) ((w5.setCell ⟨w.heap.size, k * 2, none⟩ (.int .i64 f)).setCell ⟨w.heap.size, k * 2 + 1, none⟩ (.int .i64 t)) := by
          have h1 := (World.ownsRow.stored (own_below HROW.out hb6) (k * 2) (.int .i64 f)).1
          have h2 := (World.ownsRow.stored h1 (k * 2 + 1) (.int .i64 t)).1
          rw [HSET.out] at h2
          exact ⟨k + 1, by go_num, by omega, h2, HYES.out rfl, bl_set (bl_set (bl_trans hbl hb6) (Nat.le_refl _) _) (Nat.le_refl _) _⟩
        have FIN := hide fin
        clear fin HNO HYES HSET z1 z2 x1 x2 x3
        go_wp2
        refine ⟨?_, by first | (simp [intOf]; done) | (simp [intOf]; omega)⟩
        exact FIN.out
    · obtain rfl : k = l.length := by omega
      rw [fillS_all] at hrow
      have hsl : (l.map (·.1)).length = l.length := by simp
      have hsp : SpAt wr (.slice (some ⟨w.heap.size, 0, none⟩) l.length l.length) (l.map (·.1)) := own_spat (by rw [hsl]; exact hrow)
      have HSP := hide hsp
      have hall := mayE_in (fun j h => hin j h h)
      have hr := HR.out
      unfold mayN at hr
      rw [if_pos hall] at hr
      obtain ⟨ra, hra⟩ : ∃ ra, apF (sortS (l.map (·.1))) = ra := ⟨_, rfl⟩
      rw [hra] at hr
      have HRA := hide hra
      have HR2 := hide hr
      clear hrow hsp hall hr hra hin HR HST hlt
      go_wp2_with fail
      refine (aparte_any _ (l.map (·.1)) ra _ HSP.out (by rw [hsl]; exact hl) HRA.out).mono ?_
      rintro e w5 ⟨rfl, hb5⟩
      have hb6 := bl_trans hbl hb5
      cases ra
      · have HR3 := HR2.out
        rw [if_neg (by simp)] at HR3
        have HR4 := hide HR3
        clear HR3 HR2 hsl
        go_wp2
        go_ret
        exact ⟨ret_int HR4.out, hb6⟩
      · have HR3 := HR2.out
        rw [if_pos rfl] at HR3
        have HR4 := hide HR3
        clear HR3 HR2 hsl
        go_wp2
        go_ret
        exact ⟨ret_int HR4.out, hb6⟩
end Go.Proofs.Ytjmoeahlbgdkbaa
