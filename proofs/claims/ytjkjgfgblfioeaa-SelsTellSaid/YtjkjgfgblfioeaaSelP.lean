/- Contract: selections moved by edits. Condition: at most 20 edits, all good; ends within 2^50; no more selections than the library's sort is known to put in order. -/
import Derived.Test.YtjkjgfgblfioeaaSelF
import Derived.Test.YtjkjgfgblfioeaaEdW
import Derived.Deep.RegionHeld3
namespace Go.Proofs.Ytjkjgfgblfioeaa
open Go.ChangeShapes Go.WideShapes Go.ChangeAt Go.RowKit
open SpanM SelM EdM
attribute [local go_sem ↓] Go.wp_at_zero Go.wp_at_succ
set_option maxRecDepth 100000
set_option linter.unusedVariables false
def mvS (es : List Ed) (s : Sp) : Sp := (mvR true es s.1, mvR true es s.2)
def fillV (f : Sp → Sp) (l : List Sp) (k : Nat) : List Sp := (l.take k).map f ++ List.replicate (l.length - k) (0, 0)
theorem fillV_len (f : Sp → Sp) (l : List Sp) (k : Nat) (hk : k ≤ l.length) : (fillV f l k).length = l.length := by unfold fillV; simp; omega
theorem fillV_succ (f : Sp → Sp) (l : List Sp) (k : Nat) (h : k < l.length) : (fillV f l k).set k (f l[k]) = fillV f l (k + 1) := by
  unfold fillV
  have hl : ((l.take k).map f).length = k := by simp; omega
  rw [List.set_append_right _ _ (by omega), hl, Nat.sub_self, List.take_succ_eq_append_getElem h, List.map_append, show l.length - k = (l.length - (k + 1)) + 1 by omega, List.replicate_succ, List.set_cons_zero, List.append_assoc]
  rfl
theorem fillV_all (f : Sp → Sp) (l : List Sp) : fillV f l l.length = l.map f := by unfold fillV; simp
theorem made_flatS (n : Nat) : (madeCells #[Value.int .i64 0, Value.int .i64 0] (n * 2)).toList = flat (List.replicate n (0, 0)) := by
  apply List.ext_getElem
  · rw [flat_len]; simp [madeCells]
  · intro i h1 h2
    have hi : i < n * 2 := by simpa [madeCells] using h1
    have hf := flat_at (List.replicate n ((0 : Int), (0 : Int))) (i / 2) (by simp; omega)
    have e1 : (madeCells #[Value.int .i64 0, Value.int .i64 0] (n * 2)).toList[i] = .int .i64 0 := by
      simp only [madeCells, Array.toList_map, Array.toList_range, List.getElem_map, List.getElem_range]
      rcases Nat.mod_two_eq_zero_or_one i with h | h <;> simp [h]
    rw [e1]
    simp only [List.getElem_replicate] at hf
    rcases Nat.mod_two_eq_zero_or_one i with h | h
    · have ht : i / 2 * 2 = i := by omega
      rw [ht, List.getElem?_eq_getElem h2] at hf
      exact (Option.some.inj hf.1).symm
    · have ht : i / 2 * 2 + 1 = i := by omega
      rw [ht, List.getElem?_eq_getElem h2] at hf
      exact (Option.some.inj hf.2).symm
def MvInv (f : Sp → Sp) (l : List Sp) (w1 : World) (i : Value) (wr : World) : Prop :=
  ∃ k : Nat, i = .int .i64 k ∧ k ≤ l.length ∧ Hid (wr.ownsRow w1.heap.size 38 2 (.slice (some ⟨w1.heap.size, 0, none⟩) l.length l.length) l.length (flat (fillV f l k))) ∧ Hid (Below w1.heap.size w1 wr) ∧ w1.heap.size < wr.heap.size
set_option maxHeartbeats 8000000 in
theorem smove_any {K : Nat} (hst : StabOK K) (v ve : Value) (l U : List Sp) (es : List Ed) (w : World) (h : SpAt w v l) (he : EdAt w ve es) (hl : l.length ≤ K) (hl2 : l.length ≤ 1000) (hes : es.length ≤ 20) (hg : ∀ e ∈ es, Good e)
    (hb : ∀ s ∈ l, (-1125899906842624 ≤ s.1 ∧ s.1 ≤ 1125899906842624) ∧ (-1125899906842624 ≤ s.2 ∧ s.2 ≤ 1125899906842624)) (hU : mrgF (sortL (l.map (mvS (sortE (sortE es))))) = U) :
    Calls Try.prog 17 #[v, ve] w (MrgPost w U) := by
  obtain ⟨i0, hi0, hz0', hz1, hz2⟩ := info_parts info_sl
  obtain ⟨vA, vc, rfl⟩ := spat_len h
  have H := hide h
  have HE := hide he
  have HST := hide hst
  have HK := hide hl
  have HB := hide hb
  have HU := hide hU
  have hsl := sortE_len es
  have hg2 : ∀ e ∈ sortE es, Good e := fun e he => hg e ((sortE_perm es).mem_iff.1 he)
  have hsort := fun W (hh : EdAt W ve es) => sortE_any ve es W hh hes
  have HSORT := hide hsort
  clear h he hst hl hb hU hsort hg
  generalize sortE es = E at *
  have HMV := hide (fun (a : Int) (v' : Value) (W : World) (hh : EdAt W v' E) (ha : -1125899906842624 ≤ a ∧ a ≤ 1125899906842624) => move_any a true v' E W hh (by omega) hg2 ha)
  have HSL := hide hsl
  clear hg2 hsl hes
  go_enter Try.func17, Try.ntmps17
  go_wp2_with fail
  refine (HSORT.out _ HE.out).mono ?_
  rintro e w1 ⟨ve', rfl, hb1, ho1⟩
  have HE1 := hide (edat_of ho1 HSL.out)
  have H1 := hide (spat_below H.out hb1)
  have HB1 := hide hb1
  clear hb1 ho1 HSORT HE H
  go_wp2_with (refine wpList_make_full _ rfl (.tmp 11) (.tmp 11) 22 rfl w1.heap.size 38 i0 (.agg #[.int .i64 0, .int .i64 0]) 2 Try.underlying22 hi0 hz0' hz1 .i64 .i64 l.length l.length l.length rfl rfl rfl rfl (by rw [hz2]; omega) (by unfold maxLen; omega) (Nat.le_refl _) ?_; intro w2 ho2 hg2)
  have hb2 : Below w1.heap.size w1 w2 := bl_grown (bl_refl w1) hg2 (fun k hk => by cases hk)
  obtain ⟨f, hf⟩ : ∃ f, mvS (sortE E) = f := ⟨_, rfl⟩
  rw [hf] at HU
  have HF := hide (fun s => (congrFun hf s).symm)
  have hst : MvInv f l w1 (.int .i64 0) w2 := ⟨0, rfl, Nat.zero_le _, hide (by
    have e : (madeCells (Value.agg #[.int .i64 0, .int .i64 0]).cells (l.length * 2)).toList = flat (fillV f l 0) := by
      have := made_flatS l.length
      unfold fillV
      simpa [Value.cells] using this
    rw [← e]; exact ho2), hide hb2, (World.ownsRow.lt ho2 _ rfl).2⟩
  have HST0 := hide hst
  clear hst ho2 hg2 hb2 hf
  go_loopw [15] (fun i wr => MvInv f l w1 i wr) (fun i _ => l.length - (intOf i).toNat)
  case atStart => exact HST0.out
  case round =>
    obtain ⟨k, rfl, hk, HROW, HBL, hlt1⟩ := hrel
    by_cases hlt : k < l.length
    · obtain ⟨b1, o1, c1', hv1, hc1, hm1, hlb1, hcell1⟩ := spat_some (spat_below H1.out HBL.out) (by omega)
      injection hv1 with hv1 _ hv1c
      subst hv1 hv1c
      unfold maxLen at hm1
      obtain ⟨x1, x2⟩ := hcell1 k hlt
      obtain ⟨⟨p1, p2⟩, ⟨p3, p4⟩⟩ := HB.out l[k] (List.getElem_mem hlt)
      have hfl := fillV_len f l k hk
      have hsu := fillV_succ f l k hlt
      have hfk : f l[k] = mvS (sortE E) l[k] := HF.out _
      clear hcell1
      generalize l[k] = s at *
      obtain ⟨s1, s2⟩ := s
      obtain ⟨y1, hy1⟩ : ∃ y, mvR true (sortE E) s1 = y := ⟨_, rfl⟩
      obtain ⟨y2, hy2⟩ : ∃ y, mvR true (sortE E) s2 = y := ⟨_, rfl⟩
      have hm1' := fun W (hh : EdAt W ve' E) => HMV.out s1 ve' W hh ⟨p1, p2⟩
      have hm2' := fun W (hh : EdAt W ve' E) => HMV.out s2 ve' W hh ⟨p3, p4⟩
      rw [hy1] at hm1'
      rw [hy2] at hm2'
      have hfk2 : f (s1, s2) = (y1, y2) := by rw [hfk]; unfold mvS; rw [← hy1, ← hy2]
      rw [hfk2] at hsu
      have HSU := hide hsu
      have z1 : wr.cell? ⟨w1.heap.size, k * 2, none⟩ = some (.int .i64 (fillV f l k)[k].1) := by rw [World.ownsRow.cellAt HROW.out (k * 2) (by omega)]; exact (flat_at _ k (by omega)).1
      have z2 : wr.cell? ⟨w1.heap.size, k * 2 + 1, none⟩ = some (.int .i64 (fillV f l k)[k].2) := by rw [World.ownsRow.cellAt HROW.out (k * 2 + 1) (by omega)]; exact (flat_at _ k (by omega)).2
      generalize (fillV f l k)[k].1 = q1 at z1
      generalize (fillV f l k)[k].2 = q2 at z2
      have HFL := hide hfl
      clear hm1 hlb1 hfl hsu hfk hfk2 hy1 hy2 p1 p2 p3 p4
      have hne : w1.heap.size ≠ wr.heap.size := by omega
      have gl : decide (k < l.length) = true := decide_eq_true hlt
      obtain ⟨wi, hwi⟩ : ∃ wi, wr.alloc (.cells #[.int .i64 s1, .int .i64 s2] 38) = wi := ⟨_, rfl⟩
      have hwr : Below wr.heap.size wr wi := by rw [← hwi]; exact bl_alloc (bl_refl wr) _
      have f1 : wi.cell? ⟨wr.heap.size, 0, none⟩ = some (.int .i64 s1) := by rw [← hwi]; simp
      have f2 : wi.cell? ⟨wr.heap.size, 1, none⟩ = some (.int .i64 s2) := by rw [← hwi]; simp
      have HM1 := hide (fun W (hh : Below wi.heap.size wi W) => hm1' W (edat_below HE1.out (bl_trans HBL.out (bl_trans hwr hh))))
      have HM2 := hide (fun W (hh : Below wi.heap.size wi W) => hm2' W (edat_below HE1.out (bl_trans HBL.out (bl_trans hwr hh))))
      have u1 := cell_later hwr z1
      have u2 := cell_later hwr z2
      have HFZ := hide (fun W (hh : Below wi.heap.size wi W) => World.ownsRow.frozenAt (own_below HROW.out (bl_trans hwr hh)))
      clear hm1' hm2' z1 z2
      have HK1 := hide (fun W (hh : Below wi.heap.size wi W) => And.intro (cell_later hh f1) (cell_later hh f2))
      have HK2 := hide (fun W (hh : Below wi.heap.size wi W) => And.intro (cell_later hh u1) (cell_later hh u2))
      have hfin := fun W (hh : Below wi.heap.size wi W) => own_put2 (own_below HROW.out (bl_trans hwr hh)) k (by rw [HFL.out]; exact hlt) (y1, y2)
      rw [HSU.out] at hfin
      have HFIN := hide hfin
      have HWI := hide hwr.size
      clear hfin
      have hne2 : ¬ w1.heap.size = wr.heap.size := hne
      have hne3 : ¬ wr.heap.size = w1.heap.size := fun h => hne h.symm
      go_wp2
      go_region_held3 (fun W => W.cell? ⟨wr.heap.size, 0, none⟩ = some (.int .i64 s1) ∧ W.cell? ⟨wr.heap.size, 1, none⟩ = some (.int .i64 s2))
        (first
          | (refine HK1.out _ ?_; first | assumption | exact bl_refl _ | exact bl_drew (bl_refl _) | exact bl_drewN (bl_refl _) _)
          | go_keep)
        (first
          | (go_at_call 25
             first
               | ((with_reducible refine (HM1.out _ (by repeat (first | assumption | exact bl_refl _ | refine bl_drew ?_))).mono ?_); rintro e wa ⟨rfl, hba⟩; have Ba := bl_trans (show Below wi.heap.size wi _ by repeat (first | assumption | exact bl_refl _ | refine bl_drew ?_)) hba; obtain ⟨va1, va2⟩ := HK2.out _ Ba; have va3 := HFZ.out _ Ba (k * 2); have va4 := HFZ.out _ Ba (k * 2 + 1); clear hba)
               | ((with_reducible refine (HM2.out _ (by repeat (first | assumption | exact bl_refl _ | refine bl_drew ?_))).mono ?_); rintro e wa ⟨rfl, hba⟩; have Ba := bl_trans (show Below wi.heap.size wi _ by repeat (first | assumption | exact bl_refl _ | refine bl_drew ?_)) hba; obtain ⟨va1, va2⟩ := HK2.out _ Ba; have va3 := HFZ.out _ Ba (k * 2); have va4 := HFZ.out _ Ba (k * 2 + 1); clear hba))
          | fail)
      all_goals
        have hsz := Ba.size
        have hsw := HWI.out
        go_wp2
        refine ⟨?_, by first | (simp [intOf]; done) | (simp [intOf]; omega)⟩
        refine ⟨k + 1, by go_num, by omega, hide ?_, hide ?_, ?_⟩
        · first
            | exact HFIN.out _ Ba
            | exact World.ownsRow.drew (HFIN.out _ Ba)
        · repeat (first | exact bl_trans HBL.out (bl_trans hwr Ba) | refine bl_set ?_ (Nat.le_refl _) _ | refine bl_drew ?_)
        · simp [World.setCell]; omega
    · obtain rfl : k = l.length := by omega
      have ho := own_base HROW.out HB1.out.size
      rw [fillV_all] at ho
      have hm := merge_any HST.out w w1.heap.size l.length (l.map f) U wr (bl_trans HB1.out HBL.out) (by rw [List.length_map]; exact ho) (by rw [List.length_map]; exact HK.out) HU.out
      rw [List.length_map] at hm
      have HM := hide hm
      have gl : decide (l.length < l.length) = false := by simp
      clear hm ho
      go_wp2_with fail
      refine HM.out.mono ?_
      rintro e w4 ⟨v4, rfl, hb6, ho5⟩
      have HO5 := hide ho5
      clear ho5
      go_wp2
      go_ret
      exact ⟨_, rfl, hb6, HO5.out⟩
end Go.Proofs.Ytjkjgfgblfioeaa
