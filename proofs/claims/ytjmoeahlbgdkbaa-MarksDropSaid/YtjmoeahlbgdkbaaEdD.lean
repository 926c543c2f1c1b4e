/- Contracts: how long a text gets, may edits be done. Conditions: short lists of edits of modest numbers. -/
import Derived.Test.YtjmoeahlbgdkbaaEdC
import Derived.Test.YtjmoeahlbgdkbaaSpanH
namespace Go.Proofs.Ytjmoeahlbgdkbaa
open Go.ChangeShapes Go.WideShapes Go.ChangeAt Go.RowKit
open SpanM EdM
attribute [local go_sem ↓] Go.wp_at_zero Go.wp_at_succ
attribute [local go_sem] later_cell later_frozen
def GoodD (e : Ed) : Prop := (-2199023255552 ≤ e.1.1 ∧ e.1.1 ≤ 2199023255552) ∧ (-2199023255552 ≤ e.1.2 ∧ e.1.2 ≤ 2199023255552) ∧ e.2.size ≤ 70000
theorem grown_take (n : Int) (l : List Ed) (k : Nat) (h : k < l.length) : grown n (l.take (k + 1)) = grown n (l.take k) + dl l[k] := by
  unfold grown; rw [List.take_succ_eq_append_getElem h, List.foldl_append]; rfl
theorem grown_bd (n : Int) (l : List Ed) (hg : ∀ e ∈ l, GoodD e) (k : Nat) (hk : k ≤ l.length) : n - k * 8796093022208 ≤ grown n (l.take k) ∧ grown n (l.take k) ≤ n + k * 8796093022208 := by
  induction k with
  | zero => simp [grown]
  | succ k ih =>
    have h1 := ih (by omega)
    rw [grown_take n l k (by omega)]
    obtain ⟨h2, h3, h4⟩ := hg l[k] (List.getElem_mem _)
    unfold dl len
    omega
set_option maxRecDepth 100000 in
set_option maxHeartbeats 4000000 in
theorem grown_any (n : Int) (v : Value) (l : List Ed) (w : World) (h : EdAt w v l) (hl : l.length ≤ 1000) (hg : ∀ e ∈ l, GoodD e) (hn : -1125899906842624 ≤ n ∧ n ≤ 1125899906842624) :
    Calls Try.prog 70 #[.int .i64 n, v] w fun e w' => e = .returned (.int .i64 (grown n l)) ∧ Below w.heap.size w w' := by
  obtain ⟨aA, cA, rfl⟩ := edat_len h
  have H := hide h
  clear h
  have hbd := grown_bd n l hg
  have hall : grown n (l.take l.length) = grown n l := by rw [List.take_of_length_le (Nat.le_refl _)]
  have HBD := hide hbd
  have HALL := hide hall
  have HG := hide hg
  clear hbd hall hg
  go_enter Try.func70, Try.ntmps70
  go_wp2
  go_loopw [0, 9] (fun m i wr => ∃ k : Nat, i = .int .i64 k ∧ k ≤ l.length ∧ m = .int .i64 (grown n (l.take k)) ∧ Below w.heap.size w wr) (fun _ i _ => l.length - (intOf i).toNat)
  case atStart => exact ⟨0, rfl, Nat.zero_le _, by simp [grown], bl_refl w⟩
  case round =>
    obtain ⟨k, rfl, hk, rfl, hbl⟩ := hrel
    by_cases hlt : k < l.length
    · obtain ⟨b1, o1, c1, hv1, hc1, hm1, hlb1, hcell1⟩ := edat_some (edat_below H.out hbl) (by omega)
      injection hv1 with hv1 _ hv1c
      subst hv1 hv1c
      unfold maxLen at hm1
      obtain ⟨x1, x2, x3⟩ := hcell1 k hlt
      have hs := grown_take n l k hlt
      have hb := HBD.out k hk
      obtain ⟨⟨g1, g2⟩, ⟨g3, g4⟩, g5⟩ := HG.out l[k] (List.getElem_mem _)
      unfold dl len at hs
      clear hcell1
      generalize l[k] = s at *
      generalize grown n (l.take k) = cur at *
      have HS := hide hs
      clear hs
      obtain ⟨⟨f, t⟩, x⟩ := s
      have g1' : -2199023255552 ≤ f := g1
      have g2' : f ≤ 2199023255552 := g2
      have g3' : -2199023255552 ≤ t := g3
      have g4' : t ≤ 2199023255552 := g4
      have g5' : x.size ≤ 70000 := g5
      have q1 : -4000000000000000000 ≤ f := by omega
      have q2 : f ≤ 4000000000000000000 := by omega
      have q3 : -4000000000000000000 ≤ t := by omega
      have q4 : t ≤ 4000000000000000000 := by omega
      clear g1 g2 g3 g4 g5
      have hb1 : -9000000000000000 - 1125899906842624 ≤ cur := by omega
      have hb2 : cur ≤ 1125899906842624 + 9000000000000000 := by omega
      have hw1 : IntKind.i64.wrap ((x.size : Int) - (t - f)) = (x.size : Int) - (t - f) := IntWalk.i64_in _ (by omega)
      have hw2 : IntKind.i64.wrap (cur + ((x.size : Int) - (t - f))) = cur + ((x.size : Int) - (t - f)) := IntWalk.i64_in _ (by omega)
      clear hb
      go_wp2
      refine wp_region_later (by kernel_rfl) (by kernel_rfl) ?_
      repeat (go_big_quiet_step (first | (go_at_call 54; exact later_call (slene_any (f, t) (t - f) _ q1 q2 q3 q4 rfl)) | exact rfl))
      refine wpQuiet_nil ?_
      rintro w9 ⟨⟨_, hb9⟩, rfl⟩
      have hb5 : Below w.heap.size w w9 := bl_trans (bl_alloc hbl _) hb9
      go_wp2
      refine ⟨?_, by first | (simp [intOf]; done) | (simp [intOf]; omega)⟩
      first
        | exact ⟨k + 1, by go_num, by omega, by rw [HS.out], hb5⟩
        | ((repeat apply Exists.intro); exact ⟨⟨k + 1, by go_num, by omega, by rw [HS.out], hb5⟩, rfl⟩)
    · obtain rfl : k = l.length := by omega
      rw [HALL.out]
      clear HBD HALL
      go_wp2
      go_ret
      exact ⟨rfl, hbl⟩
theorem growne_any (n r : Int) (v : Value) (l : List Ed) (w : World) (h : EdAt w v l) (hl : l.length ≤ 1000) (hg : ∀ e ∈ l, GoodD e) (hn : -1125899906842624 ≤ n ∧ n ≤ 1125899906842624) (hr : grown n l = r) :
    Calls Try.prog 70 #[.int .i64 n, v] w fun e w' => e = .returned (.int .i64 r) ∧ Below w.heap.size w w' := by
  subst hr; exact grown_any n v l w h hl hg hn
/-- The code of May. -/
def mayE (n : Int) (l : List Ed) : Int :=
  if l.all (fun e => mayB e.1 n) then (if apF (sortS (l.map (·.1))) then (if grown n l > 65536 then 4 else 0) else 5) else 3
def fillS (l : List Ed) (k : Nat) : List Sp := (l.take k).map (·.1) ++ List.replicate (l.length - k) (0, 0)
theorem fillS_len (l : List Ed) (k : Nat) (hk : k ≤ l.length) : (fillS l k).length = l.length := by unfold fillS; simp; omega
theorem fillS_succ (l : List Ed) (k : Nat) (h : k < l.length) : (fillS l k).set k l[k].1 = fillS l (k + 1) := by
  unfold fillS
  have hl : ((l.take k).map (·.1)).length = k := by simp; omega
  rw [List.set_append_right _ _ (by omega), hl, Nat.sub_self, List.take_succ_eq_append_getElem h, List.map_append, show l.length - k = (l.length - (k + 1)) + 1 by omega, List.replicate_succ, List.set_cons_zero, List.append_assoc]
  rfl
theorem fillS_all (l : List Ed) : fillS l l.length = l.map (·.1) := by unfold fillS; simp
theorem flat_set2 (l : List Sp) (i : Nat) (h : i < l.length) (x y : Int) : ((flat l).set (i * 2) (.int .i64 x)).set (i * 2 + 1) (.int .i64 y) = flat (l.set i (x, y)) := by
  induction l generalizing i with
  | nil => simp at h
  | cons a r ih =>
    have e : ∀ (b : Sp) (q : List Sp), flat (b :: q) = .int .i64 b.1 :: .int .i64 b.2 :: flat q := fun _ _ => rfl
    cases i with
    | zero => rfl
    | succ i =>
      have h1 : (i + 1) * 2 = i * 2 + 1 + 1 := by omega
      rw [e, h1, List.set_cons_succ, List.set_cons_succ, List.set_cons_succ, List.set_cons_succ, ih i (by simpa using h), List.set_cons_succ, e]
theorem made_flat (n : Nat) : (madeCells #[Value.int .i64 0, Value.int .i64 0] (n * 2)).toList = flat (List.replicate n (0, 0)) := by
  apply List.ext_getElem
  · rw [flat_len]; simp [madeCells]
  · intro i h1 h2
    have hi : i < n * 2 := by simpa [madeCells] using h1
    have hf := flat_at (List.replicate n ((0 : Int), (0 : Int))) (i / 2) (by simp; omega)
    have e1 : (madeCells #[Value.int .i64 0, Value.int .i64 0] (n * 2)).toList[i] = .int .i64 0 := by
      simp only [madeCells, Array.toList_map, Array.toList_range, List.getElem_map, List.getElem_range]
      rcases Nat.mod_two_eq_zero_or_one i with h | h <;> simp [h]
    rw [e1]
    simp only [List.getElem_replicate] at hf
    rcases Nat.mod_two_eq_zero_or_one i with h | h
    · have ht : i / 2 * 2 = i := by omega
      rw [ht, List.getElem?_eq_getElem h2] at hf
      exact (Option.some.inj hf.1).symm
    · have ht : i / 2 * 2 + 1 = i := by omega
      rw [ht, List.getElem?_eq_getElem h2] at hf
      exact (Option.some.inj hf.2).symm
theorem mayE_no (n : Int) (l : List Ed) (k : Nat) (h : k < l.length) (hb : mayB l[k].1 n = false) : mayE n l = 3 := by
  unfold mayE
  rw [if_neg]
  intro h1
  rw [List.all_eq_true] at h1
  have := h1 l[k] (List.getElem_mem h)
  rw [hb] at this; cases this
theorem mayE_in {n : Int} {l : List Ed} (h : ∀ j (h : j < l.length), mayB l[j].1 n = true) : l.all (fun e => mayB e.1 n) = true := by
  rw [List.all_eq_true]
  intro e he
  obtain ⟨i, hi, rfl⟩ := List.getElem_of_mem he
  exact h i hi
def MayInv (l : List Ed) (n : Int) (w : World) (i : Value) (wr : World) : Prop :=
  ∃ k : Nat, i = .int .i64 k ∧ k ≤ l.length ∧ wr.ownsRow w.heap.size 41 2 (.slice (some ⟨w.heap.size, 0, none⟩) l.length l.length) l.length (flat (fillS l k)) ∧ (∀ j (h : j < l.length), j < k → mayB l[j].1 n = true) ∧ Below w.heap.size w wr
set_option maxRecDepth 100000 in
set_option maxHeartbeats 4000000 in
theorem may6_any (n : Int) (v : Value) (l : List Ed) (w : World) (h : EdAt w v l) (hl : l.length ≤ 1000) (hx : ∀ e ∈ l, e.2.size ≤ 70000) (hn : 0 ≤ n ∧ n ≤ 1000000) :
    Calls Try.prog 52 #[.int .i64 n, v] w fun e w' => e = .returned (.int .i64 (mayE n l)) ∧ Below w.heap.size w w' := by
  obtain ⟨i0, hi0, hz0', hz1, hz2⟩ := info_parts info_sp
  obtain ⟨aA, cA, rfl⟩ := edat_len h
  have H := hide h
  clear h
  have HX := hide hx
  clear hx
  obtain ⟨r, hr⟩ : ∃ r, mayE n l = r := ⟨_, rfl⟩
  rw [hr]
  have HR := hide hr
  clear hr
  go_enter Try.func52, Try.ntmps52
  go_wp2_with (refine wpList_make_full _ rfl (.tmp 9) (.tmp 9) 103 rfl w.heap.size 41 i0 (.agg #[.int .i64 0, .int .i64 0]) 2 Try.underlying103 hi0 hz0' hz1 .i64 .i64 l.length l.length l.length rfl rfl rfl rfl (by rw [hz2]; omega) (by unfold maxLen; omega) (Nat.le_refl _) ?_; intro w1 ho1 hg1)
  have hb1 : Below w.heap.size w w1 := bl_grown (bl_refl w) hg1 (fun k hk => by cases hk)
  have hst : MayInv l n w (.int .i64 0) w1 := ⟨0, rfl, Nat.zero_le _, by
    have e : (madeCells (Value.agg #[.int .i64 0, .int .i64 0]).cells (l.length * 2)).toList = flat (fillS l 0) := by
      have := made_flat l.length
      unfold fillS
      simpa [Value.cells] using this
    rw [← e]; exact ho1, fun j h1 h2 => by omega, hb1⟩
  have HST := hide hst
  clear hst ho1 hg1
  go_loopw [13] (fun i wr => MayInv l n w i wr) (fun i _ => l.length - (intOf i).toNat)
  case atStart => exact HST.out
  case round =>
    obtain ⟨k, rfl, hk, hrow, hin, hbl⟩ := hrel
    by_cases hlt : k < l.length
    · obtain ⟨b1, o1, c1', hv1, hc1, hm1, hlb1, hcell1⟩ := edat_some (edat_below H.out hbl) (by omega)
      injection hv1 with hv1 _ hv1c
      subst hv1 hv1c
      unfold maxLen at hm1
      obtain ⟨x1, x2, x3⟩ := hcell1 k hlt
      obtain ⟨rb, hrb⟩ : ∃ rb, mayB l[k].1 n = rb := ⟨_, rfl⟩
      have hno := mayE_no n l k hlt
      have hyes : rb = true → ∀ j (h : j < l.length), j < k + 1 → mayB l[j].1 n = true := fun h j h1 h2 => by
        by_cases hj : j = k
        · subst hj; rw [hrb]; exact h
        · exact hin j h1 (by omega)
      have hfl := fillS_len l k hk
      have hset := flat_set2 (fillS l k) k (by omega) l[k].1.1 l[k].1.2
      have hsu := fillS_succ l k hlt
      have e3 : (l[k].1.1, l[k].1.2) = l[k].1 := rfl
      rw [e3, hsu] at hset
      have HSET := hide hset
      have HNO := hide (fun h => HR.out.symm.trans (hno (hrb.trans h)))
      have HYES := hide hyes
      have z1 : wr.cell? ⟨w.heap.size, k * 2, none⟩ = some (.int .i64 (fillS l k)[k].1) := by rw [World.ownsRow.cellAt hrow (k * 2) (by omega)]; exact (flat_at _ k (by omega)).1
      have z2 : wr.cell? ⟨w.heap.size, k * 2 + 1, none⟩ = some (.int .i64 (fillS l k)[k].2) := by rw [World.ownsRow.cellAt hrow (k * 2 + 1) (by omega)]; exact (flat_at _ k (by omega)).2
      have HROW := hide hrow
      have HRB := hide hrb
      generalize (fillS l k)[k].1 = q1 at z1
      generalize (fillS l k)[k].2 = q2 at z2
      clear hcell1 hno hyes hset hsu hrow hrb hin e3 hfl HR HST
      generalize l[k] = s at *
      obtain ⟨⟨f, t⟩, x⟩ := s
      have hwA : w.heap.size < wr.heap.size := World.block_lt_of_cell? wr _ z1
      go_wp2_with fail
      refine (c1 (f, t) n rb _ HRB.out).mono ?_
      rintro e w5 ⟨rfl, hb5⟩
      have hb6 : Below wr.heap.size wr w5 := bl_trans (bl_alloc (bl_refl wr) _) hb5
      have y1 := cell_later hb5 (World.cell?_alloc_mark wr #[.int .i64 f, .int .i64 t, .string x] 61 (0, 0) 0)
      have y2 := cell_later hb5 (World.cell?_alloc_mark wr #[.int .i64 f, .int .i64 t, .string x] 61 (0, 0) 1)
      have u1 := cell_later hb6 z1
      have u2 := cell_later hb6 z2
      have u3 : w5.frozen? ⟨w.heap.size, k * 2, none⟩ = false := World.ownsRow.frozenAt (own_below HROW.out hb6) _
      have u4 : w5.frozen? ⟨w.heap.size, k * 2 + 1, none⟩ = false := World.ownsRow.frozenAt (own_below HROW.out hb6) _
      cases rb
      · have HNO2 := hide (HNO.out rfl)
        clear HNO HYES HSET
        go_wp2
        go_ret
        exact ⟨ret_int HNO2.out.symm, bl_trans hbl hb6⟩
      · have fin : MayInv l n w (.int .i64 ((k : Int) + 1)) ((w5.setCell ⟨w.heap.size, k * 2, none⟩ (.int .i64 f)).setCell ⟨w.heap.size, k * 2 + 1, none⟩ (.int .i64 t)) := by
          have h1 := (World.ownsRow.stored (own_below HROW.out hb6) (k * 2) (.int .i64 f)).1
          have h2 := (World.ownsRow.stored h1 (k * 2 + 1) (.int .i64 t)).1
          rw [HSET.out] at h2
          exact ⟨k + 1, by go_num, by omega, h2, HYES.out rfl, bl_set (bl_set (bl_trans hbl hb6) (Nat.le_refl _) _) (Nat.le_refl _) _⟩
        have FIN := hide fin
        clear fin HNO HYES HSET z1 z2 x1 x2 x3
        go_wp2
        refine ⟨?_, by first | (simp [intOf]; done) | (simp [intOf]; omega)⟩
        exact FIN.out
    · obtain rfl : k = l.length := by omega
      rw [fillS_all] at hrow
      have hsl : (l.map (·.1)).length = l.length := by simp
      have hsp : SpAt wr (.slice (some ⟨w.heap.size, 0, none⟩) l.length l.length) (l.map (·.1)) := own_spat (by rw [hsl]; exact hrow)
      have HSP := hide hsp
      have hall := mayE_in (fun j h => hin j h h)
      have hr := HR.out
      unfold mayE at hr
      rw [if_pos hall] at hr
      have hgd : ∀ e ∈ l, GoodD e := fun e he => by
        obtain ⟨i, hi, rfl⟩ := List.getElem_of_mem he
        have := hin i hi hi
        unfold mayB at this
        simp only [decide_eq_true_iff] at this
        exact ⟨by omega, by omega, HX.out _ he⟩
      have HG := hide hgd
      obtain ⟨ra, hra⟩ : ∃ ra, apF (sortS (l.map (·.1))) = ra := ⟨_, rfl⟩
      rw [hra] at hr
      have HRA := hide hra
      have HR2 := hide hr
      clear hrow hsp hall hr hra hgd hin HR HST hlt
      go_wp2_with fail
      refine (aparte_any _ (l.map (·.1)) ra _ HSP.out (by rw [hsl]; exact hl) HRA.out).mono ?_
      rintro e w5 ⟨rfl, hb5⟩
      have hb6 := bl_trans hbl hb5
      have HE6 := hide (edat_below H.out hb6)
      cases ra
      · have HR3 := HR2.out
        rw [if_neg (by simp)] at HR3
        have HR4 := hide HR3
        clear HR3 HR2 hsl
        go_wp2
        go_ret
        exact ⟨ret_int HR4.out, hb6⟩
      · have HR3 := HR2.out
        rw [if_pos rfl] at HR3
        obtain ⟨g, hgr⟩ : ∃ g, grown n l = g := ⟨_, rfl⟩
        rw [hgr] at HR3
        have HGR := hide hgr
        have HR4 := hide HR3
        clear HR3 HR2 hgr hsl
        go_wp2_with fail
        refine (growne_any n g _ l _ HE6.out hl HG.out (by omega) HGR.out).mono ?_
        rintro e w7 ⟨rfl, hb7⟩
        by_cases hbig : 65536 < g
        · have h0 := HR4.out
          rw [if_pos (by omega)] at h0
          have HR5 := hide h0
          clear h0 HR4
          go_wp2
          go_ret
          exact ⟨ret_int HR5.out, bl_trans hb6 hb7⟩
        · have h0 := HR4.out
          rw [if_neg (by omega)] at h0
          have HR5 := hide h0
          clear h0 HR4
          go_wp2
          go_ret
          exact ⟨ret_int HR5.out, bl_trans hb6 hb7⟩
end Go.Proofs.Ytjmoeahlbgdkbaa
