/- Two dice of the same numbers tell the same, however they are asked by turns. Conditions: none beyond the form's own. -/
import Derived.Test.YtdknaahkjhplgaaRows
import Derived.Test.YtdknaahkjhplgaaArgs
import Derived.Test.YtdknaahkjhplgaaDiceB
namespace Go.Proofs.Ytdknaahkjhplgaa.diceApart
open Go.Proofs.Ytdknaahkjhplgaa
open Go.ChangeShapes Go.WideShapes Go.ChangeAt Go.RowKit Go.Deep
open Go.ChangeMaps (open_string shut_string)
set_option linter.unusedVariables false

theorem own : ownKnob Try.prog.godebug = none := by kernel_rfl
theorem laidOut : laidOutB Try.prog = true := by kernel_rfl
def st (zs : List Int) : Nat → List Int × Int
  | 0 => (zs, 0)
  | m + 1 => ((st zs m).1.tail, nxt (st zs m).1 (st zs m).2)
def num (zs : List Int) (m : Nat) : Int := nxt (st zs m).1 (st zs m).2
theorem st_rest (zs : List Int) (m : Nat) : (st zs m).1 = zs.drop m := by
  induction m with
  | zero => rfl
  | succ m ih => rw [st, ih, List.tail_drop]
/-- The dice after m numbers. -/
def DiceN (w : World) (b g : Nat) (zs : List Int) (m : Nat) : Prop := DiceAt w b g (st zs m).1 (st zs m).2
def told (zs : List Int) (p : Nat) : List Value := (List.range p).map fun i => Value.int .u32 (num zs i)
theorem told_succ (zs : List Int) (p : Nat) : told zs (p + 1) = told zs p ++ [.int .u32 (num zs p)] := by
  unfold told; rw [List.range_succ, List.map_append]; rfl
theorem told_at (zs : List Int) (p i : Nat) (h : i < p) : (told zs p)[i]? = some (.int .u32 (num zs i)) := by
  unfold told; rw [List.getElem?_map, List.getElem?_range h]; rfl
theorem nextN (w : World) (b g : Nat) (zs : List Int) (m : Nat) (h : DiceN w b g zs m) :
    Calls Try.prog 18 #[.pointer (some ⟨b, 0, none⟩)] w fun e w' => e = .returned (.int .u32 (num zs m)) ∧ DiceN w' b g zs (m + 1) ∧ w.grownBy w' (some b) := next_any w b g _ _ h
theorem leftN (w : World) (b g : Nat) (zs : List Int) (m : Nat) (h : DiceN w b g zs m) :
    Calls Try.prog 19 #[.pointer (some ⟨b, 0, none⟩)] w fun e w' => e = .returned (.int .i64 (zs.length - m : Nat)) ∧ w = w' := by
  have := left_any w b g _ _ h
  rw [st_rest, List.length_drop] at this
  exact this
theorem DiceN.kept {w w' : World} {b g : Nat} {zs : List Int} {m : Nat} (h : DiceN w b g zs m) (hb : w'.heap[b]? = w.heap[b]?) (hg : w'.heap[g]? = w.heap[g]?) : DiceN w' b g zs m := DiceAt.kept h hb hg
def Sep (v u : Value) : Prop := ∀ k, v.ownBlock = some k → u.ownBlock ≠ some k
theorem own_next {w w' : World} {B b e n : Nat} {v : Value} {xs : List Value} (h : w.ownsRow B e 1 v n xs) (hg : w.grownBy w' (some b)) (hb : b < B) : w'.ownsRow B e 1 v n xs := by
  refine h.kept hg ?_
  cases hv : v.ownBlock with
  | none => exact .inl rfl
  | some k => exact .inr (fun e => by have := (h.lt k hv).1; have := Option.some.inj e; omega)
theorem own_sep {w w' : World} {B e n : Nat} {v u : Value} {xs : List Value} (h : w.ownsRow B e 1 u n xs) (hg : w.grownBy w' v.ownBlock) (hs : Sep v u) : w'.ownsRow B e 1 u n xs := by
  refine h.kept hg ?_
  cases hu : u.ownBlock with
  | none => exact .inl rfl
  | some k => exact .inr (fun e => hs k e.symm hu)
theorem sep_push {w : World} {B e n : Nat} {v v' u : Value} {xs : List Value} (hs : Sep v u) (hu : w.ownsRow B e 1 u n xs) (hat : v'.ownBlock = v.ownBlock ∨ ∃ k, v'.ownBlock = some k ∧ w.heap.size ≤ k) : Sep v' u := by
  intro k hk hk2
  rcases hat with h | ⟨k', h, hle⟩
  · exact hs k (h.symm.trans hk) hk2
  · have := (hu.lt k hk2).2
    rw [h] at hk
    have := Option.some.inj hk
    omega
theorem sep_symm {v u : Value} (h : Sep v u) : Sep u v := fun k h1 h2 => h k h2 h1
theorem dice_row {w w' : World} {B b g e n m : Nat} {v : Value} {xs : List Value} {zs : List Int} (h : DiceN w b g zs m) (ho : w.ownsRow B e 1 v n xs) (hg : w.grownBy w' v.ownBlock) (hb : b < B) (hg' : g < B) (hB : B ≤ w.heap.size) : DiceN w' b g zs m :=
  h.kept (hg.block b (by omega) (fun e => by have := (ho.lt b e.symm).1; omega)) (hg.block g (by omega) (fun e => by have := (ho.lt g e.symm).1; omega))
theorem grown_below {B : Nat} {w w' : World} {row : Option Nat} (hg : w.grownBy w' row) (hB : B ≤ w.heap.size) (hr : ∀ k, row = some k → B ≤ k) : Below B w w' := (Below.refl B w).grown hg hB hr
set_option maxRecDepth 100000 in
set_option maxHeartbeats 1000000 in
theorem walk (a0 : Option Addr) (len0 cap0 : Nat) (z0 : List Int) (a1 : Option Addr) (len1 cap1 : Nat) (z1 : List Bool) (w : World) (w0 : IsInts .u32 w a0 len0 cap0 z0) (w1 : IsBools w a1 len1 cap1 z1) :
    Calls Try.prog 5 #[.slice a0 len0 cap0, .slice a1 len1 cap1] w fun e w' => e = .returned (.bool true) ∧ Below w.heap.size w w' := by
  by_cases hs : len0 ≤ 60
  · by_cases ht : len1 ≤ 120
    · have hlz : (z0.take len0).length = len0 := by have := ints_len w0; simp; omega
      obtain ⟨i0, hi0, hz0', hz1, hz2⟩ := info_parts info_u32
      have hsrc : 0 < len1 → ∃ bx off, a1 = some ⟨bx, off, none⟩ ∧ len1 ≤ z1.length ∧ len1 ≤ cap1 ∧ cap1 ≤ maxLen ∧ ∀ i, i < z1.length → w.cell? ⟨bx, off + i, none⟩ = some (.bool (z1.getD i false)) := fun hp => bools_cell w1 hp
      have HZ := hide hlz
      have HSRC := hide hsrc
      clear hlz hsrc w1
      generalize hzs : z0.take len0 = zs at *
      have HZS := hide hzs
      clear hzs
      go_enter Try.func5, Try.ntmps5
      go_wp2_with fail
      refine (dnew_ints w a0 len0 cap0 z0 w0 (by omega)).mono ?_
      rintro e w1 ⟨b, g, rfl, hb1, hg1, hb2, hg2, hd1, hbl1⟩
      have w0' : IsInts .u32 w1 a0 len0 cap0 z0 := by
        rcases w0 with h | ⟨x, h1, h2, h3, h4, h5, h6⟩
        · exact .inl h
        · exact .inr ⟨x, h1, h2, h3, h4, fun i hi => cell_later hbl1 (h5 i hi), h6⟩
      go_wp2_with fail
      refine (dnew_ints w1 a0 len0 cap0 z0 w0' (by omega)).mono ?_
      rintro e w2 ⟨b', g', rfl, hb1', hg1', hb2', hg2', hd1', hbl1'⟩
      have hbl2 := bl_trans hbl1 hbl1'
      have hd2 : DiceN w2 b g zs 0 := by
        rw [HZS.out] at hd1
        exact DiceAt.kept hd1 (hbl1'.block b hb2) (hbl1'.block g hg2)
      have hd2' : DiceN w2 b' g' zs 0 := by rw [HZS.out] at hd1'; exact hd1'
      have hsz := hbl1'.size
      clear hd1 hd1' hbl1 hbl1' w0 w0'
      obtain ⟨B, hB⟩ : ∃ B, B = w2.heap.size := ⟨_, rfl⟩
      have hBle : B ≤ w2.heap.size := by omega
      have hwB : w.heap.size ≤ B := by have := hbl2.size; omega
      have q1 : b < B := by omega
      have q2 : g < B := by omega
      have q3 : b' < B := by omega
      have q4 : g' < B := by omega
      have q5 : w.heap.size ≤ b := hb1
      have q6 : w.heap.size ≤ b' := by omega
      have nb1 : b ≠ b' := by omega
      have nb2 : b ≠ g' := by omega
      have nb3 : b' ≠ g := by omega
      have NB := hide (And.intro nb1 (And.intro nb2 nb3))
      have n1 := World.ownsRow_nil w2 B 26 1
      clear hB nb1 nb2 nb3 hb1 hb1' hg1 hg1' hb2 hb2' hg2 hg2' hsz
      go_wp2
      go_loopw [7, 8, 9] (fun v u i wr => ∃ (k p q : Nat), k ≤ len1 ∧ p + q = k ∧ i = .int .i64 k ∧ wr.ownsRow B 26 1 v p (told zs p) ∧ wr.ownsRow B 26 1 u q (told zs q) ∧ Sep v u ∧ DiceN wr b g zs p ∧ DiceN wr b' g' zs q ∧ B ≤ wr.heap.size ∧ Below w.heap.size w wr)
        (fun _ _ i _ => len1 - (intOf i).toNat)
      case atStart => exact ⟨0, 0, 0, Nat.zero_le _, rfl, rfl, n1, n1, (fun k hk => by cases hk), hd2, hd2', hBle, hbl2⟩
      case round =>
        obtain ⟨k, p, q, hk, hpq, rfl, hv, hu, hsep, hda, hdb, hBw, hbl⟩ := hrel
        have HPQ := hide hpq
        have hp : p ≤ 120 := by omega
        have hq : q ≤ 120 := by omega
        clear hpq
        by_cases hlt : k < len1
        · obtain ⟨bx, off, rfl, hz1', hz2', hz3, hcs⟩ := HSRC.out (by omega)
          have hc2 := cell_later hbl (hcs k (by omega))
          unfold maxLen at hz3
          clear hcs
          generalize z1.getD k false = tk at hc2
          cases tk
          · -- the second one is asked
            go_wp2_with fail
            refine (nextN wr b' g' zs q hdb).mono ?_
            rintro e w3 ⟨rfl, hdb3, hgr⟩
            have hu3 := own_next hu hgr q3
            have hv3 := own_next hv hgr q3
            have hda3 : DiceN w3 b g zs p := hda.kept (hgr.block b (by omega) (fun e => NB.out.1 (Option.some.inj e))) (hgr.block g (by omega) (fun e => NB.out.2.2 (Option.some.inj e).symm))
            have hbl3 : Below w.heap.size w w3 := bl_next hbl hgr q6
            have hB3 : B ≤ w3.heap.size := Nat.le_trans hBw hgr.size
            clear hv hu hda hdb hbl
            go_wp2_with (at_builtin; (refine wpList_push w3 rfl _ _ 22 rfl B 26 i0 (.int .u32 0) 1 4 Try.underlying22 hi0 hz0' hz1 hz2 rfl (by decide) u8 q (told zs q) rfl hu3 1 #[.int .u32 (num zs q)] rfl rfl (by simp [Value.oneCell']) (by omega) (by decide) hB3 ?_); intro v' w4 hu4 hg4 hat)
            have hv4 := own_sep hv3 hg4 (sep_symm hsep)
            have hs4 := sep_symm (sep_push (sep_symm hsep) hv3 hat)
            have hda4 := dice_row hda3 hu3 hg4 q1 q2 hB3
            have hdb4 := dice_row hdb3 hu3 hg4 q3 q4 hB3
            have hB4 : B ≤ w4.heap.size := Nat.le_trans hB3 hg4.size
            have hbl4 : Below w.heap.size w w4 := bl_own hbl3 hu3 hg4 hwB
            have hu5 : w4.ownsRow B 26 1 v' (q + 1) (told zs (q + 1)) := by rw [told_succ]; exact hu4
            refine ⟨?_, by simp [intOf]; omega⟩
            have hpq := HPQ.out
            first
              | exact ⟨k + 1, p, q + 1, by omega, by omega, by go_num, hv4, hu5, hs4, hda4, hdb4, hB4, hbl4⟩
              | ((repeat apply Exists.intro); exact ⟨⟨k + 1, p, q + 1, by omega, by omega, by go_num, hv4, hu5, hs4, hda4, hdb4, hB4, hbl4⟩, rfl⟩)
          · go_wp2_with fail
            refine (nextN wr b g zs p hda).mono ?_
            rintro e w3 ⟨rfl, hda3, hgr⟩
            have hu3 := own_next hu hgr q1
            have hv3 := own_next hv hgr q1
            have hdb3 : DiceN w3 b' g' zs q := hdb.kept (hgr.block b' (by omega) (fun e => NB.out.1 (Option.some.inj e).symm)) (hgr.block g' (by omega) (fun e => NB.out.2.1 (Option.some.inj e).symm))
            have hbl3 : Below w.heap.size w w3 := bl_next hbl hgr q5
            have hB3 : B ≤ w3.heap.size := Nat.le_trans hBw hgr.size
            clear hv hu hda hdb hbl
            go_wp2_with (at_builtin; (refine wpList_push w3 rfl _ _ 22 rfl B 26 i0 (.int .u32 0) 1 4 Try.underlying22 hi0 hz0' hz1 hz2 rfl (by decide) u7 p (told zs p) rfl hv3 1 #[.int .u32 (num zs p)] rfl rfl (by simp [Value.oneCell']) (by omega) (by decide) hB3 ?_); intro v' w4 hv4 hg4 hat)
            have hu4 := own_sep hu3 hg4 hsep
            have hs4 := sep_push hsep hu3 hat
            have hda4 := dice_row hda3 hv3 hg4 q1 q2 hB3
            have hdb4 := dice_row hdb3 hv3 hg4 q3 q4 hB3
            have hB4 : B ≤ w4.heap.size := Nat.le_trans hB3 hg4.size
            have hbl4 : Below w.heap.size w w4 := bl_own hbl3 hv3 hg4 hwB
            have hv5 : w4.ownsRow B 26 1 v' (p + 1) (told zs (p + 1)) := by rw [told_succ]; exact hv4
            refine ⟨?_, by simp [intOf]; omega⟩
            have hpq := HPQ.out
            first
              | exact ⟨k + 1, p + 1, q, by omega, by omega, by go_num, hv5, hu4, hs4, hda4, hdb4, hB4, hbl4⟩
              | ((repeat apply Exists.intro); exact ⟨⟨k + 1, p + 1, q, by omega, by omega, by go_num, hv5, hu4, hs4, hda4, hdb4, hB4, hbl4⟩, rfl⟩)
        · have hfv := own_form hv
          have hfu := own_form hu
          obtain ⟨A, c, rfl⟩ := own_slice hv
          obtain ⟨A', c', rfl⟩ := own_slice hu
          have HFV := hide hfv
          have HFU := hide hfu
          clear hfv hfu hv hu hsep
          go_wp2
          go_loopw [10] (fun i w5 => ∃ (j m : Nat), j ≤ p ∧ i = .int .i64 j ∧ w5 = wr.drewN m)
            (fun i _ => p - (intOf i).toNat)
          case atStart => exact ⟨0, 0, Nat.zero_le _, rfl, rfl⟩
          case round =>
            obtain ⟨j, m, hj, rfl, rfl⟩ := hrel
            by_cases hjp : j < p
            · by_cases hjq : j < q
              · rcases HFV.out with ⟨e1, _, _⟩ | ⟨gx, cx, e1, _, _, hx1, hx2, hx3⟩
                · cases e1; omega
                · rcases HFU.out with ⟨e2, _, _⟩ | ⟨gy, cy, e2, _, _, hy1, hy2, hy3⟩
                  · cases e2; omega
                  · cases e1
                    cases e2
                    have c1 := hx3 j _ (told_at zs p j hjp)
                    have c2 := hy3 j _ (told_at zs q j hjq)
                    unfold maxLen at hx2 hy2
                    clear hx3 hy3
                    go_wp2
                    go_quiet (fail)
                    go_wp2
                    refine ⟨?_, by simp [intOf]; omega⟩
                    first
                      | exact ⟨j + 1, _, by omega, by go_num, rfl⟩
                      | ((repeat apply Exists.intro); exact ⟨⟨j + 1, _, by omega, by go_num, rfl⟩, rfl⟩)
              · by_cases hpl : p ≤ len0
                · by_cases hql : q ≤ len0
                  · go_wp2_with fail
                    refine (leftN (wr.drewN m) b g zs p (hda.kept rfl rfl)).mono ?_
                    rintro e w6 ⟨rfl, hw6⟩
                    subst hw6
                    rw [HZ.out]
                    rw [show ((len0 - p : Nat) : Int) = (len0 : Int) - (p : Int) by omega]
                    go_wp2_with fail
                    refine (leftN (wr.drewN m) b' g' zs q (hdb.kept rfl rfl)).mono ?_
                    rintro e w6 ⟨rfl, hw6⟩
                    subst hw6
                    rw [HZ.out]
                    rw [show ((len0 - q : Nat) : Int) = (len0 : Int) - (q : Int) by omega]
                    go_wp2_with fail
                    refine (awake1_any _).mono ?_
                    rintro e w6 ⟨rfl, hb6⟩
                    go_wp2
                    go_ret
                    exact ⟨rfl, bl_trans (bl_drewN hbl _) hb6⟩
                  · omega
                · by_cases hql : q ≤ len0
                  · go_wp2_with fail
                    refine (leftN (wr.drewN m) b g zs p (hda.kept rfl rfl)).mono ?_
                    rintro e w6 ⟨rfl, hw6⟩
                    subst hw6
                    rw [HZ.out]
                    rw [show ((len0 - p : Nat) : Int) = 0 by omega]
                    go_wp2_with fail
                    refine (leftN (wr.drewN m) b' g' zs q (hdb.kept rfl rfl)).mono ?_
                    rintro e w6 ⟨rfl, hw6⟩
                    subst hw6
                    rw [HZ.out]
                    rw [show ((len0 - q : Nat) : Int) = (len0 : Int) - (q : Int) by omega]
                    go_wp2_with fail
                    refine (awake1_any _).mono ?_
                    rintro e w6 ⟨rfl, hb6⟩
                    go_wp2
                    go_ret
                    exact ⟨rfl, bl_trans (bl_drewN hbl _) hb6⟩
                  · go_wp2_with fail
                    refine (leftN (wr.drewN m) b g zs p (hda.kept rfl rfl)).mono ?_
                    rintro e w6 ⟨rfl, hw6⟩
                    subst hw6
                    rw [HZ.out]
                    rw [show ((len0 - p : Nat) : Int) = 0 by omega]
                    go_wp2_with fail
                    refine (leftN (wr.drewN m) b' g' zs q (hdb.kept rfl rfl)).mono ?_
                    rintro e w6 ⟨rfl, hw6⟩
                    subst hw6
                    rw [HZ.out]
                    rw [show ((len0 - q : Nat) : Int) = 0 by omega]
                    go_wp2_with fail
                    refine (awake1_any _).mono ?_
                    rintro e w6 ⟨rfl, hb6⟩
                    go_wp2
                    go_ret
                    exact ⟨rfl, bl_trans (bl_drewN hbl _) hb6⟩
            · by_cases hpl : p ≤ len0
              · by_cases hql : q ≤ len0
                · go_wp2_with fail
                  refine (leftN (wr.drewN m) b g zs p (hda.kept rfl rfl)).mono ?_
                  rintro e w6 ⟨rfl, hw6⟩
                  subst hw6
                  rw [HZ.out]
                  rw [show ((len0 - p : Nat) : Int) = (len0 : Int) - (p : Int) by omega]
                  go_wp2_with fail
                  refine (leftN (wr.drewN m) b' g' zs q (hdb.kept rfl rfl)).mono ?_
                  rintro e w6 ⟨rfl, hw6⟩
                  subst hw6
                  rw [HZ.out]
                  rw [show ((len0 - q : Nat) : Int) = (len0 : Int) - (q : Int) by omega]
                  go_wp2_with fail
                  refine (awake1_any _).mono ?_
                  rintro e w6 ⟨rfl, hb6⟩
                  go_wp2
                  go_ret
                  exact ⟨rfl, bl_trans (bl_drewN hbl _) hb6⟩
                · go_wp2_with fail
                  refine (leftN (wr.drewN m) b g zs p (hda.kept rfl rfl)).mono ?_
                  rintro e w6 ⟨rfl, hw6⟩
                  subst hw6
                  rw [HZ.out]
                  rw [show ((len0 - p : Nat) : Int) = (len0 : Int) - (p : Int) by omega]
                  go_wp2_with fail
                  refine (leftN (wr.drewN m) b' g' zs q (hdb.kept rfl rfl)).mono ?_
                  rintro e w6 ⟨rfl, hw6⟩
                  subst hw6
                  rw [HZ.out]
                  rw [show ((len0 - q : Nat) : Int) = 0 by omega]
                  go_wp2_with fail
                  refine (awake1_any _).mono ?_
                  rintro e w6 ⟨rfl, hb6⟩
                  go_wp2
                  go_ret
                  exact ⟨rfl, bl_trans (bl_drewN hbl _) hb6⟩
              · by_cases hql : q ≤ len0
                · go_wp2_with fail
                  refine (leftN (wr.drewN m) b g zs p (hda.kept rfl rfl)).mono ?_
                  rintro e w6 ⟨rfl, hw6⟩
                  subst hw6
                  rw [HZ.out]
                  rw [show ((len0 - p : Nat) : Int) = 0 by omega]
                  go_wp2_with fail
                  refine (leftN (wr.drewN m) b' g' zs q (hdb.kept rfl rfl)).mono ?_
                  rintro e w6 ⟨rfl, hw6⟩
                  subst hw6
                  rw [HZ.out]
                  rw [show ((len0 - q : Nat) : Int) = (len0 : Int) - (q : Int) by omega]
                  go_wp2_with fail
                  refine (awake1_any _).mono ?_
                  rintro e w6 ⟨rfl, hb6⟩
                  go_wp2
                  go_ret
                  exact ⟨rfl, bl_trans (bl_drewN hbl _) hb6⟩
                · go_wp2_with fail
                  refine (leftN (wr.drewN m) b g zs p (hda.kept rfl rfl)).mono ?_
                  rintro e w6 ⟨rfl, hw6⟩
                  subst hw6
                  rw [HZ.out]
                  rw [show ((len0 - p : Nat) : Int) = 0 by omega]
                  go_wp2_with fail
                  refine (leftN (wr.drewN m) b' g' zs q (hdb.kept rfl rfl)).mono ?_
                  rintro e w6 ⟨rfl, hw6⟩
                  subst hw6
                  rw [HZ.out]
                  rw [show ((len0 - q : Nat) : Int) = 0 by omega]
                  go_wp2_with fail
                  refine (awake1_any _).mono ?_
                  rintro e w6 ⟨rfl, hb6⟩
                  go_wp2
                  go_ret
                  exact ⟨rfl, bl_trans (bl_drewN hbl _) hb6⟩
    · go_enter Try.func5, Try.ntmps5
      go_wp2_with fail
      refine (awake1_any _).mono ?_
      rintro e w1 ⟨rfl, hb1⟩
      go_wp2
      go_ret
      exact ⟨rfl, hb1⟩
  · go_enter Try.func5, Try.ntmps5
    go_wp2_with fail
    refine (awake1_any _).mono ?_
    rintro e w1 ⟨rfl, hb1⟩
    go_wp2
    go_ret
    exact ⟨rfl, hb1⟩

set_option maxRecDepth 100000 in
theorem lifted (os : Os) (started : os.Started) (H : Type) (enc : TypeId × Value → H) :
    ReturnsInHanded {} Try.checked os 5 .any (Rows.diceApartSpec.pre6 enc Try.prog Try.f5 Rows.diceApartRow.domain false) (Rows.diceApartSpec.post enc Try.prog Try.f5 false true false false) := by
  refine returnsInHanded_of_change (C := Try.checked) own started (by kernel_rfl) Try.func5
    (ChangeSpec.witness6 (enc := enc) (C := Try.checked) false ⟨#[], #[.slice none 0 0, .slice none 0 0], []⟩ 8 (by kernel_rfl) (by kernel_rfl) (by kernel_rfl) (by kernel_rfl)) ?_
  intro W base args ds gs before hval0 hW hcnd _
  have hval : ∀ (j : Nat) t v, Try.f5.params[j]? = some t → args[j]? = some v → Value.okWide Try.prog W .any base t v := hval0
  have hW' := hW
  obtain ⟨p, q, hA0, hV, rfl, hfz, hnd⟩ := hW
  have hA : DataW.TrodAll enc Try.prog W 0 (fun _ => true) true Try.f5.params.toList args.toList ds p := hA0
  rw [Try.params5] at hA hval
  obtain ⟨v0, vs0, d0, ds0, p0, q0, hargs, rfl, rfl, h0, r0⟩ := trodAll_cons hA
  obtain ⟨v1, vs1, d1, ds1, p1, q1, rfl, rfl, rfl, h1, r1⟩ := trodAll_cons r0
  obtain ⟨rfl, rfl, rfl⟩ := trodAll_nil r1
  obtain rfl : args = #[v0, v1] := by cases args; simp_all
  obtain ⟨rfl, rfl⟩ := trodVars_none hV
  have k0 := h0
  have lt0 : ∀ x ∈ p0, x.block < W.heap.size := by obtain ⟨m, hm⟩ := k0; exact DataW.trod_lt m _ _ _ hm
  obtain ⟨a0, len0, cap0, rfl⟩ := okWide_slice Try.underlying22 (hval 0 22 v0 rfl rfl)
  obtain ⟨z0, w0⟩ : ∃ zs, IsInts .u32 W a0 len0 cap0 zs := by
    obtain ⟨fuel, hf⟩ := h0
    rcases open_ints Try.underlying22 Try.underlying26 (by kernel_rfl) hf with ⟨hcs, _⟩ | ⟨x, l, c, zs, hcs, _, hl, hm, hz, _, hcell, hwz⟩
    · simp [Value.cells] at hcs
      obtain ⟨rfl, rfl, rfl⟩ := hcs
      exact ⟨[], .inl ⟨rfl, rfl, rfl, rfl⟩⟩
    · simp [Value.cells] at hcs
      obtain ⟨rfl, rfl, rfl⟩ := hcs
      exact ⟨zs, .inr ⟨_, rfl, hl, hm, by simpa using hz, hcell, hwz⟩⟩
  have k1 := h1
  have lt1 : ∀ x ∈ p1, x.block < W.heap.size := by obtain ⟨m, hm⟩ := k1; exact DataW.trod_lt m _ _ _ hm
  obtain ⟨a1, len1, cap1, rfl⟩ := okWide_slice Try.underlying31 (hval 1 31 v1 rfl rfl)
  obtain ⟨z1, w1⟩ : ∃ zs, IsBools W a1 len1 cap1 zs := by
    obtain ⟨fuel, hf⟩ := h1
    rcases open_bools Try.underlying31 Try.underlying4 (by kernel_rfl) hf with ⟨hcs, _⟩ | ⟨x, l, c, B, hcs, _, hl, hm, _, hcell⟩
    · simp [Value.cells] at hcs
      obtain ⟨rfl, rfl, rfl⟩ := hcs
      exact ⟨[], .inl ⟨rfl, rfl, rfl, rfl⟩⟩
    · simp [Value.cells] at hcs
      obtain ⟨rfl, rfl, rfl⟩ := hcs
      exact ⟨(List.range cap1).map B, .inr ⟨_, rfl, hl, hm, by simp, fun i hi => by rw [hcell i (by simpa using hi)]; simp only [List.length_map, List.length_range] at hi; simp [List.getD, hi]⟩⟩
  clear hA0 hval0
  refine (walk a0 len0 cap0 z0 a1 len1 cap1 z1 W w0 w1).mono fun e W' ⟨he, bel⟩ => ?_
  subst he
  exact ⟨_, rfl, _, _, _, [], _, [], hW', trodAll_mk1 (shut_bool Try.underlying4 _), (trodAll_cons_mk (Below.trod laidOut (by kernel_rfl) (of_decide_eq_true (by kernel_rfl)) k0 bel lt0) (trodAll_cons_mk (Below.trod laidOut (by kernel_rfl) (of_decide_eq_true (by kernel_rfl)) k1 bel lt1) trodAll_mk0)), rfl, bel.frame _, fun h => by cases h⟩

theorem over : Rows.diceApartRow.holds Try.pinned (OpenSpec.ofChange Rows.diceApartSpec) :=
  OpenClaim.holds_of_wide 5 Try.f5 rfl rfl rfl rfl rfl rfl rfl ⟨rfl, rfl, rfl, rfl, rfl⟩ rfl rfl rfl rfl rfl (by kernel_rfl) Try.func5 (by kernel_rfl)
    (of_decide_eq_true (by kernel_rfl)) (by unfold Func.isWrapper; first | (rw [if_pos (by decide +kernel)]; kernel_rfl) | (rw [if_neg (by decide +kernel)]; exact ⟨rfl, rfl⟩))
    (fun os started H enc _ => lifted os started H enc)

theorem proved : Rows.DiceApartSaid := over
end Go.Proofs.Ytdknaahkjhplgaa.diceApart
