/- Contract: may a format be (fmts.May). Condition: a format that is not too long. -/
import Derived.Test.YtbphckblbbbakaaDoorFmM
namespace Go.Proofs.YtbphckblbbbakaaDoor
open Go.ChangeShapes Go.WideShapes Go.ChangeAt Go.RowKit
attribute [local go_sem ↓] Go.wp_at_zero Go.wp_at_succ
set_option maxRecDepth 100000
set_option linter.unusedVariables false
def okF (l : List Fm) (i : Nat) : Bool := mayF (l[i]!) && !(decide (0 < i) && (l[i]!).k == 0 && (l[i - 1]!).k == 0)
/-- May a format be. -/
def mayL (l : List Fm) : Bool := (List.range l.length).all (okF l)
theorem mayL_no {l : List Fm} (i : Nat) (h : i < l.length) (ho : okF l i = false) : mayL l = false := by
  rw [← Bool.not_eq_true]
  intro hh
  have := List.all_eq_true.1 hh i (List.mem_range.2 h)
  rw [ho] at this; cases this
theorem mayL_yes {l : List Fm} (h : ∀ i, i < l.length → okF l i = true) : mayL l = true :=
  List.all_eq_true.2 fun i hi => h i (List.mem_range.1 hi)
set_option maxHeartbeats 4000000 in
theorem fmayL_any (v : Value) (l : List Fm) (w : World) (h : FmAt w v l) (hl : l.length ≤ 1000) : Calls Tryd.prog 11 #[v] w fun e w' => e = .returned (.bool (mayL l)) ∧ Below w.heap.size w w' := by
  obtain ⟨vA, vc, rfl⟩ := fmat_len h
  have H := hide h
  obtain ⟨r, hr⟩ : ∃ r, mayL l = r := ⟨_, rfl⟩
  rw [hr]
  have HR := hide hr
  clear h hr
  go_enter Tryd.func11, Tryd.ntmps11
  go_wp2
  go_loopw [7] (fun i wr => ∃ k : Nat, i = .int .i64 k ∧ k ≤ l.length ∧ Hid (∀ i, i < k → okF l i = true) ∧ Hid (Below w.heap.size w wr)) (fun i _ => l.length - (intOf i).toNat)
  case atStart => exact ⟨0, rfl, Nat.zero_le _, hide (fun i h => by omega), hide (bl_refl w)⟩
  case round =>
    obtain ⟨k, rfl, hk, HA, HBL⟩ := hrel
    by_cases hlt : k < l.length
    · obtain ⟨b1, o1, c1, hv1, hc1, hm1, hlb1, hcell⟩ := fmat_some (fmat_below H.out HBL.out) (by omega)
      injection hv1 with hv1 _ hv1c
      subst hv1 hv1c
      unfold maxLen at hm1
      obtain ⟨x0, x1, x2, x3, x4⟩ := hcell k hlt
      have hprev : ∀ j, k = j + 1 → wr.cell? ⟨b1, o1 + j * 5, none⟩ = some (.int .i64 (l[j]!).k) := fun j hj => by
        have := (hcell j (by omega)).1
        rwa [← getElem!_pos l j (by omega)] at this
      have hok : okF l k = (mayF l[k] && !(decide (0 < k) && (l[k]).k == 0 && (l[k - 1]!).k == 0)) := by unfold okF; rw [getElem!_pos l k hlt]
      have hbad := fun ho => mayL_no (l := l) k hlt ho
      have HPREV := hide hprev
      clear hcell hprev
      obtain ⟨d, hd⟩ : ∃ d, l[k] = d := ⟨_, rfl⟩
      rw [hd] at x0 x1 x2 x3 x4 hok
      obtain ⟨dk, dn, dc, dt, de⟩ := d
      dsimp only at x0 x1 x2 x3 x4
      have HM := hide (fun W => fmay_any ⟨dk, dn, dc, dt, de⟩ W)
      unfold agF at HM
      dsimp only at HM
      obtain ⟨m, hm⟩ : ∃ m, mayF ⟨dk, dn, dc, dt, de⟩ = m := ⟨_, rfl⟩
      rw [hm] at HM hok
      dsimp only at hok
      have HOK := hide hok
      have HBAD := hide hbad
      have gl : decide (k < l.length) = true := decide_eq_true hlt
      have hba := bl_alloc (bl_refl wr) (.cells #[.int .i64 dk, .int .i64 dn, .int .i64 dc, .string dt, .string de] 41)
      have hf0 : (wr.alloc (.cells #[.int .i64 dk, .int .i64 dn, .int .i64 dc, .string dt, .string de] 41)).cell? ⟨wr.heap.size, 0, none⟩ = some (.int .i64 dk) := cells_lit wr _ _ 0 _ rfl
      clear hok hbad hd hm
      have NEXT : ∀ W, okF l k = true → Below wr.heap.size wr W → (∃ q : Nat, Value.int .i64 ((k : Int) + 1) = .int .i64 q ∧ q ≤ l.length ∧ Hid (∀ i, i < q → okF l i = true) ∧ Hid (Below w.heap.size w W)) := fun W ho hb =>
        ⟨k + 1, by go_num, by omega, hide (fun i hi => by
          rcases Nat.eq_or_lt_of_le (Nat.le_of_lt_succ hi) with h1 | h1
          · subst h1; exact ho
          · exact HA.out i h1), hide (bl_trans HBL.out hb)⟩
      have HNEXT := hide NEXT
      clear NEXT HA
      cases m
      · have HE := hide (HBAD.out (by rw [HOK.out]; rfl))
        clear HBAD HOK HNEXT HPREV
        go_wp2_with fail
        refine (HM.out _).mono ?_
        rintro e w2 ⟨rfl, hb2⟩
        have HB2 := hide (bl_trans HBL.out (bl_trans hba hb2))
        clear hb2 hba x0 x1 x2 x3 x4 hf0
        go_wp2
        go_ret
        exact ⟨ret_bool (show false = r from by rw [← HR.out, HE.out]), HB2.out⟩
      · rcases Nat.eq_zero_or_pos k with hk0 | hk0
        · subst hk0
          have HE := hide (show okF l 0 = true by rw [HOK.out]; rfl)
          have g0 : decide ((0 : Int) < ((0 : Nat) : Int)) = false := by decide
          rw [Nat.zero_mul, Nat.add_zero] at x0 x1 x2 x3 x4
          clear HBAD HOK HPREV
          go_wp2_with fail
          refine (HM.out _).mono ?_
          rintro e w2 ⟨rfl, hb2⟩
          have HB2 := hide (bl_trans hba hb2)
          clear hb2 hba x0 x1 x2 x3 x4 hf0
          go_wp2
          refine ⟨?_, by first | (simp [intOf]; done) | (simp [intOf]; omega)⟩
          first
            | exact HNEXT.out _ HE.out HB2.out
            | ((repeat apply Exists.intro); exact ⟨HNEXT.out _ HE.out HB2.out, rfl⟩)
        · obtain ⟨j, rfl⟩ : ∃ j, k = j + 1 := ⟨k - 1, by omega⟩
          have xp := HPREV.out j rfl
          have g0 : decide ((0 : Int) < (j : Int) + 1) = true := decide_eq_true (by omega)
          have hok := HOK.out
          rw [show decide (0 < j + 1) = true by simp, Bool.true_and, Bool.true_and, Nat.add_sub_cancel] at hok
          generalize (l[j]!).k = pk at *
          obtain ⟨z1, hz1⟩ : ∃ z, (dk == 0) = z := ⟨_, rfl⟩
          obtain ⟨z2, hz2⟩ : ∃ z, (pk == 0) = z := ⟨_, rfl⟩
          rw [hz1, hz2] at hok
          have HO2 := hide hok
          clear hok HOK HPREV
          go_wp2_with fail
          refine (HM.out _).mono ?_
          rintro e w2 ⟨rfl, hb2⟩
          have HB2 := hide (bl_trans hba hb2)
          have f0 := cell_later hb2 hf0
          have xp := cell_later hb2 (cell_later hba xp)
          clear hb2 hba x0 x1 x2 x3 x4 hf0
          cases z1
          · have HE := hide (show okF l (j + 1) = true by rw [HO2.out]; rfl)
            clear HBAD HO2
            go_wp2
            refine ⟨?_, by first | (simp [intOf]; done) | (simp [intOf]; omega)⟩
            first
              | exact HNEXT.out _ HE.out HB2.out
              | ((repeat apply Exists.intro); exact ⟨HNEXT.out _ HE.out HB2.out, rfl⟩)
          · cases z2
            · have HE := hide (show okF l (j + 1) = true by rw [HO2.out]; rfl)
              clear HBAD HO2
              go_wp2
              refine ⟨?_, by first | (simp [intOf]; done) | (simp [intOf]; omega)⟩
              first
                | exact HNEXT.out _ HE.out HB2.out
                | ((repeat apply Exists.intro); exact ⟨HNEXT.out _ HE.out HB2.out, rfl⟩)
            · have HE := hide (HBAD.out (by rw [HO2.out]; rfl))
              have HB3 := hide (bl_trans HBL.out HB2.out)
              clear HBAD HO2 HNEXT
              go_wp2
              go_ret
              exact ⟨ret_bool (show false = r from by rw [← HR.out, HE.out]), HB3.out⟩
    · obtain rfl : k = l.length := by omega
      have gl : decide (l.length < l.length) = false := by simp
      have HE := hide (mayL_yes (l := l) (fun i hi => HA.out i hi))
      clear HA hlt
      go_wp2
      go_ret
      exact ⟨ret_bool (show true = r from by rw [← HR.out, HE.out]), HBL.out⟩
end Go.Proofs.YtbphckblbbbakaaDoor
