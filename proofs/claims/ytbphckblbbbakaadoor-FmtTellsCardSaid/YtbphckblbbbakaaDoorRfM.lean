/- Contract: may a format be, by the reference (gimletref18.May). Condition: a format that is not too long. -/
import Derived.Test.YtbphckblbbbakaaDoorFmY
namespace Go.Proofs.YtbphckblbbbakaaDoor
open Go.ChangeShapes Go.WideShapes Go.ChangeAt Go.RowKit
attribute [local go_sem ↓] Go.wp_at_zero Go.wp_at_succ
set_option maxRecDepth 100000
set_option linter.unusedVariables false
theorem emp_nil (s : ByteArray) : (s.toList == nilB.toList) = s.toList.isEmpty := by
  rw [Go.ByteArray.toList_eq, Go.ByteArray.toList_eq]
  show (s.data.toList == []) = _
  cases s.data.toList <;> rfl
theorem dec_beq (a b : Int) : decide (a = b) = (a == b) := by
  by_cases h : a = b
  · rw [decide_eq_true h, h]; simp
  · rw [decide_eq_false h]; exact (beq_eq_false_iff_ne.2 h).symm
/-- The reference's own tests. -/
def rtest (k n c : Int) (t e nm : Bool) : Bool :=
  if k = 0 then (n == 0) && (c == 0) && e && !t
  else if k = 1 then (decide (0 ≤ n) && decide (n ≤ 9999)) && (c == 0) && t && e
  else if k = 2 then (decide (0 ≤ n) && decide (n ≤ 9999)) && !nm && t && e
  else if k = 3 then (decide (0 ≤ n) && decide (n ≤ 9999)) && (c == 0) && e
  else if k = 4 then (decide (0 ≤ n) && decide (n ≤ 9999)) && (c == 0) && t
  else if k = 5 then (decide (0 ≤ n) && decide (n ≤ 9999)) && (c == 0)
  else false
theorem rtest_may (d : Fm) : mayF d = rtest d.k d.n d.c d.th.toList.isEmpty d.el.toList.isEmpty (nmL d.c).isEmpty := by
  obtain ⟨k, n, c, th, el⟩ := d
  unfold mayF rtest eqF
  dsimp only
  have hin : (decide (0 ≤ n) && decide (n ≤ 9999)) = !decide (n < 0 ∨ 9999 < n) := by
    by_cases h : n < 0 ∨ 9999 < n
    · rw [decide_eq_true h]
      rcases h with h | h
      · rw [decide_eq_false (show ¬ 0 ≤ n by omega)]; rfl
      · rw [decide_eq_false (show ¬ n ≤ 9999 by omega), Bool.and_false]; rfl
    · rw [decide_eq_false h, decide_eq_true (show 0 ≤ n by omega), decide_eq_true (show n ≤ 9999 by omega)]; rfl
  rw [hin]
  simp only [dec_beq, emp_nil, beq_self_eq_true, Bool.and_true]
  by_cases h : n < 0 ∨ 9999 < n
  · rw [if_pos h, decide_eq_true h]
    have hn : (n == 0) = false := beq_eq_false_iff_ne.2 (by omega)
    rw [hn]
    simp
  · rw [if_neg h, decide_eq_false h]
    simp only [Bool.not_false, Bool.true_and]
    split
    · cases (n == 0) <;> cases (c == 0) <;> cases th.toList.isEmpty <;> cases el.toList.isEmpty <;> rfl
    split
    · cases (c == 0) <;> cases th.toList.isEmpty <;> cases el.toList.isEmpty <;> rfl
    split
    · cases (nmL c).isEmpty <;> cases th.toList.isEmpty <;> cases el.toList.isEmpty <;> rfl
    split
    · cases (c == 0) <;> cases el.toList.isEmpty <;> rfl
    split
    · cases (c == 0) <;> cases th.toList.isEmpty <;> rfl
    · rfl
set_option maxHeartbeats 16000000 in
theorem rmayL_any (v : Value) (l : List Fm) (w : World) (h : FmAt w v l) (hl : l.length ≤ 1000) : Calls Tryd.prog 12 #[v] w fun e w' => e = .returned (.bool (mayL l)) ∧ Below w.heap.size w w' := by
  obtain ⟨vA, vc, rfl⟩ := fmat_len h
  have H := hide h
  obtain ⟨r, hr⟩ : ∃ r, mayL l = r := ⟨_, rfl⟩
  rw [hr]
  have HR := hide hr
  clear h hr
  go_enter Tryd.func12, Tryd.ntmps12
  go_wp2
  go_loopw [3] (fun i wr => ∃ k : Nat, i = .int .i64 k ∧ k ≤ l.length ∧ Hid (∀ i, i < k → okF l i = true) ∧ Hid (Below w.heap.size w wr)) (fun i _ => l.length - (intOf i).toNat)
  case atStart => exact ⟨0, rfl, Nat.zero_le _, hide (fun i h => by omega), hide (bl_refl w)⟩
  case round =>
    obtain ⟨k, rfl, hk, HA, HBL⟩ := hrel
    by_cases hlt : k < l.length
    · obtain ⟨b1, o1, c1, hv1, hc1, hm1, hlb1, hcell⟩ := fmat_some (fmat_below H.out HBL.out) (by omega)
      injection hv1 with hv1 _ hv1c
      subst hv1 hv1c
      unfold maxLen at hm1
      obtain ⟨x0, x1, x2, x3, x4⟩ := hcell k hlt
      have hprev : ∀ j, k = j + 1 → wr.cell? ⟨b1, o1 + j * 5, none⟩ = some (.int .i64 (l[j]!).k) := fun j hj => by
        have := (hcell j (by omega)).1
        rwa [← getElem!_pos l j (by omega)] at this
      have hok : okF l k = (mayF l[k] && !(decide (0 < k) && (l[k]).k == 0 && (l[k - 1]!).k == 0)) := by unfold okF; rw [getElem!_pos l k hlt]
      rw [rtest_may] at hok
      have hbad := fun ho => mayL_no (l := l) k hlt ho
      have HPREV := hide hprev
      clear hcell hprev
      obtain ⟨d, hd⟩ : ∃ d, l[k] = d := ⟨_, rfl⟩
      rw [hd] at x0 x1 x2 x3 x4 hok
      obtain ⟨dk, dn, dc, dt, de⟩ := d
      dsimp only at x0 x1 x2 x3 x4 hok
      have HNM := hide (fun W => rname_any dc W)
      have hnm : (⟨(nmL dc).toArray⟩ : ByteArray).toList.isEmpty = (nmL dc).isEmpty := by rw [Go.ByteArray.toList_eq]
      obtain ⟨NM, hNM⟩ : ∃ NM, (⟨(nmL dc).toArray⟩ : ByteArray) = NM := ⟨_, rfl⟩
      rw [hNM] at HNM hnm
      obtain ⟨zt, hzt⟩ : ∃ z, dt.toList.isEmpty = z := ⟨_, rfl⟩
      obtain ⟨ze, hze⟩ : ∃ z, de.toList.isEmpty = z := ⟨_, rfl⟩
      obtain ⟨zn, hzn⟩ : ∃ z, (nmL dc).isEmpty = z := ⟨_, rfl⟩
      rw [hzn] at hnm
      rw [hzt, hze, hzn] at hok
      have HOK := hide hok
      have HBAD := hide hbad
      have gl : decide ((k : Int) < (l.length : Int)) = true := decide_eq_true (by omega)
      have gl' : decide (k < l.length) = true := decide_eq_true hlt
      have e5 : IntKind.i64.wrap ((k : Int) + 1) = (k : Int) + 1 := by rw [IntKind.wrap_i64]; omega
      have hba := bl_alloc (bl_refl wr) (.cells #[.int .i64 dk, .int .i64 dn, .int .i64 dc, .string dt, .string de] 41)
      have HBA := hide (bl_trans HBL.out hba)
      have f0 : (wr.alloc (.cells #[.int .i64 dk, .int .i64 dn, .int .i64 dc, .string dt, .string de] 41)).cell? ⟨wr.heap.size, 0, none⟩ = some (.int .i64 dk) := cells_lit wr _ _ 0 _ rfl
      have f1 : (wr.alloc (.cells #[.int .i64 dk, .int .i64 dn, .int .i64 dc, .string dt, .string de] 41)).cell? ⟨wr.heap.size, 1, none⟩ = some (.int .i64 dn) := cells_lit wr _ _ 1 _ rfl
      have f2 : (wr.alloc (.cells #[.int .i64 dk, .int .i64 dn, .int .i64 dc, .string dt, .string de] 41)).cell? ⟨wr.heap.size, 2, none⟩ = some (.int .i64 dc) := cells_lit wr _ _ 2 _ rfl
      have f3 : (wr.alloc (.cells #[.int .i64 dk, .int .i64 dn, .int .i64 dc, .string dt, .string de] 41)).cell? ⟨wr.heap.size, 3, none⟩ = some (.string dt) := cells_lit wr _ _ 3 _ rfl
      have f4 : (wr.alloc (.cells #[.int .i64 dk, .int .i64 dn, .int .i64 dc, .string dt, .string de] 41)).cell? ⟨wr.heap.size, 4, none⟩ = some (.string de) := cells_lit wr _ _ 4 _ rfl
      have NEXT : okF l k = true → (∃ q : Nat, Value.int .i64 ((k : Int) + 1) = .int .i64 q ∧ q ≤ l.length ∧ Hid (∀ i, i < q → okF l i = true) ∧ Hid (Below w.heap.size w (wr.alloc (.cells #[.int .i64 dk, .int .i64 dn, .int .i64 dc, .string dt, .string de] 41)))) := fun ho =>
        ⟨k + 1, by go_num, by omega, hide (fun i hi => by
          rcases Nat.eq_or_lt_of_le (Nat.le_of_lt_succ hi) with h1 | h1
          · subst h1; exact ho
          · exact HA.out i h1), HBA⟩
      have HNEXT := hide NEXT
      have HNO := hide (fun (ho : okF l k = false) => (show false = r from by rw [← HR.out, HBAD.out ho]))
      unfold rtest at HOK
      obtain ⟨za, hza⟩ : ∃ z, decide (0 ≤ dn) = z := ⟨_, rfl⟩
      obtain ⟨zb, hzb⟩ : ∃ z, decide (dn ≤ 9999) = z := ⟨_, rfl⟩
      obtain ⟨zc, hzc⟩ : ∃ z, (dc == 0) = z := ⟨_, rfl⟩
      obtain ⟨zd, hzd⟩ : ∃ z, (dn == 0) = z := ⟨_, rfl⟩
      rw [hza, hzb, hzc, hzd] at HOK
      clear hd hok hbad NEXT hNM hba HA HBAD
      by_cases h0 : dk = 0
      · rw [if_pos h0] at HOK
        have k0 : (dk == 0) = true := beq_iff_eq.2 h0
        rcases za with _ | _ <;> rcases zb with _ | _
        all_goals
          rcases zd with _ | _
          · have HO2 := hide (show okF l k = false by rw [HOK.out]; simp)
            clear HOK HPREV h0
            go_wp2
            go_ret
            exact ⟨ret_bool (HNO.out HO2.out), HBA.out⟩
          · rcases zc with _ | _
            · have HO2 := hide (show okF l k = false by rw [HOK.out]; simp)
              clear HOK HPREV h0
              go_wp2
              go_ret
              exact ⟨ret_bool (HNO.out HO2.out), HBA.out⟩
            · rcases ze with _ | _
              · have HO2 := hide (show okF l k = false by rw [HOK.out]; simp)
                clear HOK HPREV h0
                go_wp2
                go_ret
                exact ⟨ret_bool (HNO.out HO2.out), HBA.out⟩
              · rcases zt with _ | _
                · rcases Nat.eq_zero_or_pos k with hk0 | hk0
                  · have HO2 := hide (show okF l k = true by rw [HOK.out, h0, hk0]; rfl)
                    have q0 : (((k : Nat) : Int) == 0) = true := by rw [hk0]; rfl
                    have q0' : (k == 0) = true := by rw [hk0]; rfl
                    clear HOK HPREV h0 hk0
                    go_wp2
                    refine ⟨?_, by first | (simp [intOf]; done) | (simp [intOf]; omega)⟩
                    first
                      | exact HNEXT.out HO2.out
                      | ((repeat apply Exists.intro); exact ⟨HNEXT.out HO2.out, rfl⟩)
                  · obtain ⟨j, hj⟩ : ∃ j, k = j + 1 := ⟨k - 1, by omega⟩
                    have xp := HPREV.out j hj
                    have e7 : IntKind.i64.wrap ((k : Int) - 1) = (j : Int) := by rw [IntKind.wrap_i64]; omega
                    have j1 : (0 : Int) ≤ (j : Int) := by omega
                    have j2 : (j : Int) < (l.length : Int) := by omega
                    have hok := HOK.out
                    rw [show k - 1 = j by omega, show decide (0 < k) = true by simp; omega, h0] at hok
                    have q0 : (((k : Nat) : Int) == 0) = false := beq_eq_false_iff_ne.2 (by omega)
                    have q0' : (k == 0) = false := beq_eq_false_iff_ne.2 (by omega)
                    generalize (l[j]!).k = pk at *
                    have xp := cell_later (bl_alloc (bl_refl wr) (.cells #[.int .i64 dk, .int .i64 dn, .int .i64 dc, .string dt, .string de] 41)) xp
                    rcases hz2 : (pk == 0) with _ | _
                    · have hz2' : (pk != 0) = true := by rw [bne, hz2]; rfl
                      have HO2 := hide (show okF l k = true by rw [hok, hz2]; rfl)
                      clear HOK HPREV h0 hk0 hj hok
                      go_wp2
                      refine ⟨?_, by first | (simp [intOf]; done) | (simp [intOf]; omega)⟩
                      first
                        | exact HNEXT.out HO2.out
                        | ((repeat apply Exists.intro); exact ⟨HNEXT.out HO2.out, rfl⟩)
                    · have hz2' : (pk != 0) = false := by rw [bne, hz2]; rfl
                      have HO2 := hide (show okF l k = false by rw [hok, hz2]; rfl)
                      clear HOK HPREV h0 hk0 hj hok
                      go_wp2
                      go_ret
                      exact ⟨ret_bool (HNO.out HO2.out), HBA.out⟩
                · have HO2 := hide (show okF l k = false by rw [HOK.out]; simp)
                  clear HOK HPREV h0
                  go_wp2
                  go_ret
                  exact ⟨ret_bool (HNO.out HO2.out), HBA.out⟩
      rw [if_neg h0] at HOK
      have k0 : (dk == 0) = false := beq_eq_false_iff_ne.2 h0
      clear h0 hzd
      by_cases hk1 : dk = 1
      · rw [if_pos hk1] at HOK
        have k1 : (dk == 1) = true := beq_iff_eq.2 hk1
        have hknz : (dk == 0) = false := beq_eq_false_iff_ne.2 (by omega)
        rcases za with _ | _
        · have HO2 := hide (show okF l k = false by rw [HOK.out]; simp)
          clear HOK HPREV hk1
          go_wp2
          go_ret
          exact ⟨ret_bool (HNO.out HO2.out), HBA.out⟩
        · rcases zb with _ | _
          · have HO2 := hide (show okF l k = false by rw [HOK.out]; simp)
            clear HOK HPREV hk1
            go_wp2
            go_ret
            exact ⟨ret_bool (HNO.out HO2.out), HBA.out⟩
          · rcases zc with _ | _
            · have HO2 := hide (show okF l k = false by rw [HOK.out]; simp)
              clear HOK HPREV hk1
              go_wp2
              go_ret
              exact ⟨ret_bool (HNO.out HO2.out), HBA.out⟩
            · rcases zt with _ | _
              · have HO2 := hide (show okF l k = false by rw [HOK.out]; simp)
                clear HOK HPREV hk1
                go_wp2
                go_ret
                exact ⟨ret_bool (HNO.out HO2.out), HBA.out⟩
              · rcases ze with _ | _
                · have HO2 := hide (show okF l k = false by rw [HOK.out]; simp)
                  clear HOK HPREV hk1
                  go_wp2
                  go_ret
                  exact ⟨ret_bool (HNO.out HO2.out), HBA.out⟩
                · have HO2 := hide (show okF l k = true by rw [HOK.out]; simp [hknz])
                  clear HOK HPREV hk1
                  go_wp2
                  refine ⟨?_, by first | (simp [intOf]; done) | (simp [intOf]; omega)⟩
                  first
                    | exact HNEXT.out HO2.out
                    | ((repeat apply Exists.intro); exact ⟨HNEXT.out HO2.out, rfl⟩)
      rw [if_neg hk1] at HOK
      have k1 : (dk == 1) = false := beq_eq_false_iff_ne.2 hk1
      by_cases hk2 : dk = 2
      · rw [if_pos hk2] at HOK
        have k2 : (dk == 2) = true := beq_iff_eq.2 hk2
        have hknz : (dk == 0) = false := beq_eq_false_iff_ne.2 (by omega)
        rcases za with _ | _
        · have HO2 := hide (show okF l k = false by rw [HOK.out]; simp)
          clear HOK HPREV hk2
          go_wp2
          go_ret
          exact ⟨ret_bool (HNO.out HO2.out), HBA.out⟩
        · rcases zb with _ | _
          · have HO2 := hide (show okF l k = false by rw [HOK.out]; simp)
            clear HOK HPREV hk2
            go_wp2
            go_ret
            exact ⟨ret_bool (HNO.out HO2.out), HBA.out⟩
          · rcases zn with _ | _
            · rcases zt with _ | _
              · have HO2 := hide (show okF l k = false by rw [HOK.out]; simp)
                clear HOK HPREV hk2
                go_wp2_with fail
                refine (HNM.out _).mono ?_
                rintro e w5 ⟨rfl, rfl⟩
                go_wp2
                go_ret
                exact ⟨ret_bool (HNO.out HO2.out), HBA.out⟩
              · rcases ze with _ | _
                · have HO2 := hide (show okF l k = false by rw [HOK.out]; simp)
                  clear HOK HPREV hk2
                  go_wp2_with fail
                  refine (HNM.out _).mono ?_
                  rintro e w5 ⟨rfl, rfl⟩
                  go_wp2
                  go_ret
                  exact ⟨ret_bool (HNO.out HO2.out), HBA.out⟩
                · have HO2 := hide (show okF l k = true by rw [HOK.out]; simp [hknz])
                  clear HOK HPREV hk2
                  go_wp2_with fail
                  refine (HNM.out _).mono ?_
                  rintro e w5 ⟨rfl, rfl⟩
                  go_wp2
                  refine ⟨?_, by first | (simp [intOf]; done) | (simp [intOf]; omega)⟩
                  first
                    | exact HNEXT.out HO2.out
                    | ((repeat apply Exists.intro); exact ⟨HNEXT.out HO2.out, rfl⟩)
            · have HO2 := hide (show okF l k = false by rw [HOK.out]; simp)
              clear HOK HPREV hk2
              go_wp2_with fail
              refine (HNM.out _).mono ?_
              rintro e w5 ⟨rfl, rfl⟩
              go_wp2
              go_ret
              exact ⟨ret_bool (HNO.out HO2.out), HBA.out⟩
      rw [if_neg hk2] at HOK
      have k2 : (dk == 2) = false := beq_eq_false_iff_ne.2 hk2
      by_cases hk3 : dk = 3
      · rw [if_pos hk3] at HOK
        have k3 : (dk == 3) = true := beq_iff_eq.2 hk3
        have hknz : (dk == 0) = false := beq_eq_false_iff_ne.2 (by omega)
        rcases za with _ | _
        · have HO2 := hide (show okF l k = false by rw [HOK.out]; simp)
          clear HOK HPREV hk3
          go_wp2
          go_ret
          exact ⟨ret_bool (HNO.out HO2.out), HBA.out⟩
        · rcases zb with _ | _
          · have HO2 := hide (show okF l k = false by rw [HOK.out]; simp)
            clear HOK HPREV hk3
            go_wp2
            go_ret
            exact ⟨ret_bool (HNO.out HO2.out), HBA.out⟩
          · rcases zc with _ | _
            · have HO2 := hide (show okF l k = false by rw [HOK.out]; simp)
              clear HOK HPREV hk3
              go_wp2
              go_ret
              exact ⟨ret_bool (HNO.out HO2.out), HBA.out⟩
            · rcases ze with _ | _
              · have HO2 := hide (show okF l k = false by rw [HOK.out]; simp)
                clear HOK HPREV hk3
                go_wp2
                go_ret
                exact ⟨ret_bool (HNO.out HO2.out), HBA.out⟩
              · have HO2 := hide (show okF l k = true by rw [HOK.out]; simp [hknz])
                clear HOK HPREV hk3
                go_wp2
                refine ⟨?_, by first | (simp [intOf]; done) | (simp [intOf]; omega)⟩
                first
                  | exact HNEXT.out HO2.out
                  | ((repeat apply Exists.intro); exact ⟨HNEXT.out HO2.out, rfl⟩)
      rw [if_neg hk3] at HOK
      have k3 : (dk == 3) = false := beq_eq_false_iff_ne.2 hk3
      by_cases hk4 : dk = 4
      · rw [if_pos hk4] at HOK
        have k4 : (dk == 4) = true := beq_iff_eq.2 hk4
        have hknz : (dk == 0) = false := beq_eq_false_iff_ne.2 (by omega)
        rcases za with _ | _
        · have HO2 := hide (show okF l k = false by rw [HOK.out]; simp)
          clear HOK HPREV hk4
          go_wp2
          go_ret
          exact ⟨ret_bool (HNO.out HO2.out), HBA.out⟩
        · rcases zb with _ | _
          · have HO2 := hide (show okF l k = false by rw [HOK.out]; simp)
            clear HOK HPREV hk4
            go_wp2
            go_ret
            exact ⟨ret_bool (HNO.out HO2.out), HBA.out⟩
          · rcases zc with _ | _
            · have HO2 := hide (show okF l k = false by rw [HOK.out]; simp)
              clear HOK HPREV hk4
              go_wp2
              go_ret
              exact ⟨ret_bool (HNO.out HO2.out), HBA.out⟩
            · rcases zt with _ | _
              · have HO2 := hide (show okF l k = false by rw [HOK.out]; simp)
                clear HOK HPREV hk4
                go_wp2
                go_ret
                exact ⟨ret_bool (HNO.out HO2.out), HBA.out⟩
              · have HO2 := hide (show okF l k = true by rw [HOK.out]; simp [hknz])
                clear HOK HPREV hk4
                go_wp2
                refine ⟨?_, by first | (simp [intOf]; done) | (simp [intOf]; omega)⟩
                first
                  | exact HNEXT.out HO2.out
                  | ((repeat apply Exists.intro); exact ⟨HNEXT.out HO2.out, rfl⟩)
      rw [if_neg hk4] at HOK
      have k4 : (dk == 4) = false := beq_eq_false_iff_ne.2 hk4
      by_cases hk5 : dk = 5
      · rw [if_pos hk5] at HOK
        have k5 : (dk == 5) = true := beq_iff_eq.2 hk5
        have hknz : (dk == 0) = false := beq_eq_false_iff_ne.2 (by omega)
        rcases za with _ | _
        · have HO2 := hide (show okF l k = false by rw [HOK.out]; simp)
          clear HOK HPREV hk5
          go_wp2
          go_ret
          exact ⟨ret_bool (HNO.out HO2.out), HBA.out⟩
        · rcases zb with _ | _
          · have HO2 := hide (show okF l k = false by rw [HOK.out]; simp)
            clear HOK HPREV hk5
            go_wp2
            go_ret
            exact ⟨ret_bool (HNO.out HO2.out), HBA.out⟩
          · rcases zc with _ | _
            · have HO2 := hide (show okF l k = false by rw [HOK.out]; simp)
              clear HOK HPREV hk5
              go_wp2
              go_ret
              exact ⟨ret_bool (HNO.out HO2.out), HBA.out⟩
            · have HO2 := hide (show okF l k = true by rw [HOK.out]; simp [hknz])
              clear HOK HPREV hk5
              go_wp2
              refine ⟨?_, by first | (simp [intOf]; done) | (simp [intOf]; omega)⟩
              first
                | exact HNEXT.out HO2.out
                | ((repeat apply Exists.intro); exact ⟨HNEXT.out HO2.out, rfl⟩)
      rw [if_neg hk5] at HOK
      have k5 : (dk == 5) = false := beq_eq_false_iff_ne.2 hk5
      have HO2 := hide (show okF l k = false by rw [HOK.out]; rfl)
      clear HOK HPREV hk1 hk2 hk3 hk4 hk5
      rcases za with _ | _ <;> rcases zb with _ | _
      all_goals
        go_wp2
        go_ret
        exact ⟨ret_bool (HNO.out HO2.out), HBA.out⟩
    · obtain rfl : k = l.length := by omega
      have gl : decide ((l.length : Int) < (l.length : Int)) = false := by simp
      have gl' : decide (l.length < l.length) = false := by simp
      have HE := hide (mayL_yes (l := l) (fun i hi => HA.out i hi))
      clear HA hlt
      go_wp2
      go_ret
      exact ⟨ret_bool (show true = r from by rw [← HR.out, HE.out]), HBL.out⟩
end Go.Proofs.YtbphckblbbbakaaDoor
