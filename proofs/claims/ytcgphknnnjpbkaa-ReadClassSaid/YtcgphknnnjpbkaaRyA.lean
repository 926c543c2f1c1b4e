/- Contracts: rxtree.isAtom, the closures of mayKids, rxtree.all. No condition. -/
import Derived.Test.YtcgphknnnjpbkaaRxA
namespace Go.Proofs.Ytcgphknnnjpbkaa
open Go.ChangeShapes Go.WideShapes Go.ChangeAt Go.RowKit
open SetM
attribute [local go_sem ↓] Go.wp_at_zero Go.wp_at_succ
set_option maxRecDepth 100000
set_option linter.unusedVariables false
def atomB (k : Int) : Bool := decide (k = 2) || decide (k = 3) || decide (k = 4) || decide (k = 5 ∨ k = 6)
def seqkB (k : Int) : Bool := !decide (k = 0) && !decide (k = 1)
def altkB (k : Int) : Bool := !decide (k = 1)
theorem atom_any (k : Int) (w : World) : Calls Try.prog 68 #[.int .i64 k] w fun e w' => e = .returned (.bool (atomB k)) ∧ w = w' := by
  obtain ⟨r, hr⟩ : ∃ r, atomB k = r := ⟨_, rfl⟩
  have hr2 := hr
  unfold atomB at hr
  rw [hr2]
  clear hr2
  by_cases q2 : k = 2
  · obtain rfl : r = true := by rw [← hr]; simp [q2]
    have z2 : (k == 2) = true := beq_iff_eq.2 q2
    clear hr q2
    go_enter Try.func68, Try.ntmps68
    go_wp2
    go_ret
    exact ⟨rfl, rfl⟩
  have z2 : (k == 2) = false := beq_eq_false_iff_ne.2 q2
  by_cases q3 : k = 3
  · obtain rfl : r = true := by rw [← hr]; simp [q3]
    have z3 : (k == 3) = true := beq_iff_eq.2 q3
    clear hr q2 q3
    go_enter Try.func68, Try.ntmps68
    go_wp2
    go_ret
    exact ⟨rfl, rfl⟩
  have z3 : (k == 3) = false := beq_eq_false_iff_ne.2 q3
  by_cases q4 : k = 4
  · obtain rfl : r = true := by rw [← hr]; simp [q4]
    have z4 : (k == 4) = true := beq_iff_eq.2 q4
    clear hr q2 q3 q4
    go_enter Try.func68, Try.ntmps68
    go_wp2
    go_ret
    exact ⟨rfl, rfl⟩
  have z4 : (k == 4) = false := beq_eq_false_iff_ne.2 q4
  have hr3 : decide (k = 5 ∨ k = 6) = r := by rw [← hr]; simp [q2, q3, q4]
  have HG := hide (fun W => isg_any k r hr3 W)
  clear hr hr3 q2 q3 q4
  go_enter Try.func68, Try.ntmps68
  go_wp2_with fail
  refine (HG.out _).mono ?_
  rintro e w1 ⟨rfl, rfl⟩
  go_wp2
  go_ret
  exact ⟨rfl, rfl⟩
theorem seqk_any (k : Int) (w : World) : Calls Try.prog 66 #[.int .i64 k] w fun e w' => e = .returned (.bool (seqkB k)) ∧ w = w' := by
  obtain ⟨r, hr⟩ : ∃ r, seqkB k = r := ⟨_, rfl⟩
  rw [hr]
  unfold seqkB at hr
  by_cases q2 : k = 0
  · obtain rfl : r = false := by rw [← hr]; simp [q2]
    have z2 : (k != 0) = false := by simp [q2]
    have z3 : (k == 0) = true := by simp [q2]
    clear hr
    subst q2
    go_enter Try.func66, Try.ntmps66
    go_wp2
    go_ret
    exact ⟨rfl, rfl⟩
  have z2 : (k != 0) = true := by simp [q2]
  have z3 : (k == 0) = false := by simp [q2]
  by_cases q3 : k = 1
  · obtain rfl : r = false := by rw [← hr]; simp [q3]
    clear hr q2 z2 z3
    subst q3
    go_enter Try.func66, Try.ntmps66
    go_wp2
    go_ret
    exact ⟨rfl, rfl⟩
  have z4 : (k != 1) = true := by simp [q3]
  have z5 : (k == 1) = false := by simp [q3]
  obtain rfl : r = true := by rw [← hr]; simp [q2, q3]
  clear hr q2 q3
  go_enter Try.func66, Try.ntmps66
  go_wp2
  go_ret
  exact ⟨rfl, rfl⟩
theorem altk_any (k : Int) (w : World) : Calls Try.prog 67 #[.int .i64 k] w fun e w' => e = .returned (.bool (altkB k)) ∧ w = w' := by
  obtain ⟨r, hr⟩ : ∃ r, altkB k = r := ⟨_, rfl⟩
  rw [hr]
  unfold altkB at hr
  by_cases q2 : k = 1
  · obtain rfl : r = false := by rw [← hr]; simp [q2]
    clear hr
    subst q2
    go_enter Try.func67, Try.ntmps67
    go_wp2
    go_ret
    exact ⟨rfl, rfl⟩
  have z2 : (k != 1) = true := by simp [q2]
  have z3 : (k == 1) = false := by simp [q2]
  obtain rfl : r = true := by rw [← hr]; simp [q2]
  clear hr q2
  go_enter Try.func67, Try.ntmps67
  go_wp2
  go_ret
  exact ⟨rfl, rfl⟩
set_option maxHeartbeats 4000000 in
theorem allseq_any (v : Value) (l : List Rt) (w : World) (h : KsAt w v l) (hx : ∀ i (hi : i < l.length), RxAt w l[i]) :
    Calls Try.prog 65 #[v, .func (.func 66) #[] #[]] w (SmPost (l.all fun t => seqkB t.k) w) := by
  unfold SmPost
  obtain ⟨A, c, rfl⟩ := ksat_len h
  obtain ⟨r, hr⟩ : ∃ r, (l.all fun t => seqkB t.k) = r := ⟨_, rfl⟩
  rw [hr]
  have HR := hide hr
  have HK := hide h
  have HX := hide hx
  clear h hx hr
  go_enter Try.func65, Try.ntmps65
  go_wp2
  go_loopw [9] (fun i wr => ∃ j : Nat, j ≤ l.length ∧ i = .int .i64 j ∧ Hid ((l.take j).all (fun t => seqkB t.k) = true) ∧ Hid (Below w.heap.size w wr)) (fun i _ => l.length - (intOf i).toNat)
  case atStart => exact ⟨0, Nat.zero_le _, rfl, hide (by simp), hide (bl_refl w)⟩
  case round =>
    obtain ⟨j, hj, rfl, HT, HBL⟩ := hrel
    by_cases hlt : j < l.length
    · obtain ⟨b1, o1, c1, hv1, hc1, hm1, hlb1, hcell1⟩ := ksat_8 (ksat_below HK.out HBL.out) (by omega)
      injection hv1 with hv1 _ hv1c
      subst hv1 hv1c
      unfold maxLen at hm1
      obtain ⟨x0, x1, x2, x3, x4, x5, x6, x7⟩ := hcell1 j hlt
      have hxp := HX.out j hlt
      have HS := hide (show seqkB l[j].k = true → (l.take (j + 1)).all (fun t => seqkB t.k) = true from fun e => by
        rw [List.take_succ_eq_append_getElem hlt, List.all_append, HT.out]; simp [e])
      have HN := hide (show seqkB l[j].k = false → r = false from fun e => by
        rw [← HR.out]
        cases hq : (l.all fun t => seqkB t.k) with
        | false => rfl
        | true => rw [List.all_eq_true] at hq; rw [hq _ (List.getElem_mem hlt)] at e; cases e)
      clear hcell1
      obtain ⟨p, hp⟩ : ∃ p, l[j] = p := ⟨_, rfl⟩
      rw [hp] at x0 x1 x2 x3 x4 x5 x6 x7 hxp HS HN
      obtain ⟨pA, pc, hprv⟩ := rwat_len hxp.rows
      obtain ⟨pB, pd, hpkv⟩ := ksat_len hxp.ks
      rw [hprv] at x3
      rw [hpkv] at x7
      have HC := hide (fun W => seqk_any p.k W)
      obtain ⟨s, hs⟩ : ∃ s, seqkB p.k = s := ⟨_, rfl⟩
      rw [hs] at HC HS HN
      have i1 : (0 : Int) ≤ (j : Int) := by omega
      have i2 : (j : Int) < (l.length : Int) := by omega
      have gl : decide ((j : Int) < (l.length : Int)) = true := decide_eq_true i2
      have gl' : decide (j < l.length) = true := decide_eq_true hlt
      have e5 : IntKind.i64.wrap ((j : Int) + 1) = (j : Int) + 1 := by rw [IntKind.wrap_i64]; omega
      have HB3 := hide (fun o => bl_alloc HBL.out o)
      clear hp hs hxp hprv hpkv HT
      cases s with
      | true =>
        have HS2 := hide (HS.out rfl)
        clear HS HN
        go_wp2_with fail
        refine (HC.out _).mono ?_
        rintro e w2 ⟨rfl, rfl⟩
        clear x0 x1 x2 x3 x4 x5 x6 x7
        go_wp2
        refine ⟨?_, by first | (simp [intOf]; done) | (simp [intOf]; omega)⟩
        first
          | exact ⟨j + 1, by omega, by go_num, HS2, hide (HB3.out _)⟩
          | ((repeat apply Exists.intro); exact ⟨⟨j + 1, by omega, by go_num, HS2, hide (HB3.out _)⟩, rfl⟩)
      | false =>
        have HN2 := hide (HN.out rfl)
        clear HS HN
        go_wp2_with fail
        refine (HC.out _).mono ?_
        rintro e w2 ⟨rfl, rfl⟩
        clear x0 x1 x2 x3 x4 x5 x6 x7
        go_wp2
        go_ret
        exact ⟨ret_bool HN2.out.symm, HB3.out _⟩
    · obtain rfl : j = l.length := by omega
      have hj := HT.out
      rw [List.take_length, HR.out] at hj
      have HE := hide hj
      have gl : decide ((l.length : Int) < (l.length : Int)) = false := by simp
      have gl' : decide (l.length < l.length) = false := by simp
      clear hj hlt HT
      go_wp2
      go_ret
      exact ⟨ret_bool HE.out.symm, HBL.out⟩
set_option maxHeartbeats 4000000 in
theorem allalt_any (v : Value) (l : List Rt) (w : World) (h : KsAt w v l) (hx : ∀ i (hi : i < l.length), RxAt w l[i]) :
    Calls Try.prog 65 #[v, .func (.func 67) #[] #[]] w (SmPost (l.all fun t => altkB t.k) w) := by
  unfold SmPost
  obtain ⟨A, c, rfl⟩ := ksat_len h
  obtain ⟨r, hr⟩ : ∃ r, (l.all fun t => altkB t.k) = r := ⟨_, rfl⟩
  rw [hr]
  have HR := hide hr
  have HK := hide h
  have HX := hide hx
  clear h hx hr
  go_enter Try.func65, Try.ntmps65
  go_wp2
  go_loopw [9] (fun i wr => ∃ j : Nat, j ≤ l.length ∧ i = .int .i64 j ∧ Hid ((l.take j).all (fun t => altkB t.k) = true) ∧ Hid (Below w.heap.size w wr)) (fun i _ => l.length - (intOf i).toNat)
  case atStart => exact ⟨0, Nat.zero_le _, rfl, hide (by simp), hide (bl_refl w)⟩
  case round =>
    obtain ⟨j, hj, rfl, HT, HBL⟩ := hrel
    by_cases hlt : j < l.length
    · obtain ⟨b1, o1, c1, hv1, hc1, hm1, hlb1, hcell1⟩ := ksat_8 (ksat_below HK.out HBL.out) (by omega)
      injection hv1 with hv1 _ hv1c
      subst hv1 hv1c
      unfold maxLen at hm1
      obtain ⟨x0, x1, x2, x3, x4, x5, x6, x7⟩ := hcell1 j hlt
      have hxp := HX.out j hlt
      have HS := hide (show altkB l[j].k = true → (l.take (j + 1)).all (fun t => altkB t.k) = true from fun e => by
        rw [List.take_succ_eq_append_getElem hlt, List.all_append, HT.out]; simp [e])
      have HN := hide (show altkB l[j].k = false → r = false from fun e => by
        rw [← HR.out]
        cases hq : (l.all fun t => altkB t.k) with
        | false => rfl
        | true => rw [List.all_eq_true] at hq; rw [hq _ (List.getElem_mem hlt)] at e; cases e)
      clear hcell1
      obtain ⟨p, hp⟩ : ∃ p, l[j] = p := ⟨_, rfl⟩
      rw [hp] at x0 x1 x2 x3 x4 x5 x6 x7 hxp HS HN
      obtain ⟨pA, pc, hprv⟩ := rwat_len hxp.rows
      obtain ⟨pB, pd, hpkv⟩ := ksat_len hxp.ks
      rw [hprv] at x3
      rw [hpkv] at x7
      have HC := hide (fun W => altk_any p.k W)
      obtain ⟨s, hs⟩ : ∃ s, altkB p.k = s := ⟨_, rfl⟩
      rw [hs] at HC HS HN
      have i1 : (0 : Int) ≤ (j : Int) := by omega
      have i2 : (j : Int) < (l.length : Int) := by omega
      have gl : decide ((j : Int) < (l.length : Int)) = true := decide_eq_true i2
      have gl' : decide (j < l.length) = true := decide_eq_true hlt
      have e5 : IntKind.i64.wrap ((j : Int) + 1) = (j : Int) + 1 := by rw [IntKind.wrap_i64]; omega
      have HB3 := hide (fun o => bl_alloc HBL.out o)
      clear hp hs hxp hprv hpkv HT
      cases s with
      | true =>
        have HS2 := hide (HS.out rfl)
        clear HS HN
        go_wp2_with fail
        refine (HC.out _).mono ?_
        rintro e w2 ⟨rfl, rfl⟩
        clear x0 x1 x2 x3 x4 x5 x6 x7
        go_wp2
        refine ⟨?_, by first | (simp [intOf]; done) | (simp [intOf]; omega)⟩
        first
          | exact ⟨j + 1, by omega, by go_num, HS2, hide (HB3.out _)⟩
          | ((repeat apply Exists.intro); exact ⟨⟨j + 1, by omega, by go_num, HS2, hide (HB3.out _)⟩, rfl⟩)
      | false =>
        have HN2 := hide (HN.out rfl)
        clear HS HN
        go_wp2_with fail
        refine (HC.out _).mono ?_
        rintro e w2 ⟨rfl, rfl⟩
        clear x0 x1 x2 x3 x4 x5 x6 x7
        go_wp2
        go_ret
        exact ⟨ret_bool HN2.out.symm, HB3.out _⟩
    · obtain rfl : j = l.length := by omega
      have hj := HT.out
      rw [List.take_length, HR.out] at hj
      have HE := hide hj
      have gl : decide ((l.length : Int) < (l.length : Int)) = false := by simp
      have gl' : decide (l.length < l.length) = false := by simp
      clear hj hlt HT
      go_wp2
      go_ret
      exact ⟨ret_bool HE.out.symm, HBL.out⟩
set_option maxHeartbeats 4000000 in
theorem allatom_any (v : Value) (l : List Rt) (w : World) (h : KsAt w v l) (hx : ∀ i (hi : i < l.length), RxAt w l[i]) :
    Calls Try.prog 65 #[v, .func (.func 68) #[] #[]] w (SmPost (l.all fun t => atomB t.k) w) := by
  unfold SmPost
  obtain ⟨A, c, rfl⟩ := ksat_len h
  obtain ⟨r, hr⟩ : ∃ r, (l.all fun t => atomB t.k) = r := ⟨_, rfl⟩
  rw [hr]
  have HR := hide hr
  have HK := hide h
  have HX := hide hx
  clear h hx hr
  go_enter Try.func65, Try.ntmps65
  go_wp2
  go_loopw [9] (fun i wr => ∃ j : Nat, j ≤ l.length ∧ i = .int .i64 j ∧ Hid ((l.take j).all (fun t => atomB t.k) = true) ∧ Hid (Below w.heap.size w wr)) (fun i _ => l.length - (intOf i).toNat)
  case atStart => exact ⟨0, Nat.zero_le _, rfl, hide (by simp), hide (bl_refl w)⟩
  case round =>
    obtain ⟨j, hj, rfl, HT, HBL⟩ := hrel
    by_cases hlt : j < l.length
    · obtain ⟨b1, o1, c1, hv1, hc1, hm1, hlb1, hcell1⟩ := ksat_8 (ksat_below HK.out HBL.out) (by omega)
      injection hv1 with hv1 _ hv1c
      subst hv1 hv1c
      unfold maxLen at hm1
      obtain ⟨x0, x1, x2, x3, x4, x5, x6, x7⟩ := hcell1 j hlt
      have hxp := HX.out j hlt
      have HS := hide (show atomB l[j].k = true → (l.take (j + 1)).all (fun t => atomB t.k) = true from fun e => by
        rw [List.take_succ_eq_append_getElem hlt, List.all_append, HT.out]; simp [e])
      have HN := hide (show atomB l[j].k = false → r = false from fun e => by
        rw [← HR.out]
        cases hq : (l.all fun t => atomB t.k) with
        | false => rfl
        | true => rw [List.all_eq_true] at hq; rw [hq _ (List.getElem_mem hlt)] at e; cases e)
      clear hcell1
      obtain ⟨p, hp⟩ : ∃ p, l[j] = p := ⟨_, rfl⟩
      rw [hp] at x0 x1 x2 x3 x4 x5 x6 x7 hxp HS HN
      obtain ⟨pA, pc, hprv⟩ := rwat_len hxp.rows
      obtain ⟨pB, pd, hpkv⟩ := ksat_len hxp.ks
      rw [hprv] at x3
      rw [hpkv] at x7
      have HC := hide (fun W => atom_any p.k W)
      obtain ⟨s, hs⟩ : ∃ s, atomB p.k = s := ⟨_, rfl⟩
      rw [hs] at HC HS HN
      have i1 : (0 : Int) ≤ (j : Int) := by omega
      have i2 : (j : Int) < (l.length : Int) := by omega
      have gl : decide ((j : Int) < (l.length : Int)) = true := decide_eq_true i2
      have gl' : decide (j < l.length) = true := decide_eq_true hlt
      have e5 : IntKind.i64.wrap ((j : Int) + 1) = (j : Int) + 1 := by rw [IntKind.wrap_i64]; omega
      have HB3 := hide (fun o => bl_alloc HBL.out o)
      clear hp hs hxp hprv hpkv HT
      cases s with
      | true =>
        have HS2 := hide (HS.out rfl)
        clear HS HN
        go_wp2_with fail
        refine (HC.out _).mono ?_
        rintro e w2 ⟨rfl, rfl⟩
        clear x0 x1 x2 x3 x4 x5 x6 x7
        go_wp2
        refine ⟨?_, by first | (simp [intOf]; done) | (simp [intOf]; omega)⟩
        first
          | exact ⟨j + 1, by omega, by go_num, HS2, hide (HB3.out _)⟩
          | ((repeat apply Exists.intro); exact ⟨⟨j + 1, by omega, by go_num, HS2, hide (HB3.out _)⟩, rfl⟩)
      | false =>
        have HN2 := hide (HN.out rfl)
        clear HS HN
        go_wp2_with fail
        refine (HC.out _).mono ?_
        rintro e w2 ⟨rfl, rfl⟩
        clear x0 x1 x2 x3 x4 x5 x6 x7
        go_wp2
        go_ret
        exact ⟨ret_bool HN2.out.symm, HB3.out _⟩
    · obtain rfl : j = l.length := by omega
      have hj := HT.out
      rw [List.take_length, HR.out] at hj
      have HE := hide hj
      have gl : decide ((l.length : Int) < (l.length : Int)) = false := by simp
      have gl' : decide (l.length < l.length) = false := by simp
      clear hj hlt HT
      go_wp2
      go_ret
      exact ⟨ret_bool HE.out.symm, HBL.out⟩
end Go.Proofs.Ytcgphknnnjpbkaa
